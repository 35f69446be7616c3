/-
  The walk of the statements' head.
-/
import Derived.Test.YtogmobkkpmpdcaaSGet
import Derived.Test.YtogmobkkpmpdcaaSFirst
namespace Go.Proofs.Ytogmobkkpmpdcaa
open Go.RowKit
theorem s_not_nil_in (w : World) (d : Nat) (a : Addr) : (Op.equalIn (d + 1) 24 (.pointer (some a)) (.pointer none)).run Try.prog w = .ok false w := by
  simp [Op.equalIn, run_underlying Try.underlying24]
theorem s_not_nil (w : World) (a : Addr) : (binOp .eql 24 (.pointer (some a)) (.pointer none)).run Try.prog w = .ok (.bool false) w := by
  simp only [binOp]
  simp [show Op.equal 24 (.pointer (some a)) (.pointer none) = Op.equalIn (9999 + 1) 24 (.pointer (some a)) (.pointer none) from rfl, s_not_nil_in w 9999 a]
def sh1 (mb qb qm blk bb bm : Nat) : Sx := { sx0 mb qb qm with F := updF (sx0 mb qb qm).F 3 (some (cn0 blk bb bm)), nn := 0 + 1 }
def shG : Text → Option Int := putAt (putAt (fun _ => none) defT 1) [97] 1
def shC (blk bb bm : Nat) : Cn := { cn0 blk bb bm with n := 2, g := shG }
def sh2 (mb qb qm blk bb bm : Nat) : Sx := { sh1 mb qb qm blk bb bm with F := updF (sh1 mb qb qm blk bb bm).F 3 (some (shC blk bb bm)) }
def sh3 (mb qb qm blk bb bm k : Nat) : Sx := waitS (sh2 mb qb qm blk bb bm) 3 (-1) k (shC blk bb bm)
def shL : List RowT := [([97], 1), (defT, 1)]
theorem shL_listed : Listed shG shL := by
  refine ⟨by simp only [shL, List.pairwise_cons]; exact ⟨fun y hy => by obtain rfl := List.mem_singleton.1 hy; decide, ⟨fun y hy => (by cases hy), List.Pairwise.nil⟩⟩, fun t v => ?_⟩
  unfold shL shG putAt
  simp only [List.mem_cons, Prod.mk.injEq, List.not_mem_nil, or_false]
  constructor
  · rintro (⟨rfl, rfl⟩ | ⟨rfl, rfl⟩)
    · rfl
    · rfl
  · intro h
    split at h
    · rename_i e; cases h; exact .inl ⟨e, rfl⟩
    · split at h
      · rename_i e; cases h; exact .inr ⟨e, rfl⟩
      · cases h
theorem sh_watch (mb qb qm blk bb bm : Nat) : watchS (sh1 mb qb qm blk bb bm) 3 [97] = sh2 mb qb qm blk bb bm := by
  show (if validB [97] then { sh1 mb qb qm blk bb bm with F := updF (sh1 mb qb qm blk bb bm).F 3 (some (watchC (cn0 blk bb bm) [97])) } else sh1 mb qb qm blk bb bm) = _
  rw [show validB [97] = true by kernel_rfl, if_pos rfl]
  unfold sh2
  have : watchC (cn0 blk bb bm) [97] = shC blk bb bm := by
    unfold watchC
    rw [if_neg (by show ¬ (0 : Int) < held (putAt (fun _ => none) defT 1) [97]; decide)]
    show ({ cn0 blk bb bm with n := holdN (cn0 blk bb bm).g 1 [97], g := holdG (cn0 blk bb bm).g [97] } : Cn) = _
    rw [show holdN (cn0 blk bb bm).g 1 [97] = 2 by kernel_rfl]
    unfold holdG
    rw [show validB [97] = true by kernel_rfl, if_pos rfl]
    rfl
  rw [this]
theorem sh_lined (mb qb qm blk bb bm k : Nat) : Lined (sh3 mb qb qm blk bb bm k) := by
  refine ⟨fun r hr => ?_, fun i x hx => ?_⟩
  · obtain rfl : r = ⟨k, 1, .int .i64 3⟩ := List.mem_singleton.1 hr
    exact ⟨3, _, rfl, rfl, rfl⟩
  · by_cases e : i = 3
    · subst e
      have hx : some ({ shC blk bb bm with tk := 0 + 1, un := -1 } : Cn) = some x := hx
      cases hx
      exact .inr ⟨⟨k, 1, .int .i64 3⟩, List.mem_singleton.2 rfl, rfl, rfl⟩
    · simp [sh3, waitS, sh2, sh1, sx0, updF, e] at hx
theorem sh2_few (mb qb qm blk bb bm : Nat) : FewS (sh2 mb qb qm blk bb bm) 1000000000 := by
  refine ⟨by show 0 + 1 ≤ 1000000000; decide, by show (0 : Int) ≤ 1000000000; decide, by show 0 ≤ 1000000000; decide, fun i x hx => ?_⟩
  by_cases e : i = 3
  · subst e
    have hx : some (shC blk bb bm) = some x := hx
    cases hx
    show 2 ≤ 1000000000
    decide
  · simp [sh2, sh1, sx0, updF, e] at hx
set_option maxHeartbeats 8000000 in
set_option maxRecDepth 1000000 in
theorem shown_any (w : World) : Calls Try.prog 6 #[] w fun e w' => e = .returned (.bool true) ∧ Below w.heap.size w w' := by
  have hnn := fun w p => s_not_nil w p
  have C0 : Hid (Calls Try.prog 7 #[] w fun e w' => ∃ sb lab mb qb qm, e = .returned (ptrV sb) ∧ SAt w.heap.size w' lab sb (sx0 mb qb qm) ∧ Below w.heap.size w w') := sNew_any w
  have C1 : Hid (∀ W lab sb mb qb qm, SAt w.heap.size W lab sb (sx0 mb qb qm) → Calls Try.prog 17 #[ptrV sb, .int .i64 3] W fun e w' => e = .returned (.int .i64 0) ∧ ∃ lab' blk bb bm, SAt w.heap.size w' lab' sb (sh1 mb qb qm blk bb bm) ∧ Below w.heap.size W w') := fun W lab sb mb qb qm h => by
    refine (open_any 3 _ W lab sb _ h (by decide) (by show 0 < maxLen; decide)).mono ?_
    rintro e w' ⟨rfl, lab', S', h1, h2, h3, _⟩
    have e0 : openE (sx0 mb qb qm) 3 = 0 := rfl
    rcases h2 with ⟨h2, _⟩ | ⟨_, blk, bb, bm, rfl⟩
    · exact absurd e0 h2
    · exact ⟨by rw [e0], lab', blk, bb, bm, h1, h3⟩
  have C2 : Hid (∀ W lab sb mb qb qm blk bb bm, SAt w.heap.size W lab sb (sh1 mb qb qm blk bb bm) → Calls Try.prog 17 #[ptrV sb, .int .i64 64] W fun e w' => e = .returned (.int .i64 160) ∧ ∃ lab', SAt w.heap.size w' lab' sb (sh1 mb qb qm blk bb bm) ∧ Below w.heap.size W w') := fun W lab sb mb qb qm blk bb bm h => by
    refine (open_any 64 _ W lab sb _ h (by decide) (by show 0 + 1 < maxLen; decide)).mono ?_
    rintro e w' ⟨rfl, lab', S', h1, h2, h3, _⟩
    have e0 : openE (sh1 mb qb qm blk bb bm) 64 = 160 := rfl
    rcases h2 with ⟨_, rfl⟩ | ⟨h2, _⟩
    · exact ⟨by rw [e0], lab', h1, h3⟩
    · rw [e0] at h2; cases h2
  have C3 : Hid (∀ W lab sb mb qb qm blk bb bm, SAt w.heap.size W lab sb (sh1 mb qb qm blk bb bm) → Calls Try.prog 21 #[ptrV sb, .int .i64 3, .string ⟨#[97]⟩] W fun e w' => e = .returned (.tuple #[.int .i64 2, .int .i64 0]) ∧ SAt w.heap.size w' lab sb (sh2 mb qb qm blk bb bm) ∧ Below w.heap.size W w') := fun W lab sb mb qb qm blk bb bm h => by
    refine (watch_any 3 ⟨#[97]⟩ _ W lab sb _ h (by decide) (fun x hx => by have hx : some (cn0 blk bb bm) = some x := hx; cases hx; show 1 < 1000000000; decide)).mono ?_
    rintro e w' ⟨rfl, h1, h2, _⟩
    have e0 : watchV (sh1 mb qb qm blk bb bm) 3 (⟨#[97]⟩ : ByteArray).data.toList = 2 := by kernel_rfl
    have e1 : findE (sh1 mb qb qm blk bb bm) 3 (⟨#[97]⟩ : ByteArray).data.toList = 0 := by kernel_rfl
    have e2 : watchS (sh1 mb qb qm blk bb bm) 3 (⟨#[97]⟩ : ByteArray).data.toList = sh2 mb qb qm blk bb bm := sh_watch mb qb qm blk bb bm
    rw [e2] at h1
    exact ⟨by rw [e0, e1], h1, h2⟩
  have C4 : Hid (∀ W lab sb mb qb qm blk bb bm, SAt w.heap.size W lab sb (sh2 mb qb qm blk bb bm) → Calls Try.prog 18 #[ptrV sb, .int .i64 3, .int .i64 (-1)] W fun e w' => e = .returned (.int .i64 0) ∧ ∃ lab' k, SAt w.heap.size w' lab' sb (sh3 mb qb qm blk bb bm k) ∧ Below w.heap.size W w') := fun W lab sb mb qb qm blk bb bm h => by
    refine (wait_any 3 (-1) _ W lab sb _ h (by decide) (sh2_few mb qb qm blk bb bm)).mono ?_
    rintro e w' ⟨rfl, lab', S', h1, h2, h3, _⟩
    have e0 : waitE (sh2 mb qb qm blk bb bm) 3 (-1) = 0 := rfl
    rcases h2 with ⟨h2, _⟩ | ⟨_, k, x, hx, _, rfl⟩
    · exact absurd e0 h2
    · have hx : some (shC blk bb bm) = some x := hx
      cases hx
      exact ⟨by rw [e0], lab', k, h1, h3⟩
  have C5 : Hid (∀ W lab sb mb qb qm blk bb bm k, SAt w.heap.size W lab sb (sh3 mb qb qm blk bb bm k) → Calls Try.prog 10 #[ptrV sb, .int .i64 3] W fun e w' => ∃ gb cap, e = .returned (.tuple #[.agg #[.int .i64 3, .string ⟨#[100, 101, 102, 97, 117, 108, 116]⟩, .slice (some ⟨gb, 0, none⟩) 2 cap, .bool true, .int .i64 (-1), .bool false, .bool false], .bool true]) ∧ w'.cell? ⟨gb, 0, none⟩ = some (.string ⟨#[97]⟩) ∧ gb < w'.heap.size ∧ Below W.heap.size W w') := fun W lab sb mb qb qm blk bb bm k h => by
    refine (get_any 3 _ W lab sb _ { shC blk bb bm with tk := 0 + 1, un := -1 } shL h rfl shL_listed (by decide) (by show 2 ≤ 1073741823; decide)).mono ?_
    rintro e w' ⟨gb, cap, rfl, ho, hb⟩
    refine ⟨gb, cap, rfl, ?_, ?_, hb⟩
    · rcases ho.2 with ⟨h0, _⟩ | ⟨g, c, cur, hv, _, hg, _, _, _, ht⟩
      · cases h0
      · cases hv
        have : (cur.toList.take (2 * 1))[0]? = some (encStr [97]) := by rw [show cur.toList.take (2 * 1) = _ from ht]; rfl
        rw [List.getElem?_take_of_lt (by decide)] at this
        simpa [World.cell?, hg] using this
    · exact (World.ownsRow.lt ho gb rfl).2
  have C6 : Hid (∀ W lab sb mb qb qm blk bb bm k, SAt w.heap.size W lab sb (sh3 mb qb qm blk bb bm k) → Calls Try.prog 15 #[ptrV sb, .string ⟨#[97]⟩] W fun e w' => e = .returned (.int .i64 3) ∧ Below W.heap.size W w') := fun W lab sb mb qb qm blk bb bm k h => by
    refine (first_any ⟨#[97]⟩ _ W lab sb _ h (sh_lined ..) (by decide) (by show 1 ≤ _; decide)).mono ?_
    rintro e w' ⟨rfl, h1⟩
    have e0 : firstW (sh3 mb qb qm blk bb bm k) (⟨#[97]⟩ : ByteArray).data.toList = 3 := by kernel_rfl
    exact ⟨by rw [e0], h1⟩
  have C7 : Hid (∀ W lab sb mb qb qm blk bb bm k, SAt w.heap.size W lab sb (sh3 mb qb qm blk bb bm k) → Calls Try.prog 15 #[ptrV sb, .string ⟨#[98]⟩] W fun e w' => e = .returned (.int .i64 (-1)) ∧ Below W.heap.size W w') := fun W lab sb mb qb qm blk bb bm k h => by
    refine (first_any ⟨#[98]⟩ _ W lab sb _ h (sh_lined ..) (by decide) (by show 1 ≤ _; decide)).mono ?_
    rintro e w' ⟨rfl, h1⟩
    have e0 : firstW (sh3 mb qb qm blk bb bm k) (⟨#[98]⟩ : ByteArray).data.toList = -1 := by kernel_rfl
    exact ⟨by rw [e0], h1⟩
  go_enter Try.func6, Try.ntmps6
  go_upto_region 9 with (first
    | (go_at_call 7; refine C0.out.mono ?_; rintro e w0 ⟨sb, lab0, mb, qb, qm, rfl, s0, b0⟩; have H0 : Hid (SAt w.heap.size w0 lab0 sb (sx0 mb qb qm) ∧ Below w.heap.size w w0) := ⟨s0, b0⟩; clear s0 b0 C0)
    | (go_at_call 17; refine (C1.out _ _ _ _ _ _ H0.out.1).mono ?_; rintro e w1 ⟨rfl, lab1, blk, bb, bm, s1, b1⟩; have H1 : Hid (SAt w.heap.size w1 lab1 sb (sh1 mb qb qm blk bb bm) ∧ Below w.heap.size w w1) := ⟨s1, H0.out.2.trans b1⟩; clear s1 b1 H0 C1)
    | (go_at_call 17; refine (C2.out _ _ _ _ _ _ _ _ _ H1.out.1).mono ?_; rintro e w2 ⟨rfl, lab2, s2, b2⟩; have H2 : Hid (SAt w.heap.size w2 lab2 sb (sh1 mb qb qm blk bb bm) ∧ Below w.heap.size w w2) := ⟨s2, H1.out.2.trans b2⟩; clear s2 b2 H1 C2)
    | (go_at_call 21; refine (C3.out _ _ _ _ _ _ _ _ _ H2.out.1).mono ?_; rintro e w3 ⟨rfl, s3, b3⟩; have H3 : Hid (SAt w.heap.size w3 lab2 sb (sh2 mb qb qm blk bb bm) ∧ Below w.heap.size w w3) := ⟨s3, H2.out.2.trans b3⟩; clear s3 b3 H2 C3)
    | (go_at_call 18; refine (C4.out _ _ _ _ _ _ _ _ _ H3.out.1).mono ?_; rintro e w4 ⟨rfl, lab4, k, s4, b4⟩; have H4 : Hid (SAt w.heap.size w4 lab4 sb (sh3 mb qb qm blk bb bm k) ∧ Below w.heap.size w w4) := ⟨s4, H3.out.2.trans b4⟩; clear s4 b4 H3 C4)
    | (go_at_call 10; refine (C5.out _ _ _ _ _ _ _ _ _ _ H4.out.1).mono ?_; rintro e w5 ⟨gb, cap, rfl, g5, l5, b5⟩; have H5 : Hid (SAt w.heap.size w5 lab4 sb (sh3 mb qb qm blk bb bm k) ∧ Below w.heap.size w w5) := ⟨H4.out.1.later b5, H4.out.2.trans (b5.mono H4.out.2.size)⟩; clear b5 H4 C5))
  obtain ⟨w6, hw6⟩ : ∃ w6, w6 = w5.alloc (.cells #[.int .i64 3, .string ⟨#[100, 101, 102, 97, 117, 108, 116]⟩, .slice (some ⟨gb, 0, none⟩) 2 cap, .bool true, .int .i64 (-1), .bool false, .bool false] 33) := ⟨_, rfl⟩
  rw [← hw6]
  have b6 : Below w5.heap.size w5 w6 := by rw [hw6]; exact (Below.refl _ w5).alloc (Nat.le_refl _) _
  have x6 : w6.heap[w5.heap.size]? = some (.cells #[.int .i64 3, .string ⟨#[100, 101, 102, 97, 117, 108, 116]⟩, .slice (some ⟨gb, 0, none⟩) 2 cap, .bool true, .int .i64 (-1), .bool false, .bool false] 33 (0, 0)) := by rw [hw6]; exact heap_alloc_new w5 _
  have q1 : w6.cell? ⟨w5.heap.size, 1, none⟩ = some (.string ⟨#[100, 101, 102, 97, 117, 108, 116]⟩) := by simp [World.cell?, x6]
  have q2 : w6.cell? ⟨w5.heap.size, 2, none⟩ = some (.slice (some ⟨gb, 0, none⟩) 2 cap) := by simp [World.cell?, x6]
  have q3 : w6.cell? ⟨w5.heap.size, 3, none⟩ = some (.bool true) := by simp [World.cell?, x6]
  have q4 : w6.cell? ⟨w5.heap.size, 4, none⟩ = some (.int .i64 (-1)) := by simp [World.cell?, x6]
  have g6 : w6.cell? ⟨gb, 0, none⟩ = some (.string ⟨#[97]⟩) := (b6.cell (p := ⟨gb, 0, none⟩) l5).trans g5
  have H6 : Hid (SAt w.heap.size w6 lab4 sb (sh3 mb qb qm blk bb bm k) ∧ Below w.heap.size w w6) := ⟨H5.out.1.later b6, H5.out.2.trans (b6.mono H5.out.2.size)⟩
  clear hw6 b6 x6 g5 l5 H5
  go_wp2_with (first
    | (go_at_call 15; refine (C6.out _ _ _ _ _ _ _ _ _ _ H6.out.1).mono ?_; rintro e w7 ⟨rfl, b7⟩; have H7 : Hid (SAt w.heap.size w7 lab4 sb (sh3 mb qb qm blk bb bm k) ∧ Below w.heap.size w w7) := ⟨H6.out.1.later b7, H6.out.2.trans (b7.mono H6.out.2.size)⟩; clear b7 H6 C6)
    | (go_at_call 15; refine (C7.out _ _ _ _ _ _ _ _ _ _ H7.out.1).mono ?_; rintro e w8 ⟨rfl, b8⟩; have H8 : Hid (Below w.heap.size w w8) := H7.out.2.trans (b8.mono H7.out.2.size); clear b8 H7 C7))
  go_ret
  exact ⟨rfl, H8.out⟩
end Go.Proofs.Ytogmobkkpmpdcaa
