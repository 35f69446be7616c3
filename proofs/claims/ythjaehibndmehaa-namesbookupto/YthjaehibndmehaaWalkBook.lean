/-
  The walk of NamesBook.
-/
import Derived.Test.YthjaehibndmehaaStepW
import Derived.Test.YthjaehibndmehaaShown
namespace Go.Proofs.Ythjaehibndmehaa
open Go.RowKit

/-- In the midst of the script: the boxes of both pairs. -/
def Bx2 (w0 W : World) (lab : Nat → Tag) (Hb sz : Nat) (es : List Ent) (P Q : Pp) (k B3 B4 : Nat) : Prop :=
  BS w0 W lab Hb sz es P Q k 4194304 1 2 ∧ es.length ≤ 2 * k ∧ sz ≤ 65536 ∧ (W.heap[B3]? = some (.cells #[.pointer (some ⟨P.b, 0, none⟩), .pointer (some ⟨P.db, 0, none⟩)] 30 (0, 0)) ∧ lab B3 = .user 0 ∧ w0.heap.size ≤ B3) ∧ (W.heap[B4]? = some (.cells #[.pointer (some ⟨Q.b, 0, none⟩), .pointer (some ⟨Q.db, 0, none⟩)] 30 (0, 0)) ∧ lab B4 = .user 0 ∧ w0.heap.size ≤ B4) ∧ B3 ≠ B4
section
variable {w0 W W' : World} {lab lab' : Nat → Tag} {Hb sz sz' : Nat} {es es' : List Ent} {P Q P' Q' : Pp} {k B3 B4 : Nat}
theorem Bx2.later (h : Bx2 w0 W lab Hb sz es P Q k B3 B4) (hb : Below W.heap.size W W') : Bx2 w0 W' lab Hb sz es P Q k B3 B4 := by
  obtain ⟨h1, h2, h3, ⟨h4, h5⟩, ⟨h6, h7⟩, h8⟩ := h
  exact ⟨h1.later hb, h2, h3, ⟨(hb.block B3 (Array.getElem?_eq_some_iff.1 h4).1).trans h4, h5⟩, ⟨(hb.block B4 (Array.getElem?_eq_some_iff.1 h6).1).trans h6, h7⟩, h8⟩
theorem Bx2.cells (h : Bx2 w0 W lab Hb sz es P Q k B3 B4) : W.cell? ⟨B3, 0, none⟩ = some (.pointer (some ⟨P.b, 0, none⟩)) ∧ W.cell? ⟨B3, 1, none⟩ = some (.pointer (some ⟨P.db, 0, none⟩)) ∧ W.cell? ⟨B4, 0, none⟩ = some (.pointer (some ⟨Q.b, 0, none⟩)) ∧ W.cell? ⟨B4, 1, none⟩ = some (.pointer (some ⟨Q.db, 0, none⟩)) ∧ B3 < W.heap.size ∧ B4 < W.heap.size := by
  obtain ⟨_, _, _, ⟨h4, _⟩, ⟨h6, _⟩, _⟩ := h
  exact ⟨by simp [World.cell?, h4], by simp [World.cell?, h4], by simp [World.cell?, h6], by simp [World.cell?, h6], (Array.getElem?_eq_some_iff.1 h4).1, (Array.getElem?_eq_some_iff.1 h6).1⟩
/-- The first pair has been stepped. -/
theorem Bx2.one (h : Bx2 w0 W lab Hb sz es P Q k B3 B4) (hb : BS w0 W' lab' Hb sz' es' P' Q (k + 1) 4194304 1 2) (mv : Mv lab W lab' W') (e1 : P'.b = P.b) (e2 : P'.db = P.db) (hl : es'.length ≤ es.length + 2) (hs : sz' ≤ 65536) : Bx2 w0 W' lab' Hb sz' es' P' Q (k + 1) B3 B4 := by
  obtain ⟨_, h2, _, ⟨h4, h5, h5'⟩, ⟨h6, h7, h7'⟩, h8⟩ := h
  have l4 := (Array.getElem?_eq_some_iff.1 h4).1
  have l6 := (Array.getElem?_eq_some_iff.1 h6).1
  refine ⟨hb, by omega, hs, ⟨?_, (mv.same B3 l4).trans h5, h5'⟩, ⟨(mv.kept.block B4 l6 (fun e => e h7)).trans h6, (mv.same B4 l6).trans h7, h7'⟩, h8⟩
  rw [e1, e2]
  exact (mv.kept.block B3 l4 (fun e => e h5)).trans h4
theorem Bx2.two (h : Bx2 w0 W lab Hb sz es P Q k B3 B4) (hb : BS w0 W' lab' Hb sz' es' Q' P (k + 1) 4194304 2 1) (mv : Mv lab W lab' W') (e1 : Q'.b = Q.b) (e2 : Q'.db = Q.db) (hl : es'.length ≤ es.length + 2) (hs : sz' ≤ 65536) : Bx2 w0 W' lab' Hb sz' es' P Q' (k + 1) B3 B4 := by
  obtain ⟨_, h2, _, ⟨h4, h5, h5'⟩, ⟨h6, h7, h7'⟩, h8⟩ := h
  have l4 := (Array.getElem?_eq_some_iff.1 h4).1
  have l6 := (Array.getElem?_eq_some_iff.1 h6).1
  refine ⟨hb.swap, by omega, hs, ⟨(mv.kept.block B3 l4 (fun e => e h5)).trans h4, (mv.same B3 l4).trans h5, h5'⟩, ⟨?_, (mv.same B4 l6).trans h7, h7'⟩, h8⟩
  rw [e1, e2]
  exact (mv.kept.block B4 l6 (fun e => e h7)).trans h6
end
/-- A clone of a pair. -/
theorem Pp.cloned {p : Pp} {w0 w x1 x2 : World} {k b2 mb2 db2 : Nat} {lv2 : Value} (h : p.at w0 w k) (k1 : BookAt x1 b2 mb2 p.n p.g) (bx1 : Below w.heap.size w x1) (g1 : w.heap.size ≤ b2) (g2 : w.heap.size ≤ mb2) (r2 : RefB x2 w0.heap.size db2 lv2 p.S) (bx2 : Below x1.heap.size x1 x2) (g3 : ∀ j, MineR db2 lv2 j → x1.heap.size ≤ j) :
    (⟨b2, mb2, p.n, db2, lv2, p.S, p.g⟩ : Pp).at w0 x2 k ∧ ∀ j, (⟨b2, mb2, p.n, db2, lv2, p.S, p.g⟩ : Pp).mine j → w.heap.size ≤ j := by
  have hz := h.q.below.size
  have hz1 := bx1.size
  refine ⟨⟨⟨k1.below bx2, (h.q.below.trans (bx1.mono hz)).trans (bx2.mono (by omega)), by show w0.heap.size ≤ b2; omega, by show w0.heap.size ≤ mb2; omega⟩, r2, h.l, fun e => ?_, fun j e => ?_, h.few, h.most⟩, ?_⟩
  · have := g3 _ e
    have h1 := cell_lt k1.cell
    simp only [] at h1 this
    omega
  · have := g3 j e
    omega
  · rintro j (rfl | rfl | e)
    · exact g1
    · exact g2
    · have := g3 j e
      omega
theorem Pp.new {w0 w1 w2 w3 : World} {b mb : Nat} (B1 : Below w0.heap.size w0 w1) (k1 : BookAt w2 b mb 0 (fun _ => none)) (b2 : Below w1.heap.size w1 w2) (g1 : w1.heap.size ≤ b) (g2 : w1.heap.size ≤ mb) (r : RefB w3 w0.heap.size w2.heap.size (.slice none 0 0) []) (b3 : Below w2.heap.size w2 w3) :
    (⟨b, mb, 0, w2.heap.size, .slice none 0 0, [], fun _ => none⟩ : Pp).at w0 w3 0 ∧ ∀ j, (⟨b, mb, 0, w2.heap.size, .slice none 0 0, [], fun _ => none⟩ : Pp).mine j → w1.heap.size ≤ j := by
  have hl := cell_lt k1.cell
  simp only at hl
  have hz1 := B1.size
  have hz2 := b2.size
  refine ⟨⟨⟨k1.below b3, (B1.trans (b2.mono hz1)).trans (b3.mono (by omega)), by show w0.heap.size ≤ b; omega, by show w0.heap.size ≤ mb; omega⟩, r, ⟨List.Pairwise.nil, fun t v => by simp⟩, ?_, ?_, Nat.le_refl _, fun t => by simp [Go.Proofs.Ythjaehibndmehaa.held]⟩, ?_⟩
  · rintro (e | e)
    · have e : b = w2.heap.size := e
      omega
    · cases e
  · rintro k (e | e)
    · have e : k = w2.heap.size := e
      omega
    · cases e
  · rintro j (e | e | e | e)
    · have e : j = b := e
      omega
    · have e : j = mb := e
      omega
    · have e : j = w2.heap.size := e
      omega
    · cases e
theorem Bx2.start {w0 W : World} {P Q : Pp} {Hb B3 B4 : Nat} (bel : Below w0.heap.size w0 W) (hp : P.at w0 W 0) (hq : Q.at w0 W 0) (lp : ∀ j, P.mine j → j < B3) (lq : ∀ j, Q.mine j → B3 < j ∧ j < B4) (h34 : B3 < B4 ∧ B4 < Hb ∧ w0.heap.size ≤ B3) (hH : W.heap[Hb]? = some (.cells #[.slice none 0 0, .slice none 0 0, .int .i64 0] 33 (0, 0))) (h3 : W.heap[B3]? = some (.cells #[.pointer (some ⟨P.b, 0, none⟩), .pointer (some ⟨P.db, 0, none⟩)] 30 (0, 0))) (h4 : W.heap[B4]? = some (.cells #[.pointer (some ⟨Q.b, 0, none⟩), .pointer (some ⟨Q.db, 0, none⟩)] 30 (0, 0))) : ∃ lab, Bx2 w0 W lab Hb 0 [] P Q 0 B3 B4 := by
  classical
  obtain ⟨lab, hl⟩ : ∃ lab : Nat → Tag, lab = fun j => if j = Hb then .box else if P.mine j then .user 1 else if Q.mine j then .user 2 else .user 0 := ⟨_, rfl⟩
  have e0 : lab Hb = .box := by rw [hl]; simp
  have e1 : ∀ j, P.mine j → lab j = .user 1 := fun j hj => by have := lp j hj; rw [hl]; simp only []; rw [if_neg (by omega), if_pos hj]
  have e2 : ∀ j, Q.mine j → lab j = .user 2 := fun j hj => by have := lq j hj; rw [hl]; simp only []; rw [if_neg (by omega), if_neg (fun h => by have := lp j h; omega), if_pos hj]
  have e3 : ∀ j, j ≠ Hb → ¬ P.mine j → ¬ Q.mine j → lab j = .user 0 := fun j h1 h2 h3 => by rw [hl]; simp only []; rw [if_neg h1, if_neg h2, if_neg h3]
  have nt : ∀ t, Tagged lab (.slice none 0 0) t := fun _ g h => by cases h
  refine ⟨lab, ⟨bel, ⟨.slice none 0 0, .slice none 0 0, ⟨hH, e0, by omega, ⟨World.ownsRow_nil _ _ _ _, nt _⟩, ⟨World.ownsRow_nil _ _ _ _, nt _⟩⟩, fun j e he => by simp at he⟩, fun j e he => by simp at he, fun j hj => e3 j (by omega) (fun h => by have := (Pp.lt hp h).2; omega) (fun h => by have := (Pp.lt hq h).2; omega), hp, e1, hq, e2, by decide⟩, by simp, by omega, ⟨h3, e3 B3 (by omega) (fun h => by have := lp B3 h; omega) (fun h => by have := lq B3 h; omega), h34.2.2⟩, ⟨h4, e3 B4 (by omega) (fun h => by have := lp B4 h; omega) (fun h => by have := lq B4 h; omega), by omega⟩, by omega⟩
namespace namesBook
set_option maxHeartbeats 8000000 in
set_option maxRecDepth 1000000 in
theorem walk (a : Option Addr) (c : Nat) (zs : List OpI) (w : World) (hz : IsOps w a c zs ∧ (a = none → c = 0)) (hm : zs.length ≤ 1048576) :
    Calls Try.prog 4 #[.slice a zs.length c] w fun e w' => e = .returned (.bool true) ∧ Below w.heap.size w w' := by
  have hnn := fun w p => b_not_nil w p
  have HZ := hide hz.1
  have hzc : zs.length ≤ c := hz.1.1
  clear hz
  go_enter Try.func4, Try.ntmps4
  go_wp2_with fail
  refine (shown_any _).mono ?_
  rintro e w1 ⟨rfl, b1⟩
  have B1 := hide b1
  clear b1
  have C1 := hide (new_any w1)
  go_wp2_with fail
  refine C1.out.mono ?_
  rintro e w2 ⟨bp, mp, rfl, k2, b2, g1, g2⟩
  have K2 := hide (And.intro k2 (And.intro b2 (And.intro g1 g2)))
  have hz02 : w.heap.size ≤ w2.heap.size := Nat.le_trans B1.out.size b2.size
  clear k2 b2 g1 g2 C1
  go_wp2_with fail
  refine (refNew_any w2 w hz02).mono ?_
  rintro e w3 ⟨rfl, r3, b3⟩
  have PN := hide (Pp.new B1.out K2.out.1 K2.out.2.1 K2.out.2.2.1 K2.out.2.2.2 r3 b3)
  have B13 := hide (K2.out.2.1.trans (b3.mono K2.out.2.1.size))
  clear r3 b3 K2 hz02
  go_upto_region 4 with fail
  obtain ⟨W4, hW4⟩ : ∃ W4, W4 = w3.alloc (.cells #[.pointer (some ⟨bp, 0, none⟩), .pointer (some ⟨w2.heap.size, 0, none⟩)] 30) := ⟨_, rfl⟩
  obtain ⟨B3, hB3⟩ : ∃ B3, B3 = w3.heap.size := ⟨_, rfl⟩
  obtain ⟨dp, hdp⟩ : ∃ dp, dp = w2.heap.size := ⟨_, rfl⟩
  rw [← hdp] at hW4 PN ⊢
  rw [← hW4, ← hB3]
  have B34 : Below w3.heap.size w3 W4 := by rw [hW4]; exact (Below.refl _ w3).alloc (Nat.le_refl _) _
  have q3 : W4.heap[B3]? = some (.cells #[.pointer (some ⟨bp, 0, none⟩), .pointer (some ⟨dp, 0, none⟩)] 30 (0, 0)) := by rw [hW4, hB3]; exact heap_alloc_new _ _
  have hz4 : W4.heap.size = B3 + 1 := by rw [hW4, hB3]; simp
  have B04 := hide (B1.out.trans ((B13.out.trans (B34.mono B13.out.size)).mono B1.out.size))
  have H4 := hide (And.intro q3 (And.intro hz4 (And.intro B34 hB3)))
  clear hW4 hB3 hdp B34 q3 hz4
  have C1 := hide (new_any W4)
  go_wp2_with fail
  refine C1.out.mono ?_
  rintro e w5 ⟨bq, mq, rfl, k5, b5, g1, g2⟩
  have K5 := hide (And.intro k5 (And.intro b5 (And.intro g1 g2)))
  have hz05 : w.heap.size ≤ w5.heap.size := Nat.le_trans B04.out.size b5.size
  clear k5 b5 g1 g2 C1
  go_wp2_with fail
  refine (refNew_any w5 w hz05).mono ?_
  rintro e w6 ⟨rfl, r6, b6⟩
  have QN := hide (Pp.new B04.out K5.out.1 K5.out.2.1 K5.out.2.2.1 K5.out.2.2.2 r6 b6)
  have B46 := hide (K5.out.2.1.trans (b6.mono K5.out.2.1.size))
  clear r6 b6 K5 hz05
  go_upto_region 5 with fail
  obtain ⟨W7, hW7⟩ : ∃ W7, W7 = w6.alloc (.cells #[.pointer (some ⟨bq, 0, none⟩), .pointer (some ⟨w5.heap.size, 0, none⟩)] 30) := ⟨_, rfl⟩
  obtain ⟨B4, hB4⟩ : ∃ B4, B4 = w6.heap.size := ⟨_, rfl⟩
  obtain ⟨dq, hdq⟩ : ∃ dq, dq = w5.heap.size := ⟨_, rfl⟩
  rw [← hdq] at hW7 QN ⊢
  rw [← hW7, ← hB4]
  have B67 : Below w6.heap.size w6 W7 := by rw [hW7]; exact (Below.refl _ w6).alloc (Nat.le_refl _) _
  have q4 : W7.heap[B4]? = some (.cells #[.pointer (some ⟨bq, 0, none⟩), .pointer (some ⟨dq, 0, none⟩)] 30 (0, 0)) := by rw [hW7, hB4]; exact heap_alloc_new _ _
  have hz7 : W7.heap.size = B4 + 1 := by rw [hW7, hB4]; simp
  have B47 := B46.out.trans (B67.mono B46.out.size)
  have q37 := (B47.block B3 (Array.getElem?_eq_some_iff.1 H4.out.1).1).trans H4.out.1
  have c3 : W7.cell? ⟨B3, 0, none⟩ = some (.pointer (some ⟨bp, 0, none⟩)) := by simp [World.cell?, q37]
  have c4 : W7.cell? ⟨B4, 0, none⟩ = some (.pointer (some ⟨bq, 0, none⟩)) := by simp [World.cell?, q4]
  have hl3 := (Array.getElem?_eq_some_iff.1 q37).1
  have hl4 := (Array.getElem?_eq_some_iff.1 q4).1
  obtain ⟨W8, hW8⟩ : ∃ W8, W8 = W7.alloc (.cells #[.slice none 0 0, .slice none 0 0, .int .i64 0] 33) := ⟨_, rfl⟩
  obtain ⟨Hb, hHb⟩ : ∃ Hb, Hb = W7.heap.size := ⟨_, rfl⟩
  have B78 : Below W7.heap.size W7 W8 := by rw [hW8]; exact (Below.refl _ W7).alloc (Nat.le_refl _) _
  have START : Hid (∃ lab, Bx2 w W8 lab Hb 0 [] ⟨bp, mp, 0, dp, .slice none 0 0, [], fun _ => none⟩ ⟨bq, mq, 0, dq, .slice none 0 0, [], fun _ => none⟩ 0 B3 B4) := by
    have B48 := B47.trans (B78.mono B47.size)
    have h46 := B46.out.size
    have h04 := B04.out.size
    have hz4 := H4.out.2.1
    have h34 := H4.out.2.2.2
    refine Bx2.start (B04.out.trans (B48.mono B04.out.size)) (Pair.later PN.out.1 ?_) (Pair.later QN.out.1 (B67.trans (B78.mono B67.size))) (fun j hj => ?_) (fun j hj => ?_) ⟨by omega, by omega, ?_⟩ (by rw [hW8, hHb]; exact heap_alloc_new _ _) ((B78.block B3 hl3).trans q37) ((B78.block B4 hl4).trans q4)
    · exact H4.out.2.2.1.trans (B48.mono H4.out.2.2.1.size)
    · have := (Pp.lt PN.out.1 hj).1
      omega
    · have h1 := QN.out.2 j hj
      have h2 := (Pp.lt QN.out.1 hj).1
      omega
    · have := B1.out.size
      have := B13.out.size
      omega
  have HW8 := hide (And.intro hW8 hHb)
  clear hW7 hB4 hdq B67 q4 hz7 B47 q37 hW8 hHb B78 PN QN B13 B46 H4 B04 B1
  go_upto_region 8 with fail
  rw [← HW8.out.2, ← HW8.out.1]
  clear c3 c4 hl3 hl4 HW8
  go_wp2_with fail
  go_loopw [6] (fun q wr => ∃ (i : Nat), q = .int .i64 i ∧ i ≤ zs.length ∧ Hid (∃ lab sz es P Q, Bx2 w wr lab Hb sz es P Q i B3 B4)) (fun q _ => zs.length - (intOf q).toNat)
  case atStart =>
    refine ⟨0, rfl, Nat.zero_le _, ?_⟩
    obtain ⟨lab, h⟩ := START.out
    exact ⟨lab, 0, [], _, _, h⟩
  case round =>
    clear START
    obtain ⟨i, rfl, hi, HI⟩ := hrel
    obtain ⟨lab, sz, es, P, Q, hB⟩ := HI.out
    have HBX0 := hide hB
    clear HI hB
    by_cases hlt : i < zs.length
    · have t1 : (i : Int) < (zs.length : Int) := by omega
      obtain ⟨x, hx⟩ : ∃ x, zs[i]? = some x := ⟨_, List.getElem?_eq_getElem hlt⟩
      obtain ⟨-, -, hfit, hcell⟩ := HZ.out
      have hxf := hfit x (List.mem_of_getElem? hx)
      rcases hcell with rfl | ⟨bz, oz, rfl, hbz, hcell⟩
      · simp at hlt
      have hc := hcell i x hx
      obtain ⟨xs, xk, xn, xK⟩ := x
      have hbw := HBX0.out.1.bel
      have x0 : wr.cell? ⟨bz, oz + i * 4, none⟩ = some (.bool xs) := (hbw.cell (p := ⟨bz, oz + i * 4, none⟩) hbz).trans (by simpa using hc 0 _ rfl)
      have x1 : wr.cell? ⟨bz, oz + i * 4 + 1, none⟩ = some (.int .i64 xk) := (hbw.cell (p := ⟨bz, oz + i * 4 + 1, none⟩) hbz).trans (by simpa using hc 1 _ rfl)
      have x2 : wr.cell? ⟨bz, oz + i * 4 + 2, none⟩ = some (.string xn) := (hbw.cell (p := ⟨bz, oz + i * 4 + 2, none⟩) hbz).trans (by simpa using hc 2 _ rfl)
      have x3 : wr.cell? ⟨bz, oz + i * 4 + 3, none⟩ = some (.int .i64 xK) := (hbw.cell (p := ⟨bz, oz + i * 4 + 3, none⟩) hbz).trans (by simpa using hc 3 _ rfl)
      have hxn : xn.size ≤ maxLen := hxf.2.1
      have hxK : -9223372036854775808 ≤ xK ∧ xK ≤ 9223372036854775807 := by have := hxf.2.2; simp [Lit.wf, IntKind.min, IntKind.max, IntKind.signed, IntKind.bits] at this; omega
      clear hc hcell hfit hxf hx hbw
      go_upto_region 12 with fail
      obtain ⟨wo, hwo⟩ : ∃ wo, wo = wr.alloc (.cells #[.bool xs, .int .i64 xk, .string xn, .int .i64 xK] 35) := ⟨_, rfl⟩
      obtain ⟨ob, hob⟩ : ∃ ob, ob = wr.heap.size := ⟨_, rfl⟩
      rw [← hwo, ← hob]
      have hcb : wo.heap[ob]? = some (.cells #[.bool xs, .int .i64 xk, .string xn, .int .i64 xK] 35 (0, 0)) := by rw [hwo, hob]; exact heap_alloc_new _ _
      have HBX := hide (HBX0.out.later (show Below wr.heap.size wr wo by rw [hwo]; exact (Below.refl _ wr).alloc (Nat.le_refl _) _))
      have y0 : wo.cell? ⟨ob, 0, none⟩ = some (.bool xs) := by simp [World.cell?, hcb]
      have y1 : wo.cell? ⟨ob, 1, none⟩ = some (.int .i64 xk) := by simp [World.cell?, hcb]
      have y2 : wo.cell? ⟨ob, 2, none⟩ = some (.string xn) := by simp [World.cell?, hcb]
      have y3 : wo.cell? ⟨ob, 3, none⟩ = some (.int .i64 xK) := by simp [World.cell?, hcb]
      have hlo := (Array.getElem?_eq_some_iff.1 hcb).1
      obtain ⟨m0, m1, n0, n1, l3, l4⟩ := HBX.out.cells
      clear hwo hob hcb x0 x1 x2 x3 HBX0
      by_cases h5 : xk = 5
      · subst h5
        have hki := HBX.out.1.pP.few
        have hne34 : B3 ≠ B4 := HBX.out.2.2.2.2.2
        cases xs
        · have SQ : Hid (∀ X, Below wo.heap.size wo X → X.cell? ⟨B4, 0, none⟩ = some (.pointer (some ⟨Q.b, 0, none⟩)) ∧ X.cell? ⟨B4, 1, none⟩ = some (.pointer (some ⟨Q.db, 0, none⟩))) := fun X hX => ⟨(hX.cell (p := ⟨B4, 0, none⟩) l4).trans n0, (hX.cell (p := ⟨B4, 1, none⟩) l4).trans n1⟩
          have B0 : Below wo.heap.size wo wo.drew := (Below.refl _ wo).drew
          have sq := SQ.out _ B0
          have pd := Pair.later HBX.out.1.pQ B0
          have C1 := hide (clone_any wo.drew Q.b Q.mb Q.n Q.g pd.q.q)
          have C2 : Hid (∀ X, Below wo.heap.size wo X → Calls Try.prog 14 #[.pointer (some ⟨Q.db, 0, none⟩)] X fun e w' => ∃ db' lv', e = .returned (.pointer (some ⟨db', 0, none⟩)) ∧ RefB w' w.heap.size db' lv' Q.S ∧ Below X.heap.size X w' ∧ ∀ k, MineR db' lv' k → X.heap.size ≤ k) := fun X hX => by
            have pX := Pair.later HBX.out.1.pQ hX
            exact refClone_any X w.heap.size Q.db Q.lv Q.S pX.d (by have := pX.len; omega) pX.q.below.size
          have HBB := hide (And.intro HBX.out.2.2.2.1.1 l3)
          clear pd
          go_upto_region 15 with fail
          as_aux_lemma =>
            refine wp_region_held_drew (S := fun X => X.cell? ⟨B4, 0, none⟩ = some (.pointer (some ⟨Q.b, 0, none⟩)) ∧ X.cell? ⟨B4, 1, none⟩ = some (.pointer (some ⟨Q.db, 0, none⟩))) (by kernel_rfl) sq (fun _ => ?_)
            refine H_take (i := 0) (v := .pointer (some ⟨B4, 0, none⟩)) (some 48) rfl rfl (by kernel_rfl) (by kernel_rfl) (by kernel_rfl) (fun _ _ _ h => h) rfl (fun X hX => ?_) sq ?_
            · simp [go_sem]
            simp only [Act.put, List.setIfInBounds_toArray, List.set_cons_zero, List.set_cons_succ]
            refine H_take (i := 1) (v := .pointer (some ⟨Q.b, 0, none⟩)) (some 49) rfl rfl (by kernel_rfl) (by kernel_rfl) (by kernel_rfl) (fun _ _ _ h => h) rfl (fun X hX => ?_) sq ?_
            · exact run_load1 rfl rfl Try.isAgg25 hX.1
            simp only [Act.put, List.setIfInBounds_toArray, List.set_cons_zero, List.set_cons_succ]
            refine H_take (i := 3) (v := .pointer (some ⟨B4, 1, none⟩)) (some 51) rfl rfl (by kernel_rfl) (by kernel_rfl) (by kernel_rfl) (fun _ _ _ h => h) rfl (fun X hX => ?_) sq ?_
            · simp [go_sem]
            simp only [Act.put, List.setIfInBounds_toArray, List.set_cons_zero, List.set_cons_succ]
            refine H_take (i := 4) (v := .pointer (some ⟨Q.db, 0, none⟩)) (some 52) rfl rfl (by kernel_rfl) (by kernel_rfl) (by kernel_rfl) (fun _ _ _ h => h) rfl (fun X hX => ?_) sq ?_
            · exact run_load1 rfl rfl Try.isAgg27 hX.2
            simp only [Act.put, List.setIfInBounds_toArray, List.set_cons_zero, List.set_cons_succ]
            refine H_call (i := 2) (f := 13) (args := #[.pointer (some ⟨Q.b, 0, none⟩)]) (some 50) rfl rfl (by kernel_rfl) rfl (by simp [go_sem]) (C1.out.mono ?_)
            rintro e x1 ⟨b2, mb2, rfl, k1, bx1, g1, g2⟩
            have sq1 := SQ.out _ (B0.trans (bx1.mono B0.size))
            refine ⟨_, rfl, sq1, ?_⟩
            simp only [Act.put, List.setIfInBounds_toArray, List.set_cons_zero, List.set_cons_succ]
            refine H_call (i := 5) (f := 14) (args := #[.pointer (some ⟨Q.db, 0, none⟩)]) (some 53) rfl rfl (by kernel_rfl) rfl (by simp [go_sem]) ((C2.out _ (B0.trans (bx1.mono B0.size))).mono ?_)
            rintro e x2 ⟨db2, lv2, rfl, r2, bx2, g3⟩
            have BX2 := B0.trans ((bx1.trans (bx2.mono bx1.size)).mono B0.size)
            have sq2 := SQ.out _ BX2
            refine ⟨_, rfl, sq2, ?_⟩
            simp only [Act.put, List.setIfInBounds_toArray, List.set_cons_zero, List.set_cons_succ]
            refine H_take (i := 6) (v := .agg #[.pointer (some ⟨b2, 0, none⟩), .pointer (some ⟨db2, 0, none⟩)]) (some 54) rfl rfl (by kernel_rfl) (by kernel_rfl) (by kernel_rfl) (fun _ _ _ h => h) rfl (fun X hX => ?_) sq2 ?_
            · exact run_build1 rfl (by kernel_rfl)
            simp only [Act.put, List.setIfInBounds_toArray, List.set_cons_zero, List.set_cons_succ]
            have rB := (BX2.block B3 HBB.out.2).trans HBB.out.1
            have k3 : Kept (fun j => j = B3) x2 (x2.setRow B3 #[.pointer (some ⟨b2, 0, none⟩), .pointer (some ⟨db2, 0, none⟩)]) := ⟨rfl, rfl, rfl, by simp [World.setRow], fun j _ hj => setRow_other x2 B3 j _ hj⟩
            have sq3 : (x2.setRow B3 #[.pointer (some ⟨b2, 0, none⟩), .pointer (some ⟨db2, 0, none⟩)]).cell? ⟨B4, 0, none⟩ = some (.pointer (some ⟨Q.b, 0, none⟩)) ∧ (x2.setRow B3 #[.pointer (some ⟨b2, 0, none⟩), .pointer (some ⟨db2, 0, none⟩)]).cell? ⟨B4, 1, none⟩ = some (.pointer (some ⟨Q.db, 0, none⟩)) := ⟨k3.cell (by omega) sq2.1, k3.cell (by omega) sq2.2⟩
            refine H_skip (i := 7) (w' := x2.setRow B3 #[.pointer (some ⟨b2, 0, none⟩), .pointer (some ⟨db2, 0, none⟩)]) rfl rfl (by kernel_rfl) rfl (run_storeRow rfl B3 #[.pointer (some ⟨b2, 0, none⟩), .pointer (some ⟨db2, 0, none⟩)] rfl rfl 30 _ rB (by kernel_rfl) rfl (by simp [Value.oneCell'])) sq3 ?_
            refine wpAnyH_done (by kernel_rfl) ?_ _
            have PC := Pp.cloned (Pair.later HBX.out.1.pQ B0) k1 bx1 g1 g2 r2 bx2 g3
            obtain ⟨lab2, bs2, mv2⟩ := HBX.out.1.swap.clone _ PC.1 BX2 (fun j hj => by have := PC.2 j hj; exact Nat.le_trans B0.size this)
            have bs3 := bs2.nobody k3 (fun j e hj => by subst e; exact ⟨HBX.out.2.2.2.1.2.2, (mv2.same j l3).trans HBX.out.2.2.2.1.2.1⟩)
            have rB3 : (x2.setRow B3 #[.pointer (some ⟨b2, 0, none⟩), .pointer (some ⟨db2, 0, none⟩)]).heap[B3]? = some (.cells #[.pointer (some ⟨b2, 0, none⟩), .pointer (some ⟨db2, 0, none⟩)] 30 (0, 0)) := setRow_heap _ _ _ _ _ _ rB
            have rB4 : (x2.setRow B3 #[.pointer (some ⟨b2, 0, none⟩), .pointer (some ⟨db2, 0, none⟩)]).heap[B4]? = some (.cells #[.pointer (some ⟨Q.b, 0, none⟩), .pointer (some ⟨Q.db, 0, none⟩)] 30 (0, 0)) := (setRow_other x2 B3 B4 _ (fun e => hne34 e.symm)).trans ((BX2.block B4 l4).trans HBX.out.2.2.2.2.1.1)
            obtain ⟨W9, hW9⟩ : ∃ W9, W9 = x2.setRow B3 #[.pointer (some ⟨b2, 0, none⟩), .pointer (some ⟨db2, 0, none⟩)] := ⟨_, rfl⟩
            rw [← hW9] at bs3 rB3 rB4 sq3 ⊢
            have NX := hide (show Bx2 w W9 lab2 Hb sz es ⟨b2, mb2, Q.n, db2, lv2, Q.S, Q.g⟩ Q (i + 1) B3 B4 from ⟨bs3.swap.weak (by omega), by have := HBX.out.2.1; omega, HBX.out.2.2.1, ⟨rB3, (mv2.same B3 l3).trans HBX.out.2.2.2.1.2.1, HBX.out.2.2.2.1.2.2⟩, ⟨rB4, (mv2.same B4 l4).trans HBX.out.2.2.2.2.1.2.1, HBX.out.2.2.2.2.1.2.2⟩, hne34⟩)
            obtain ⟨m0, m1, n0, n1, l3, l4⟩ := NX.out.cells
            clear hW9 bs3 rB3 rB4 sq3 k3 rB sq2 sq1 sq bs2 mv2 PC r2 bx2 g3 k1 bx1 g1 g2 BX2 B0
            go_wp2_with fail
            go_roundw
            case rel => exact ⟨i + 1, by go_num, by omega, lab2, sz, es, _, _, NX.out⟩
            case measure => simp [intOf]; omega
        · have SQ : Hid (∀ X, Below wo.heap.size wo X → X.cell? ⟨B3, 0, none⟩ = some (.pointer (some ⟨P.b, 0, none⟩)) ∧ X.cell? ⟨B3, 1, none⟩ = some (.pointer (some ⟨P.db, 0, none⟩))) := fun X hX => ⟨(hX.cell (p := ⟨B3, 0, none⟩) l3).trans m0, (hX.cell (p := ⟨B3, 1, none⟩) l3).trans m1⟩
          have B0 : Below wo.heap.size wo wo.drew := (Below.refl _ wo).drew
          have sq := SQ.out _ B0
          have pd := Pair.later HBX.out.1.pP B0
          have C1 := hide (clone_any wo.drew P.b P.mb P.n P.g pd.q.q)
          have C2 : Hid (∀ X, Below wo.heap.size wo X → Calls Try.prog 14 #[.pointer (some ⟨P.db, 0, none⟩)] X fun e w' => ∃ db' lv', e = .returned (.pointer (some ⟨db', 0, none⟩)) ∧ RefB w' w.heap.size db' lv' P.S ∧ Below X.heap.size X w' ∧ ∀ k, MineR db' lv' k → X.heap.size ≤ k) := fun X hX => by
            have pX := Pair.later HBX.out.1.pP hX
            exact refClone_any X w.heap.size P.db P.lv P.S pX.d (by have := pX.len; omega) pX.q.below.size
          have HBB := hide (And.intro HBX.out.2.2.2.2.1.1 l4)
          clear pd
          go_upto_region 14 with fail
          as_aux_lemma =>
            refine wp_region_held_drew (S := fun X => X.cell? ⟨B3, 0, none⟩ = some (.pointer (some ⟨P.b, 0, none⟩)) ∧ X.cell? ⟨B3, 1, none⟩ = some (.pointer (some ⟨P.db, 0, none⟩))) (by kernel_rfl) sq (fun _ => ?_)
            refine H_take (i := 0) (v := .pointer (some ⟨B3, 0, none⟩)) (some 41) rfl rfl (by kernel_rfl) (by kernel_rfl) (by kernel_rfl) (fun _ _ _ h => h) rfl (fun X hX => ?_) sq ?_
            · simp [go_sem]
            simp only [Act.put, List.setIfInBounds_toArray, List.set_cons_zero, List.set_cons_succ]
            refine H_take (i := 1) (v := .pointer (some ⟨P.b, 0, none⟩)) (some 42) rfl rfl (by kernel_rfl) (by kernel_rfl) (by kernel_rfl) (fun _ _ _ h => h) rfl (fun X hX => ?_) sq ?_
            · exact run_load1 rfl rfl Try.isAgg25 hX.1
            simp only [Act.put, List.setIfInBounds_toArray, List.set_cons_zero, List.set_cons_succ]
            refine H_take (i := 3) (v := .pointer (some ⟨B3, 1, none⟩)) (some 44) rfl rfl (by kernel_rfl) (by kernel_rfl) (by kernel_rfl) (fun _ _ _ h => h) rfl (fun X hX => ?_) sq ?_
            · simp [go_sem]
            simp only [Act.put, List.setIfInBounds_toArray, List.set_cons_zero, List.set_cons_succ]
            refine H_take (i := 4) (v := .pointer (some ⟨P.db, 0, none⟩)) (some 45) rfl rfl (by kernel_rfl) (by kernel_rfl) (by kernel_rfl) (fun _ _ _ h => h) rfl (fun X hX => ?_) sq ?_
            · exact run_load1 rfl rfl Try.isAgg27 hX.2
            simp only [Act.put, List.setIfInBounds_toArray, List.set_cons_zero, List.set_cons_succ]
            refine H_call (i := 2) (f := 13) (args := #[.pointer (some ⟨P.b, 0, none⟩)]) (some 43) rfl rfl (by kernel_rfl) rfl (by simp [go_sem]) (C1.out.mono ?_)
            rintro e x1 ⟨b2, mb2, rfl, k1, bx1, g1, g2⟩
            have sq1 := SQ.out _ (B0.trans (bx1.mono B0.size))
            refine ⟨_, rfl, sq1, ?_⟩
            simp only [Act.put, List.setIfInBounds_toArray, List.set_cons_zero, List.set_cons_succ]
            refine H_call (i := 5) (f := 14) (args := #[.pointer (some ⟨P.db, 0, none⟩)]) (some 46) rfl rfl (by kernel_rfl) rfl (by simp [go_sem]) ((C2.out _ (B0.trans (bx1.mono B0.size))).mono ?_)
            rintro e x2 ⟨db2, lv2, rfl, r2, bx2, g3⟩
            have BX2 := B0.trans ((bx1.trans (bx2.mono bx1.size)).mono B0.size)
            have sq2 := SQ.out _ BX2
            refine ⟨_, rfl, sq2, ?_⟩
            simp only [Act.put, List.setIfInBounds_toArray, List.set_cons_zero, List.set_cons_succ]
            refine H_take (i := 6) (v := .agg #[.pointer (some ⟨b2, 0, none⟩), .pointer (some ⟨db2, 0, none⟩)]) (some 47) rfl rfl (by kernel_rfl) (by kernel_rfl) (by kernel_rfl) (fun _ _ _ h => h) rfl (fun X hX => ?_) sq2 ?_
            · exact run_build1 rfl (by kernel_rfl)
            simp only [Act.put, List.setIfInBounds_toArray, List.set_cons_zero, List.set_cons_succ]
            have rB := (BX2.block B4 HBB.out.2).trans HBB.out.1
            have k3 : Kept (fun j => j = B4) x2 (x2.setRow B4 #[.pointer (some ⟨b2, 0, none⟩), .pointer (some ⟨db2, 0, none⟩)]) := ⟨rfl, rfl, rfl, by simp [World.setRow], fun j _ hj => setRow_other x2 B4 j _ hj⟩
            have sq3 : (x2.setRow B4 #[.pointer (some ⟨b2, 0, none⟩), .pointer (some ⟨db2, 0, none⟩)]).cell? ⟨B3, 0, none⟩ = some (.pointer (some ⟨P.b, 0, none⟩)) ∧ (x2.setRow B4 #[.pointer (some ⟨b2, 0, none⟩), .pointer (some ⟨db2, 0, none⟩)]).cell? ⟨B3, 1, none⟩ = some (.pointer (some ⟨P.db, 0, none⟩)) := ⟨k3.cell (by omega) sq2.1, k3.cell (by omega) sq2.2⟩
            refine H_skip (i := 7) (w' := x2.setRow B4 #[.pointer (some ⟨b2, 0, none⟩), .pointer (some ⟨db2, 0, none⟩)]) rfl rfl (by kernel_rfl) rfl (run_storeRow rfl B4 #[.pointer (some ⟨b2, 0, none⟩), .pointer (some ⟨db2, 0, none⟩)] rfl rfl 30 _ rB (by kernel_rfl) rfl (by simp [Value.oneCell'])) sq3 ?_
            refine wpAnyH_done (by kernel_rfl) ?_ _
            have PC := Pp.cloned (Pair.later HBX.out.1.pP B0) k1 bx1 g1 g2 r2 bx2 g3
            obtain ⟨lab2, bs2, mv2⟩ := HBX.out.1.clone _ PC.1 BX2 (fun j hj => by have := PC.2 j hj; exact Nat.le_trans B0.size this)
            have bs3 := bs2.nobody k3 (fun j e hj => by subst e; exact ⟨HBX.out.2.2.2.2.1.2.2, (mv2.same j l4).trans HBX.out.2.2.2.2.1.2.1⟩)
            have rB4 : (x2.setRow B4 #[.pointer (some ⟨b2, 0, none⟩), .pointer (some ⟨db2, 0, none⟩)]).heap[B4]? = some (.cells #[.pointer (some ⟨b2, 0, none⟩), .pointer (some ⟨db2, 0, none⟩)] 30 (0, 0)) := setRow_heap _ _ _ _ _ _ rB
            have rB3 : (x2.setRow B4 #[.pointer (some ⟨b2, 0, none⟩), .pointer (some ⟨db2, 0, none⟩)]).heap[B3]? = some (.cells #[.pointer (some ⟨P.b, 0, none⟩), .pointer (some ⟨P.db, 0, none⟩)] 30 (0, 0)) := (setRow_other x2 B4 B3 _ hne34).trans ((BX2.block B3 l3).trans HBX.out.2.2.2.1.1)
            obtain ⟨W9, hW9⟩ : ∃ W9, W9 = x2.setRow B4 #[.pointer (some ⟨b2, 0, none⟩), .pointer (some ⟨db2, 0, none⟩)] := ⟨_, rfl⟩
            rw [← hW9] at bs3 rB3 rB4 sq3 ⊢
            have NX := hide (show Bx2 w W9 lab2 Hb sz es P ⟨b2, mb2, P.n, db2, lv2, P.S, P.g⟩ (i + 1) B3 B4 from ⟨bs3.weak (by omega), by have := HBX.out.2.1; omega, HBX.out.2.2.1, ⟨rB3, (mv2.same B3 l3).trans HBX.out.2.2.2.1.2.1, HBX.out.2.2.2.1.2.2⟩, ⟨rB4, (mv2.same B4 l4).trans HBX.out.2.2.2.2.1.2.1, HBX.out.2.2.2.2.1.2.2⟩, hne34⟩)
            obtain ⟨m0, m1, n0, n1, l3, l4⟩ := NX.out.cells
            clear hW9 bs3 rB3 rB4 sq3 k3 rB sq2 sq1 sq bs2 mv2 PC r2 bx2 g3 k1 bx1 g1 g2 BX2 B0
            go_wp2_with fail
            go_roundw
            case rel => exact ⟨i + 1, by go_num, by omega, lab2, sz, es, _, _, NX.out⟩
            case measure => simp [intOf]; omega
      · have t5 : (xk == 5) = false := by simpa using h5
        have hes := HBX.out.2.1
        have hsz := HBX.out.2.2.1
        cases xs
        · have CT := hide (step_any w wo lab Hb sz es P Q i 1 2 false xk xn xK HBX.out.1 hxn hxK (by omega) (by omega) hsz)
          clear hes hsz h5
          go_upto_region 22 with (go_at_call 15; refine CT.out.mono ?_; rintro e w9 ⟨rfl, lab9, sz9, es9, P9, bs9, mv9, e1, e2, el, es'⟩; have NX := hide (HBX.out.one bs9 mv9 e1 e2 el es'); clear bs9 mv9 e1 e2 el es')
          have CH := hide (holds_any w9 w.heap.size lab9 Hb (.int .i64 (sz9 : Int)) (okA 0) es9 NX.out.1.held)
          go_wp2_with (go_at_call 16; refine CH.out.mono ?_; rintro e wq ⟨rfl, mq, hq⟩; have HQ := hide hq; clear hq)
          go_roundw
          case rel => exact ⟨i + 1, by go_num, by omega, lab9, sz9, es9, _, _, NX.out.later (by rw [HQ.out]; exact below_q (Below.refl _ _) _)⟩
          case measure => simp [intOf]; omega
        · have CT := hide (step_any w wo lab Hb sz es Q P i 2 1 true xk xn xK HBX.out.1.swap hxn hxK (by omega) (by omega) hsz)
          clear hes hsz h5
          go_upto_region 22 with (go_at_call 15; refine CT.out.mono ?_; rintro e w9 ⟨rfl, lab9, sz9, es9, P9, bs9, mv9, e1, e2, el, es'⟩; have NX := hide (HBX.out.two bs9 mv9 e1 e2 el es'); clear bs9 mv9 e1 e2 el es')
          have CH := hide (holds_any w9 w.heap.size lab9 Hb (.int .i64 (sz9 : Int)) (okA 0) es9 NX.out.1.held)
          go_wp2_with (go_at_call 16; refine CH.out.mono ?_; rintro e wq ⟨rfl, mq, hq⟩; have HQ := hide hq; clear hq)
          go_roundw
          case rel => exact ⟨i + 1, by go_num, by omega, lab9, sz9, es9, _, _, NX.out.later (by rw [HQ.out]; exact below_q (Below.refl _ _) _)⟩
          case measure => simp [intOf]; omega
    · have t1 : ¬ (i : Int) < (zs.length : Int) := by omega
      obtain ⟨m0, m1, n0, n1, l3, l4⟩ := HBX0.out.cells
      have hes := HBX0.out.2.1
      have hsz := HBX0.out.2.2.1
      have hs0 : (⟨#[]⟩ : ByteArray).size ≤ maxLen := by simp [maxLen, ByteArray.size]
      have CT1 := hide (step_any w wr lab Hb sz es P Q i 1 2 false 3 ⟨#[]⟩ 0 HBX0.out.1 hs0 (by omega) (by omega) (by omega) hsz)
      clear hes hsz
      go_upto_region 24 with fail
      go_wp2_with (first
        | (go_at_call 18
           refine CT5.out.mono ?_; rintro e wF ⟨rfl, labF, fs, hF, lF, kF⟩
           have FIN := hide (NX4.out.1.bel.trans (kF.below NX4.out.1.bel.size (fun j hj e => e 0 (NX4.out.1.low j hj))))
           clear hF lF kF)
        | (go_at_call 17
           refine CT4.out.mono ?_; rintro e wD ⟨rfl, ⟨n', lv', S', g', hp, hmi⟩, hkp⟩
           have NX4' : ∃ lab4 Q4, Bx2 w wD lab4 Hb sz2 es2 P3 Q4 (i + 1 + 1 + 1 + 1) B3 B4 := by
             obtain ⟨labB, hb, mv⟩ := NX3.out.1.swap.turn ⟨Q2.b, Q2.mb, n', Q2.db, lv', S', g'⟩ hp rfl rfl hmi hkp
             exact ⟨labB, _, NX3.out.two hb mv rfl rfl (by omega) NX3.out.2.2.1⟩
           obtain ⟨lab4, Q4, nx4⟩ := NX4'
           have NX4 := hide nx4
           have CT5 := hide (spoil_any wD w.heap.size lab4 Hb 4194304 (.int .i64 (sz2 : Int)) es2 nx4.1.held nx4.1.bel.size (by have := nx4.2.1; omega) (by omega) nx4.1.small)
           clear hp hmi hkp nx4)
        | (go_at_call 17
           refine CT3.out.mono ?_; rintro e wC ⟨rfl, ⟨n', lv', S', g', hp, hmi⟩, hkp⟩
           have NX3' : ∃ lab3 P3, Bx2 w wC lab3 Hb sz2 es2 P3 Q2 (i + 1 + 1 + 1) B3 B4 := by
             obtain ⟨labB, hb, mv⟩ := NX2.out.1.turn ⟨P1.b, P1.mb, n', P1.db, lv', S', g'⟩ hp rfl rfl hmi hkp
             exact ⟨labB, _, NX2.out.one hb mv rfl rfl (by omega) NX2.out.2.2.1⟩
           obtain ⟨lab3, P3, nx3⟩ := NX3'
           have NX3 := hide nx3
           obtain ⟨m30, m31, n30, n31, l33, l34⟩ := nx3.cells
           have CT4 := hide (ranges_any w wC Q2.b Q2.mb Q2.n Q2.db Q2.lv Q2.S Q2.g (i + 1 + 1 + 1) ⟨#[]⟩ 2 nx3.1.pQ (by omega) hs0 (by omega) nx3.1.bel.size)
           clear hp hmi hkp nx3)
        | (go_at_call 15
           refine CT2.out.mono ?_; rintro e wB ⟨rfl, lab2, sz2, es2, Q2, bs2, mv2, e1, e2, el, es'⟩
           have NX2 := hide (NX1.out.two bs2 mv2 e1 e2 el es')
           obtain ⟨m20, m21, n20, n21, l23, l24⟩ := NX2.out.cells
           have CT3 := hide (ranges_any w wB P1.b P1.mb P1.n P1.db P1.lv P1.S P1.g (i + 1 + 1) ⟨#[]⟩ 1 NX2.out.1.pP (by omega) hs0 (by omega) NX2.out.1.bel.size)
           clear bs2 mv2 e1 e2 el es')
        | (go_at_call 15
           refine CT1.out.mono ?_; rintro e wA ⟨rfl, lab1, sz1, es1, P1, bs1, mv1, e1, e2, el, es'⟩
           have NX1 := hide (HBX0.out.one bs1 mv1 e1 e2 el es')
           obtain ⟨m10, m11, n10, n11, l13, l14⟩ := NX1.out.cells
           have CT2 := hide (step_any w wA lab1 Hb sz1 es1 Q P1 (i + 1) 2 1 false 3 ⟨#[]⟩ 0 NX1.out.1.swap hs0 (by omega) (by omega) (by have := NX1.out.2.1; omega) NX1.out.2.2.1)
           clear bs1 mv1 e1 e2 el es'))
      go_ret
      exact ⟨rfl, FIN.out⟩
end namesBook
end Go.Proofs.Ythjaehibndmehaa
