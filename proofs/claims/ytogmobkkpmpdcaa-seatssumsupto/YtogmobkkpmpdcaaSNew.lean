/-
  New, newSeat, watches, waits.
-/
import Derived.Test.YtogmobkkpmpdcaaSAt
namespace Go.Proofs.Ytogmobkkpmpdcaa
open Go.RowKit
def sx0 (mb qb qm : Nat) : Sx := ⟨mb, qb, qm, 0, fun _ => none, 0, []⟩
set_option maxHeartbeats 2000000 in
set_option maxRecDepth 1000000 in
theorem sNew_any (w : World) : Calls Try.prog 7 #[] w fun e w' => ∃ sb lab mb qb qm, e = .returned (ptrV sb) ∧ SAt w.heap.size w' lab sb (sx0 mb qb qm) ∧ Below w.heap.size w w' := by
  have hmm := @run_makeMap Try.prog
  have CQ : Hid (∀ w : World, Calls Try.prog 24 #[] w fun e w' => e = .returned (ptrV (w.heap.size + 1)) ∧ que.QueueAtI w' (w.heap.size + 1) w.heap.size 0 [] ∧ Below w.heap.size w w') := que.newI
  obtain ⟨w1, hw1⟩ : ∃ w1, w1 = w.alloc (.map #[] 0) := ⟨_, rfl⟩
  have HW1 : Hid (w1 = w.alloc (.map #[] 0)) := hw1
  have B1 : Hid (Below w.heap.size w w1 ∧ w1.heap.size = w.heap.size + 1) := by rw [hw1]; exact ⟨(Below.refl _ w).alloc (Nat.le_refl _) _, by simp⟩
  have T1 : Hid (VTabI w1 w.heap.size 0 (fun _ => none)) := by rw [hw1]; exact VTabI.made w
  clear hw1
  go_enter Try.func7, Try.ntmps7
  go_wp2_with (first
    | (go_at_call 24; rw [← HW1.out]; refine (CQ.out _).mono ?_; rintro e w2 ⟨rfl, q2, b2⟩; have H2 : Hid (que.QueueAtI w2 (w1.heap.size + 1) w1.heap.size 0 [] ∧ Below w1.heap.size w1 w2) := ⟨q2, b2⟩; clear q2 b2))
  go_ret
  obtain ⟨q2, b2⟩ := H2.out
  obtain ⟨b1, z1⟩ := B1.out
  have s2 := b2.size
  have ba : Below w2.heap.size w2 (w2.alloc (.cells #[.map (some w.heap.size), .pointer (some ⟨w1.heap.size + 1, 0, none⟩)] 51)) := (Below.refl _ w2).alloc (Nat.le_refl _) _
  have l1 := q2.lt (.inl rfl : que.Mine _ w1.heap.size [] (w1.heap.size + 1))
  have b13 := b2.trans (ba.mono s2)
  refine ⟨w2.heap.size, fun k => if k < w.heap.size then -3 else if k = w.heap.size then -1 else if k < w2.heap.size then -2 else -1, w.heap.size, w1.heap.size + 1, w1.heap.size, rfl, ⟨heap_alloc_new w2 _, ((T1.out.block (b13.block _ (by omega)))).congr rfl (fun _ => rfl), q2.below ba, (fun i x h => by cases h), ?_, ?_, fun k hk => ?_, (fun i x h => by cases h), (fun k hk => if_pos hk), ?_⟩, b1.trans (b13.mono (by omega))⟩
  · rw [if_neg (by omega), if_neg (by omega), if_neg (by omega)]
  · show (if w.heap.size < w.heap.size then (-3 : Int) else if w.heap.size = w.heap.size then -1 else _) = _
    rw [if_neg (by omega), if_pos rfl]
  · rcases hk with rfl | rfl | ⟨r, hr, _⟩
    · show (if w1.heap.size + 1 < w.heap.size then (-3 : Int) else if w1.heap.size + 1 = w.heap.size then -1 else if w1.heap.size + 1 < w2.heap.size then -2 else -1) = _
      rw [if_neg (by omega), if_neg (by omega), if_pos (by omega)]
    · show (if w1.heap.size < w.heap.size then (-3 : Int) else if w1.heap.size = w.heap.size then -1 else if w1.heap.size < w2.heap.size then -2 else -1) = _
      rw [if_neg (by omega), if_neg (by omega), if_pos (by omega)]
    · cases hr
  · have := b13.size
    exact Nat.le_trans (by omega) this
set_option maxHeartbeats 400000 in
set_option maxRecDepth 1000000 in
theorem bnew_any (w : World) : Calls Try.prog 30 #[] w fun e w' => ∃ b mb, e = .returned (.pointer (some ⟨b, 0, none⟩)) ∧ (∃ c, w'.heap[b]? = some (.cells c 91 (0, 0))) ∧ BookAt w' b mb 0 (fun _ => none) ∧ Below w.heap.size w w' ∧ w.heap.size ≤ b ∧ w.heap.size ≤ mb := by
  have hmm := @run_makeMap Try.prog
  go_enter Try.func30, Try.ntmps30
  go_wp2_with fail
  go_ret
  have hk : Below w.heap.size w ((w.alloc (.map #[] 0)).alloc (.cells #[.map (some w.heap.size)] 91)) := ((Below.refl _ w).alloc (Nat.le_refl _) _).alloc (by simp) _
  have hk2 : Below (w.alloc (.map #[] 0)).heap.size (w.alloc (.map #[] 0)) ((w.alloc (.map #[] 0)).alloc (.cells #[.map (some w.heap.size)] 91)) := (Below.refl _ _).alloc (Nat.le_refl _) _
  exact ⟨_, w.heap.size, rfl, ⟨_, by rw [show w.heap.size + 1 = (w.alloc (.map #[] 0)).heap.size by simp]; exact heap_alloc_new _ _⟩, ⟨by rw [show w.heap.size + 1 = (w.alloc (.map #[] 0)).heap.size by simp]; exact cell_alloc _ _ _, (Tab.made w).below hk2, (fun _ _ h => by cases h), (fun _ _ h => by cases h)⟩, hk, by omega, Nat.le_refl _⟩
abbrev defB : ByteArray := ⟨#[100, 101, 102, 97, 117, 108, 116]⟩
abbrev defT : Text := [100, 101, 102, 97, 117, 108, 116]
/-- A connection that has just come. -/
def cn0 (blk bb bm : Nat) : Cn := ⟨blk, bb, bm, defB, 1, putAt (fun _ => none) defT 1, 0, 0, false, false⟩
set_option maxHeartbeats 2000000 in
set_option maxRecDepth 1000000 in
theorem newSeat_any (w : World) : Calls Try.prog 41 #[] w fun e w' => ∃ blk bb bm, e = .returned (ptrV blk) ∧ (∀ (lab : Nat → Int) (i : Int), (∀ k, w.heap.size ≤ k → k < w'.heap.size → lab k = i) → CnAt w' lab i (cn0 blk bb bm)) ∧ Below w.heap.size w w' := by
  have CN : Hid (Calls Try.prog 30 #[] w fun e w' => ∃ b mb, e = .returned (.pointer (some ⟨b, 0, none⟩)) ∧ (∃ c, w'.heap[b]? = some (.cells c 91 (0, 0))) ∧ BookAt w' b mb 0 (fun _ => none) ∧ Below w.heap.size w w' ∧ w.heap.size ≤ b ∧ w.heap.size ≤ mb) := bnew_any w
  go_enter Try.func41, Try.ntmps41
  go_upto_region 2 with (go_at_call 30; refine CN.out.mono ?_; rintro e w1 ⟨b, mb, rfl, h0, h1, h2, h3, h4⟩; have H0 : Hid (∃ c, w1.heap[b]? = some (.cells c 91 (0, 0))) := h0; have H1 : Hid (BookAt w1 b mb 0 (fun _ => none) ∧ Below w.heap.size w w1 ∧ w.heap.size ≤ b ∧ w.heap.size ≤ mb) := ⟨h1, h2, h3, h4⟩; clear h0 h1 h2 h3 h4)
  obtain ⟨w2, hw2⟩ : ∃ w2, w2 = w1.alloc (.cells #[.string defB, ptrV b, .int .i64 0, .int .i64 0, .bool false, .bool false] 64) := ⟨_, rfl⟩
  have HW2 : Hid (w2 = w1.alloc (.cells #[.string defB, ptrV b, .int .i64 0, .int .i64 0, .bool false, .bool false] 64)) := hw2
  have B2 : Below w1.heap.size w1 w2 := by rw [hw2]; exact (Below.refl _ w1).alloc (Nat.le_refl _) _
  have X2 : w2.heap[w1.heap.size]? = some (.cells #[.string defB, ptrV b, .int .i64 0, .int .i64 0, .bool false, .bool false] 64 (0, 0)) := by rw [hw2]; exact heap_alloc_new w1 _
  have c1 : w2.cell? ⟨w1.heap.size, 1, none⟩ = some (ptrV b) := by simp [World.cell?, X2]
  have HX2 : Hid (w2.heap[w1.heap.size]? = some (.cells #[.string defB, ptrV b, .int .i64 0, .int .i64 0, .bool false, .bool false] 64 (0, 0)) ∧ Below w1.heap.size w1 w2) := ⟨X2, B2⟩
  have CH : Hid (Calls Try.prog 31 #[.pointer (some ⟨b, 0, none⟩), .string defB] w2 fun e w' => e = holdE (fun _ => none) defB.data.toList ∧ BookAt w' b mb (holdN (fun _ => none) 0 defB.data.toList) (holdG (fun _ => none) defB.data.toList) ∧ Kept (fun k => k = mb) w2 w') :=
    hold_any w2 b mb 0 _ defB (H1.out.1.below B2) (by decide) (by decide) (by decide)
  clear hw2 X2 B2
  go_wp2_with (first
    | (go_at_call 31; rw [← HW2.out]; refine CH.out.mono ?_; rintro e w3 ⟨rfl, h3, k3⟩; have H3 : Hid (BookAt w3 b mb (holdN (fun _ => none) 0 defB.data.toList) (holdG (fun _ => none) defB.data.toList) ∧ Kept (fun k => k = mb) w2 w3) := ⟨h3, k3⟩; clear h3 k3))
  go_ret
  obtain ⟨h3, k3⟩ := H3.out
  obtain ⟨x2, b2⟩ := HX2.out
  obtain ⟨h1, b1, g1, g2⟩ := H1.out
  have s1 := b1.size
  have s2 := b2.size
  have l1 : b < w1.heap.size := cell_lt h1.cell
  have l2 := h1.tab.lt
  have s3 := k3.size
  have lx := (Array.getElem?_eq_some_iff.1 x2).1
  refine ⟨w1.heap.size, b, mb, rfl, fun lab i hl => ⟨(k3.block _ lx (fun e => ?_)).trans x2, ?_, ?_, hl _ (by show w.heap.size ≤ w1.heap.size; omega) (by show w1.heap.size < _; omega), hl _ g1 (by show b < _; omega), hl _ g2 (by show mb < _; omega)⟩, ?_⟩
  · have e : w1.heap.size = mb := e
    omega
  · exact h3
  · obtain ⟨c, hc⟩ := H0.out
    refine ⟨c, (k3.block b (by omega) (fun e => ?_)).trans ((b2.block b l1).trans hc)⟩
    have e : b = mb := e
    obtain ⟨es, cl, hm⟩ := h1.tab.map
    rw [e, hm] at hc
    cases hc
  · exact b1.trans ((b2.mono s1).trans (k3.below (by omega) (fun k hk e => by have e : k = mb := e; omega)))
end Go.Proofs.Ytogmobkkpmpdcaa
