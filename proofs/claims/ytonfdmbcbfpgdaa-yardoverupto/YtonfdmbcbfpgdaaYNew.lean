/-
  A new yard, a new tube.
-/
import Derived.Test.YtonfdmbcbfpgdaaYRank
namespace Go.Proofs.Ytonfdmbcbfpgdaa
open Go.RowKit
abbrev sm0 : Sm := ⟨0, 0, 0, 0, 0⟩
def hm0 (hb mb : Nat) : HM := ⟨hb, mb, .slice none 0 0, 0, []⟩
def yd0 (jm : Nat) (d r : HM) : Yd := ⟨jm, jm + 1, jm + 2, 0, 0, [], fun _ => none, fun K => if K = hkD then some d else if K = hkR then some r else none, fun _ => sm0, sm0⟩
theorem VTabI.later {w w' : World} {mb n : Nat} {g : Int → Option Value} (h : VTabI w mb n g) (hb : Below w.heap.size w w') : VTabI w' mb n g := h.block (hb.block mb h.lt)
theorem VTabS.later {w w' : World} {mb n : Nat} {g : ByteArray → Option Value} (h : VTabS w mb n g) (hb : Below w.heap.size w w') : VTabS w' mb n g := h.block (hb.block mb h.lt)
theorem HeapAtM.later {w w' : World} {hb mb : Nat} {v : Value} {f : FuncId} {rk : Int} {last : Int} {R : List (Int × Mk)} (h : HeapAtM w hb v mb f rk last R) (hbl : Below w.heap.size w w') : HeapAtM w' hb v mb f rk last R := h.kept (P := fun _ => False) (Kept.ofBelow hbl) (fun _ _ h => h)
theorem mine0 {hb mb k : Nat} (h : Mine hb (.slice none 0 0) mb k) : k = hb ∨ k = mb := by
  rcases h with h | h | h
  · exact .inl h
  · cases h
  · exact .inr h
set_option maxHeartbeats 2000000 in
set_option maxRecDepth 1000000 in
theorem new_any (w : World) (lab : Nat → HK) : Calls Try.prog 16 #[] w fun e w' => ∃ yb lab' d r, e = .returned (ptrV yb) ∧ YAt w' lab' yb (yd0 w.heap.size d r) ∧ d.R = [] ∧ r.R = [] ∧ d.last = 0 ∧ r.last = 0 ∧ (∀ k, k < w.heap.size → lab' k = lab k) ∧ Below w.heap.size w w' := by
  have hmm := @run_makeMap Try.prog
  have hnw : Hid (∀ w, Calls Try.prog 31 #[.func (.func 32) #[.int .i64 1] #[]] w fun e w' => ∃ hb mb, e = .returned (.pointer (some ⟨hb, 0, none⟩)) ∧ HeapAtM w' hb (.slice none 0 0) mb 32 1 0 [] ∧ Below w.heap.size w w' ∧ w.heap.size ≤ hb ∧ w.heap.size ≤ mb) := fun w => newM w _ 1
  obtain ⟨w3, hw3⟩ : ∃ w3, w3 = ((w.alloc (.map #[] 0)).alloc (.map #[] 0)).alloc (.map #[] 0) := ⟨_, rfl⟩
  have B3 : Hid (Below w.heap.size w w3) := by rw [hw3]; exact (((Below.refl _ w).alloc (Nat.le_refl _) _).alloc (by simp) _).alloc (by simp; omega) _
  have z3' : w3.heap.size = w.heap.size + 3 := by rw [hw3]; simp
  have Z3 : Hid (w3.heap.size = w.heap.size + 3) := z3'
  clear z3'
  have J3 : Hid (VTabI w3 w.heap.size 0 (fun _ => none)) := by
    rw [hw3]; exact (VTabI.made w).later (((Below.refl _ (w.alloc _)).alloc (Nat.le_refl _) _).alloc (by simp) _)
  have T3 : Hid (VTabS w3 (w.heap.size + 1) 0 (fun _ => none)) := by
    rw [hw3]; exact (by simpa using VTabS.made (w.alloc (.map #[] 0)) : VTabS ((w.alloc (.map #[] 0)).alloc (.map #[] 0)) (w.heap.size + 1) 0 (fun _ => none)).later ((Below.refl _ _).alloc (Nat.le_refl _) _)
  have H3 : Hid (VTabI w3 (w.heap.size + 2) 0 (fun _ => none)) := by
    rw [hw3]
    have z := VTabI.made ((w.alloc (.map #[] 0)).alloc (.map #[] 0))
    rwa [World.size_alloc, World.size_alloc] at z
  have HW3 : Hid (w3 = ((w.alloc (.map #[] 0)).alloc (.map #[] 0)).alloc (.map #[] 0)) := hw3
  clear hw3
  obtain ⟨n0, hn0⟩ : ∃ n0, n0 = w.heap.size := ⟨_, rfl⟩
  have HN : Hid (n0 = w.heap.size) := hn0
  clear hn0
  go_enter Try.func16, Try.ntmps16
  go_wp2_with (first
    | (go_at_call 31; rw [← HW3.out]; refine (hnw.out _).mono ?_; rintro e w4 ⟨hb4, mb4, rfl, h4, b4, g4, i4⟩; have H4 : Hid (HeapAtM w4 hb4 (.slice none 0 0) mb4 32 1 0 [] ∧ Below w3.heap.size w3 w4 ∧ w3.heap.size ≤ hb4 ∧ w3.heap.size ≤ mb4) := ⟨h4, b4, g4, i4⟩; clear h4 b4 g4 i4)
    | (go_at_call 31; refine (hnw.out _).mono ?_; rintro e w5 ⟨hb5, mb5, rfl, h5, b5, g5, i5⟩; have H5 : Hid (HeapAtM w5 hb5 (.slice none 0 0) mb5 32 1 0 [] ∧ Below w4.heap.size w4 w5 ∧ w4.heap.size ≤ hb5 ∧ w4.heap.size ≤ mb5) := ⟨h5, b5, g5, i5⟩; clear h5 b5 g5 i5))
  go_ret
  obtain ⟨h4, b4, g4, i4⟩ := H4.out
  obtain ⟨h5, b5, g5, i5⟩ := H5.out
  have l4a := h4.lt hb4 (.inl rfl)
  have l4b := h4.lt mb4 (.inr (.inr rfl))
  have l5a := h5.lt hb5 (.inl rfl)
  have l5b := h5.lt mb5 (.inr (.inr rfl))
  have z3 := Z3.out
  have s4 := b4.size
  have s5 := b5.size
  have ba : Below w5.heap.size w5 (w5.alloc (.cells #[.map (some w.heap.size), .map (some (w.heap.size + 1)), .map (some (w.heap.size + 2)), .pointer (some ⟨hb4, 0, none⟩), .pointer (some ⟨hb5, 0, none⟩), .int .i64 0, .int .i64 0, .int .i64 0, .int .i64 0, .int .i64 0] 59)) := (Below.refl _ w5).alloc (Nat.le_refl _) _
  have b35 : Below w3.heap.size w3 w5 := b4.trans (b5.mono s4)
  have b36 := b35.trans (ba.mono b35.size)
  have b46 := b5.trans (ba.mono s5)
  refine ⟨w5.heap.size, fun k => if k < w.heap.size then lab k else if k = w.heap.size then (7, eB, 1) else if k = w.heap.size + 1 then (7, eB, 2) else if k = w.heap.size + 2 then (7, eB, 3) else if k < w4.heap.size then hkD else if k < w5.heap.size then hkR else (7, eB, 0), hm0 hb4 mb4, hm0 hb5 mb5, rfl, ⟨⟨hm0 hb4 mb4, hm0 hb5 mb5, rfl, rfl, heap_alloc_new w5 _⟩, J3.out.later b36, T3.out.later b36, ?_, ?_, ?_, ?_, ?_⟩, rfl, rfl, rfl, rfl, fun k hk => if_pos hk, B3.out.trans (b36.mono B3.out.size)⟩
  · exact (H3.out.later b36).congr rfl (fun n => rfl)
  · intro K h hK
    simp only [yd0] at hK
    split at hK
    · rename_i e
      subst e
      cases hK
      refine ⟨by decide, h4.later b46, fun b hb => ?_⟩
      rcases mine0 hb with rfl | rfl
      · simp only [hm0] at *
        rw [if_neg (by omega), if_neg (by omega), if_neg (by omega), if_neg (by omega), if_pos (by omega)]
      · simp only [hm0] at *
        rw [if_neg (by omega), if_neg (by omega), if_neg (by omega), if_neg (by omega), if_pos (by omega)]
    · split at hK
      · rename_i e
        subst e
        cases hK
        refine ⟨by decide, h5.later ba, fun b hb => ?_⟩
        rcases mine0 hb with rfl | rfl
        · simp only [hm0] at *
          rw [if_neg (by omega), if_neg (by omega), if_neg (by omega), if_neg (by omega), if_neg (by omega), if_pos (by omega)]
        · simp only [hm0] at *
          rw [if_neg (by omega), if_neg (by omega), if_neg (by omega), if_neg (by omega), if_neg (by omega), if_pos (by omega)]
      · cases hK
  · intro t b ht
    cases ht
  · intro e he
    cases he
  · refine ⟨?_, ?_, ?_, ?_⟩
    · rw [if_neg (by omega), if_neg (by omega), if_neg (by omega), if_neg (by omega), if_neg (by omega), if_neg (by omega)]
    · show (if w.heap.size < w.heap.size then lab w.heap.size else if w.heap.size = w.heap.size then ((7, eB, 1) : HK) else _) = _
      rw [if_neg (Nat.lt_irrefl _), if_pos rfl]
    · show (if w.heap.size + 1 < w.heap.size then lab (w.heap.size + 1) else if w.heap.size + 1 = w.heap.size then ((7, eB, 1) : HK) else if w.heap.size + 1 = w.heap.size + 1 then (7, eB, 2) else _) = _
      rw [if_neg (by omega), if_neg (by omega), if_pos rfl]
    · show (if w.heap.size + 2 < w.heap.size then lab (w.heap.size + 2) else if w.heap.size + 2 = w.heap.size then ((7, eB, 1) : HK) else if w.heap.size + 2 = w.heap.size + 1 then (7, eB, 2) else if w.heap.size + 2 = w.heap.size + 2 then (7, eB, 3) else _) = _
      rw [if_neg (by omega), if_neg (by omega), if_neg (by omega), if_pos rfl]
end Go.Proofs.Ytonfdmbcbfpgdaa
