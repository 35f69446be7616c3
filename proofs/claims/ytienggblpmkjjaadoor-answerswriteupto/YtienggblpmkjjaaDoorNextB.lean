/-
  Next, whatever it tells; a new reader; Held.
-/
import Derived.Test.YtienggblpmkjjaaDoorNextA
namespace Go.Proofs.YtienggblpmkjjaaDoor
open Go.RowKit

theorem RdAt.below {w w' : World} {rb : Nat} {v : Value} {A : List UInt8} {g : Nat} (h : RdAt w rb v A g) (hb : Below w.heap.size w w') : RdAt w' rb v A g := by
  obtain ⟨s, h1, h2, h3, h4, h5, h6, h7⟩ := h
  exact ⟨s, (hb.block rb h1.lt).trans h1, h2.below hb, h3, h4, h5, h6, h7⟩
/-- What Next tells. -/
def NextPost (w : World) (rb : Nat) (v : Value) (A : List UInt8) (g : Nat) (x : Ending) (w' : World) : Prop :=
  (g < (scan A).1 ∧ ∃ a' c', x = .returned (.tuple #[rpV (readP (A.drop g)).1 (.slice a' (readP (A.drop g)).1.body.length c'), .bool true, .int .i64 0]) ∧ Own w' w.heap.size (.slice a' (readP (A.drop g)).1.body.length c') (readP (A.drop g)).1.body ∧ WentB w rb v A (g + (readP (A.drop g)).2.1) w' (.slice a' (readP (A.drop g)).1.body.length c')) ∨
  (g = (scan A).1 ∧ x = .returned (.tuple #[rpV rp0 (.slice none 0 0), .bool false, .int .i64 (if 0 < (scan A).2 then 82 else 0)]) ∧ Went w rb v A g w')
theorem next_any (w : World) (rb : Nat) (v : Value) (A : List UInt8) (g : Nat) (h : RdAt w rb v A g) (hA : A.length ≤ 4294967296) (hT : Tabs w) :
    Calls Tryd.prog 30 #[.pointer (some ⟨rb, 0, none⟩)] w (NextPost w rb v A g) := by
  have h' := h
  obtain ⟨s, h1, h2, h3, h4, h5, h6, h7⟩ := h
  by_cases hlt : g < (scan A).1
  · refine (next_some w rb v s A g h1 h2 h3 h4 h5 h6 h7 hlt hA hT).mono ?_
    rintro x w' ⟨a', c', rfl, o, W⟩
    exact .inl ⟨hlt, a', c', rfl, o, W⟩
  · have hle := h3.bd.le
    have hw : s.whole = s.gone := by have := h3.whole; omega
    rw [hw] at h1
    refine (next_none w rb v s.gone s.look s.spoilt h1).mono ?_
    rintro x w' ⟨rfl, hb⟩
    exact .inr ⟨by omega, by rw [h3.spoilt], v, h'.below hb, Kept.ofBelow hb, fun k hk => .inl hk⟩
theorem new_rd (w : World) (h5 : 5 ≤ w.heap.size) :
    Calls Tryd.prog 21 #[] w fun x w' => x = .returned (.pointer (some ⟨w.heap.size, 0, none⟩)) ∧ RdAt w' w.heap.size (.slice none 0 0) [] 0 ∧ Below w.heap.size w w' := by
  refine (new_any w).mono ?_
  rintro x w' ⟨rfl, hb, hB⟩
  refine ⟨rfl, ⟨⟨[], 0, 0, 0, 0⟩, hb, Own.nil _ _, ?_, Nat.le_refl _, by simp, by simp, ?_⟩, hB⟩
  · exact Inv.nil
  · rintro k (rfl | hk)
    · exact h5
    · cases hk
theorem held_rd (w : World) (rb : Nat) (v : Value) (A : List UInt8) (g : Nat) (h : RdAt w rb v A g) (hA : A.length ≤ 4294967296) :
    Calls Tryd.prog 32 #[.pointer (some ⟨rb, 0, none⟩)] w fun x w' => x = .returned (.int .i64 ((heldN A g : Nat) : Int)) ∧ ∃ q, w' = w.drewN q := by
  obtain ⟨s, h1, h2, h3, h4, h5, h6, h7⟩ := h
  obtain ⟨av, cv, rfl, _⟩ := h2.shape
  have hle := scan_le A
  have hw := h3.whole
  have hf := h3.fits
  refine (held_any w rb av s.came.length cv s.gone s.whole s.look s.spoilt h1 (by omega) (by omega) (by rw [h3.spoilt]; omega)).mono ?_
  rintro x w' ⟨rfl, q, rfl⟩
  exact ⟨by rw [h3.heldN], q, rfl⟩
end Go.Proofs.YtienggblpmkjjaaDoor
