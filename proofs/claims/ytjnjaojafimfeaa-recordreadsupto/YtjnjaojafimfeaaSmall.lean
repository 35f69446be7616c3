/-
  Small walks: within, onlyIf, bounds, fieldsOf.
-/
import Derived.Test.YtjnjaojafimfeaaRecs
namespace Go.Proofs.Ytjnjaojafimfeaa
open Go.RowKit

set_option maxRecDepth 1000000 in
theorem within_any (n a b : Int) (w : World) : Calls Try.prog 25 #[.int .i64 n, .int .i64 a, .int .i64 b] w fun e w' => e = .returned (.bool (withinB n a b)) ∧ w' = w := by
  by_cases h1 : a ≤ n
  · by_cases h2 : n ≤ b
    · go_enter Try.func25, Try.ntmps25
      go_wp2
      go_ret
      exact ⟨by simp [withinB, h1, h2], rfl⟩
    · go_enter Try.func25, Try.ntmps25
      go_wp2
      go_ret
      exact ⟨by simp [withinB, h1, h2], rfl⟩
  · go_enter Try.func25, Try.ntmps25
    go_wp2
    go_ret
    exact ⟨by rw [show withinB n a b = false by simp [withinB]; omega]; rfl, rfl⟩

set_option maxRecDepth 1000000 in
theorem onlyIf_any (m : Bool) (n : Int) (w : World) : Calls Try.prog 51 #[.bool m, .int .i64 n] w fun e w' => e = .returned (.tuple #[.int .i64 (if m then 1 else 0), .int .i64 (if m then n else 0)]) ∧ w' = w := by
  cases m
  · go_enter Try.func51, Try.ntmps51
    go_wp2
    go_ret2
    exact ⟨rfl, rfl⟩
  · go_enter Try.func51, Try.ntmps51
    go_wp2
    go_ret2
    exact ⟨rfl, rfl⟩

set_option maxHeartbeats 1000000 in
set_option maxRecDepth 1000000 in
theorem bounds_any (f : Nat) (hf : f < 16) (st : Int) (w : World) : Calls Try.prog 46 #[.int .i64 (f : Int), .int .i64 st] w fun e w' => e = .returned (.tuple #[.int .i64 (bndL f st), .int .i64 (bndH f st)]) ∧ w' = w := by
  have h : f = 0 ∨ f = 1 ∨ f = 2 ∨ f = 3 ∨ f = 4 ∨ f = 5 ∨ f = 6 ∨ f = 7 ∨ f = 8 ∨ f = 9 ∨ f = 10 ∨ f = 11 ∨ f = 12 ∨ f = 13 ∨ f = 14 ∨ f = 15 := by omega
  have H2 : Hid (bndL 9 st = (if (st == 2) = true then 1 else 0) ∧ bndH 9 st = (if (st == 2) = true then 1103806595071 else 0)) := by
    show bndL 9 st = _ ∧ bndH 9 st = _
    simp [bndL, bndH]
  have H4 : Hid (bndL 10 st = (if (st == 4) = true then 1 else 0) ∧ bndH 10 st = (if (st == 4) = true then 4611686018427387903 else 0)) := by
    show bndL 10 st = _ ∧ bndH 10 st = _
    simp [bndL, bndH]
  obtain ⟨b2, hb2⟩ : ∃ b : Bool, (st == 2) = b := ⟨_, rfl⟩
  obtain ⟨b4, hb4⟩ : ∃ b : Bool, (st == 4) = b := ⟨_, rfl⟩
  rcases h with rfl | rfl | rfl | rfl | rfl | rfl | rfl | rfl | rfl | rfl | rfl | rfl | rfl | rfl | rfl | rfl
  all_goals
    go_enter Try.func46, Try.ntmps46
    go_wp2_with (first
      | (go_at_call 51; refine (onlyIf_any _ _ _).mono ?_; rintro e w' ⟨rfl, hw'⟩; obtain rfl := hw'.symm))
    all_goals go_ret2
    all_goals refine ⟨?_, rfl⟩
    all_goals first
      | rfl
      | (rw [H2.out.1, H2.out.2, hb2, show b2 = true by assumption]; rfl)
      | (rw [H2.out.1, H2.out.2, hb2, show b2 = false by simpa using ‹¬ b2 = true›]; rfl)
      | (rw [H4.out.1, H4.out.2, hb4, show b4 = true by assumption]; rfl)
      | (rw [H4.out.1, H4.out.2, hb4, show b4 = false by simpa using ‹¬ b4 = true›]; rfl)

/-- The fields of a kind lie in a row. -/
def FieldsAt (w : World) (b : Nat) (l : List Nat) : Prop := ∀ (j f : Nat), l[j]? = some f → w.cell? ⟨b, j, none⟩ = some (.int .i64 (f : Int))
theorem FieldsAt.below {w w' : World} {b : Nat} {l : List Nat} (h : FieldsAt w b l) (hb : Below w.heap.size w w') : FieldsAt w' b l := fun j f hj => by
  have := h j f hj
  exact (World.cell?_of_block (hb.block b (cell_lt this))).trans this
theorem FieldsAt.kept {P : Nat → Prop} {w w' : World} {b : Nat} {l : List Nat} (h : FieldsAt w b l) (hk : Kept P w w') (hP : ¬ P b) : FieldsAt w' b l := fun j f hj => hk.cell hP (h j f hj)
theorem fields_new (w : World) (l : List Nat) (vs : Array Value) (t : TypeId) (hv : vs.toList = l.map fun (f : Nat) => Value.int .i64 (f : Int)) : FieldsAt (w.alloc (.cells vs t)) w.heap.size l := fun j f hj => by
  rw [cell_of_row _ _ j vs t (0, 0) (heap_alloc_last w _), ← Array.getElem?_toList, hv, List.getElem?_map, hj]
  rfl

set_option maxHeartbeats 1000000 in
set_option maxRecDepth 1000000 in
theorem fieldsOf_any (k : Int) (w : World) :
    Calls Try.prog 45 #[.int .i64 k] w fun e w' => ∃ a, e = .returned (.slice a (fieldsL k).length (fieldsL k).length) ∧ Below w.heap.size w w' ∧ ((fieldsL k).length = 0 ∨ a = some ⟨w.heap.size, 0, none⟩ ∧ FieldsAt w' w.heap.size (fieldsL k) ∧ w.heap.size < w'.heap.size) := by
  have h : k = 1 ∨ k = 2 ∨ k = 3 ∨ k = 4 ∨ (¬ k = 1 ∧ ¬ k = 2 ∧ ¬ k = 3 ∧ ¬ k = 4) := by omega
  rcases h with rfl | rfl | rfl | rfl | ⟨h1, h2, h3, h4⟩
  · go_enter Try.func45, Try.ntmps45
    go_wp2
    go_ret
    exact ⟨_, rfl, (Below.refl _ w).alloc (Nat.le_refl _) _, .inr ⟨rfl, fields_new _ _ _ _ rfl, by simp⟩⟩
  · go_enter Try.func45, Try.ntmps45
    go_wp2
    go_ret
    exact ⟨_, rfl, (Below.refl _ w).alloc (Nat.le_refl _) _, .inr ⟨rfl, fields_new _ _ _ _ rfl, by simp⟩⟩
  · go_enter Try.func45, Try.ntmps45
    go_wp2
    go_ret
    exact ⟨_, rfl, (Below.refl _ w).alloc (Nat.le_refl _) _, .inr ⟨rfl, fields_new _ _ _ _ rfl, by simp⟩⟩
  · go_enter Try.func45, Try.ntmps45
    go_wp2
    go_ret
    exact ⟨_, rfl, (Below.refl _ w).alloc (Nat.le_refl _) _, .inr ⟨rfl, fields_new _ _ _ _ rfl, by simp⟩⟩
  · have hn : fieldsL k = [] := by simp [fieldsL, h1, h2, h3, h4]
    have HN : Hid (fieldsL k = []) := hn
    clear hn
    go_enter Try.func45, Try.ntmps45
    go_wp2
    go_ret
    exact ⟨none, by rw [HN.out]; rfl, Below.refl _ w, .inl (by rw [HN.out]; rfl)⟩
end Go.Proofs.Ytjnjaojafimfeaa
