/-
  The walks of the document's verbs and Name.
-/
import Derived.Test.YtfecbepleeoibaaDoorShown
namespace Go.Proofs.YtfecbepleeoibaaDoor
open Go.RowKit Go.Lib

def verbsA : Array Value := ((List.range 26).map fun k => Value.string ⟨(verbOf k).toArray⟩).toArray
theorem verbsA_at (k : Nat) (hk : k < 26) : verbsA[k]? = some (.string ⟨(verbOf k).toArray⟩) := by
  simp [verbsA, hk]
set_option maxHeartbeats 1000000 in
set_option maxRecDepth 1000000 in
theorem refVerbs_any (w : World) :
    Calls Tryd.prog 23 #[] w fun e w' => e = .returned (.slice (some ⟨w.heap.size, 0, none⟩) 26 26) ∧ w' = w.alloc (.cells verbsA 9) := by
  go_enter Tryd.func23, Tryd.ntmps23
  go_wp2_with fail
  go_ret
  exact ⟨rfl, by kernel_rfl⟩
theorem refVerbs_use (w : World) : Calls Tryd.prog 23 #[] w fun e w' => e = .returned (.slice (some ⟨w.heap.size, 0, none⟩) 26 26) ∧ Below w.heap.size w w' ∧ ∀ k, k < 26 → w'.cell? ⟨w.heap.size, k, none⟩ = some (.string ⟨(verbOf k).toArray⟩) :=
  (refVerbs_any w).mono fun _ _ ⟨he, hw⟩ => ⟨he, hw ▸ (Below.refl _ w).alloc (Nat.le_refl _) _, fun k hk => hw ▸ cells_at (heap_alloc_new _ _) (verbsA_at k hk)⟩
set_option maxHeartbeats 1000000 in
set_option maxRecDepth 1000000 in
theorem refName_any (k : Int) (w : World) :
    Calls Tryd.prog 11 #[.int .i64 k] w fun e w' => e = .returned (.string ⟨(nameL k).toArray⟩) ∧ Below w.heap.size w w' := by
  by_cases hk : 1 ≤ k ∧ k ≤ 25
  · obtain ⟨n, rfl⟩ : ∃ n : Nat, k = n := ⟨k.toNat, by omega⟩
    have HE : Hid (nameL n = verbOf n) := by
      show nameL n = verbOf n
      rw [nameL, if_pos hk]; simp
    have i1 : (0 : Int) ≤ (n : Int) := by omega
    have i2 : (n : Int) < 26 := by omega
    go_enter Tryd.func11, Tryd.ntmps11
    go_wp2_with (go_at_call 23; refine (refVerbs_use _).mono ?_; rintro e w1 ⟨rfl, B1, C1⟩; have hc := C1 n (by omega); have HB1 := hide B1; clear B1 C1)
    all_goals go_ret
    all_goals exact ⟨by rw [HE.out]; rfl, HB1.out⟩
  · have HE : Hid (nameL k = []) := by
      show nameL k = []
      rw [nameL, if_neg hk]
    go_enter Tryd.func11, Tryd.ntmps11
    go_wp2_with fail
    all_goals go_ret
    all_goals exact ⟨by rw [HE.out]; rfl, Below.refl _ _⟩
end Go.Proofs.YtfecbepleeoibaaDoor
