/-
  What the walks of Top and Get share.
-/
import Derived.Test.YtonfdmbcbfpgdaaHeapy
namespace Go.Proofs.Ytonfdmbcbfpgdaa
open Go.RowKit
theorem below_drewN (w : World) (n : Nat) : Below w.heap.size w (w.drewN n) := ⟨rfl, rfl, rfl, Nat.le_refl _, fun _ _ => rfl⟩
theorem Sits.find {α : Type} {g : Int → Option Int} {R : List (Int × α)} (h : Sits g R) (t : Int) : (g t = none ∧ R.find? (fun r => r.1 = t) = none) ∨ ∃ (i : Nat) (r : Int × α), g t = some (i : Int) ∧ R[i]? = some r ∧ r.1 = t ∧ R.find? (fun r => r.1 = t) = some r := by
  cases hg : g t with
  | none =>
    refine .inl ⟨rfl, List.find?_eq_none.2 fun r hr e => ?_⟩
    obtain ⟨i, hi⟩ := List.mem_iff_getElem?.1 hr
    have := h.1 i r hi
    rw [of_decide_eq_true e, hg] at this
    cases this
  | some v =>
    obtain ⟨i, r, rfl, hi, hr⟩ := h.2 t v hg
    refine .inr ⟨i, r, rfl, hi, hr, ?_⟩
    cases hf : R.find? (fun r => r.1 = t) with
    | none =>
      have := List.find?_eq_none.1 hf r (List.mem_of_getElem? hi)
      simp [hr] at this
    | some r' =>
      have h1 := List.find?_some hf
      obtain ⟨j, hj⟩ := List.mem_iff_getElem?.1 (List.mem_of_find?_eq_some hf)
      have : j = i := h.inj hj hi (by rw [hr]; simpa using h1)
      subst this
      rw [hi] at hj
      exact hj.symm

end Go.Proofs.Ytonfdmbcbfpgdaa
