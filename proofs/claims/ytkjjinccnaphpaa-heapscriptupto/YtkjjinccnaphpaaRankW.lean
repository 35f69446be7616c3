/-
  Lists in the order of their ranks, by any key.
-/
import Derived.Test.YtkjjinccnaphpaaMembers
import Derived.Test.YtkjjinccnaphpaaOrder
import Derived.Test.YtkjjinccnaphpaaRowT
namespace Go.Proofs.Ytkjjinccnaphpaa

abbrev RowI := Int × Int × Int
def ltK (ky : Int × Int → Int) (x y : Int × Int) : Bool := decide (ky x < ky y)
theorem ltK_key (ky : Int × Int → Int) (x y : Int × Int) : ltK ky x y = decide (ky x < ky y) := rfl
/-- The rows of R, the best one first. -/
structure Ranked (ky : Int × Int → Int) (R S : List RowI) : Prop where
  perm : S.Perm R
  up : S.Pairwise (fun a b => rankB (ltK ky) a b = true)
theorem rank_asymm {ky : Int × Int → Int} {a b : RowI} (h : rankB (ltK ky) a b = true) (k : rankB (ltK ky) b a = true) : False :=
  ((rank_iff (ltK_key ky) a b).1 h).asymm ((rank_iff (ltK_key ky) b a).1 k)
theorem sorted_unique (ky : Int × Int → Int) : ∀ (S S' : List RowI), S.Perm S' → S.Pairwise (fun a b => rankB (ltK ky) a b = true) → S'.Pairwise (fun a b => rankB (ltK ky) a b = true) → S = S'
  | [], S', hp, _, _ => (List.nil_perm.1 hp).symm
  | a :: S, S', hp, h, h' => by
    cases S' with
    | nil => exact absurd hp.length_eq (by simp)
    | cons b S' =>
      have hab : a = b := by
        have h1 : a ∈ b :: S' := hp.subset (by simp)
        have h2 : b ∈ a :: S := hp.symm.subset (by simp)
        rcases List.mem_cons.1 h1 with e | h1
        · exact e
        · rcases List.mem_cons.1 h2 with e | h2
          · exact e.symm
          · exact (rank_asymm ((List.pairwise_cons.1 h).1 b h2) ((List.pairwise_cons.1 h').1 a h1)).elim
      subst hab
      rw [sorted_unique ky S S' (List.Perm.cons_inv hp) (List.pairwise_cons.1 h).2 (List.pairwise_cons.1 h').2]
theorem Once.nodup {α : Type} {R : List (Int × α)} (h : Once R) : R.Nodup := by
  rw [List.nodup_iff_pairwise_ne, List.pairwise_iff_getElem]
  intro i j hi hj hij e
  have := h i j _ _ (List.getElem?_eq_getElem hi) (List.getElem?_eq_getElem hj) (by rw [e])
  omega
end Go.Proofs.Ytkjjinccnaphpaa
