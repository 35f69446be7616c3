/-
  Lists in the order of their ranks: the others stay.
-/
import Derived.Test.YtdjjjjlgdhbemaaMembers
import Derived.Test.YtdjjjjlgdhbemaaOrder
import Derived.Test.YtdjjjjlgdhbemaaRising
namespace Go.Proofs.Ytdjjjjlgdhbemaa

abbrev RowI := Int × Int × Int
def keyI (x : Int × Int) : Int := x.1
theorem upB_key (x y : Int × Int) : upB x y = decide (keyI x < keyI y) := rfl
/-- The rows of R, the best one first. -/
structure Ranked (R S : List RowI) : Prop where
  perm : S.Perm R
  up : S.Pairwise (fun a b => rankB upB a b = true)
theorem rank_asymm {a b : RowI} (h : rankB upB a b = true) (k : rankB upB b a = true) : False :=
  ((rank_iff upB_key a b).1 h).asymm ((rank_iff upB_key b a).1 k)
theorem sorted_unique : ∀ (S S' : List RowI), S.Perm S' → S.Pairwise (fun a b => rankB upB a b = true) → S'.Pairwise (fun a b => rankB upB a b = true) → S = S'
  | [], S', hp, _, _ => (List.nil_perm.1 hp).symm
  | a :: S, S', hp, h, h' => by
    cases S' with
    | nil => exact absurd hp.length_eq (by simp)
    | cons b S' =>
      have hab : a = b := by
        have h1 : a ∈ b :: S' := hp.subset (by simp)
        have h2 : b ∈ a :: S := hp.symm.subset (by simp)
        rcases List.mem_cons.1 h1 with e | h1
        · exact e
        · rcases List.mem_cons.1 h2 with e | h2
          · exact e.symm
          · exact (rank_asymm ((List.pairwise_cons.1 h).1 b h2) ((List.pairwise_cons.1 h').1 a h1)).elim
      subst hab
      rw [sorted_unique S S' (List.Perm.cons_inv hp) (List.pairwise_cons.1 h).2 (List.pairwise_cons.1 h').2]
theorem Once.nodup {α : Type} {R : List (Int × α)} (h : Once R) : R.Nodup := by
  rw [List.nodup_iff_pairwise_ne, List.pairwise_iff_getElem]
  intro i j hi hj hij e
  have := h i j _ _ (List.getElem?_eq_getElem hi) (List.getElem?_eq_getElem hj) (by rw [e])
  omega
theorem ranked_stays {R R' S S' : List RowI} {n : Int} (o : Once R) (o' : Once R') (hm : ∀ r : RowI, r.1 ≠ n → (r ∈ R' ↔ r ∈ R)) (h : Ranked R S) (h' : Ranked R' S') : (S'.map (·.1)).filter (fun t => t != n) = (S.map (·.1)).filter (fun t => t != n) := by
  have e : ∀ L : List RowI, (L.map (·.1)).filter (fun t => t != n) = (L.filter (fun r => r.1 != n)).map (·.1) := fun L => by rw [List.filter_map]; rfl
  rw [e, e]
  congr 1
  refine sorted_unique _ _ ?_ (h'.up.filter _) (h.up.filter _)
  refine ((h'.perm.filter _).trans ?_).trans (h.perm.filter _).symm
  refine (List.perm_ext_iff_of_nodup ((o'.nodup).filter _) ((o.nodup).filter _)).2 fun r => ?_
  simp only [List.mem_filter]
  constructor
  · rintro ⟨h1, h2⟩
    exact ⟨(hm r (by simpa using h2)).1 h1, h2⟩
  · rintro ⟨h1, h2⟩
    exact ⟨(hm r (by simpa using h2)).2 h1, h2⟩
end Go.Proofs.Ytdjjjjlgdhbemaa
