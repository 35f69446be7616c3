/-
  How often all names are held, together. Nothing of the program.
-/
import Derived.Test.YtkmamofkbhgfeaaBook
namespace Go.Proofs.Ytkmamofkbhgfeaa
open Go.RowKit

def total (S : List RowT) : Int := (S.map Prod.snd).sum
theorem total_split (p : RowT → Bool) : ∀ S : List RowT, total S = total (S.filter p) + total (S.filter (fun r => !p r))
  | [] => rfl
  | r :: S => by
    have ih := total_split p S
    unfold total at *
    cases h : p r <;> simp [h] at ih ⊢ <;> omega
theorem total_at {g : Text → Option Int} {S : List RowT} (h : Listed g S) (t : Text) : total (S.filter (fun r => r.1 == t)) = held g t := by
  have hmem : ∀ x, x ∈ S.filter (fun r => r.1 == t) ↔ x.1 = t ∧ g t = some x.2 := fun x => by
    rw [List.mem_filter]
    constructor
    · rintro ⟨h1, h2⟩
      have e : x.1 = t := by simpa using h2
      exact ⟨e, by rw [← e]; exact (h.mem x.1 x.2).1 h1⟩
    · rintro ⟨rfl, h2⟩
      exact ⟨(h.mem x.1 x.2).2 h2, by simp⟩
  cases hg : g t with
  | none =>
    have : S.filter (fun r => r.1 == t) = [] := List.eq_nil_iff_forall_not_mem.2 fun x hx => by have := ((hmem x).1 hx).2; rw [hg] at this; cases this
    rw [this]
    simp [total, held, hg]
  | some v =>
    have : S.filter (fun r => r.1 == t) = [(t, v)] := by
      refine up_unique _ _ (h.up.filter _) (List.pairwise_singleton _ _) (fun x => ?_)
      rw [hmem, List.mem_singleton, hg]
      constructor
      · rintro ⟨e1, e2⟩
        obtain ⟨x1, x2⟩ := x
        simp only [Option.some.injEq] at e1 e2
        rw [e1, e2]
      · rintro rfl
        exact ⟨rfl, rfl⟩
    rw [this]
    simp [total, held, hg]
theorem set_other_at (g : Text → Option Int) (t x : Text) (u : Int) (hx : x ≠ t) : setG g t u x = g x := by
  unfold setG delAt putAt
  split <;> simp [hx]
theorem total_set {g : Text → Option Int} {S S' : List RowT} {t : Text} {u : Int} (h : Listed g S) (h' : Listed (setG g t u) S') : total S' = total S - held g t + u := by
  have e1 := total_split (fun r => r.1 == t) S
  have e2 := total_split (fun r => r.1 == t) S'
  rw [total_at h t] at e1
  rw [total_at h' t, held_set, if_pos rfl] at e2
  have e3 : S'.filter (fun r => !(r.1 == t)) = S.filter (fun r => !(r.1 == t)) := by
    refine up_unique _ _ (h'.up.filter _) (h.up.filter _) (fun x => ?_)
    rw [List.mem_filter, List.mem_filter]
    obtain ⟨x1, x2⟩ := x
    rw [h.mem, h'.mem]
    constructor
    · rintro ⟨a, b⟩
      have hne : x1 ≠ t := by simpa using b
      rw [set_other_at g t x1 u hne] at a
      exact ⟨a, b⟩
    · rintro ⟨a, b⟩
      have hne : x1 ≠ t := by simpa using b
      rw [set_other_at g t x1 u hne]
      exact ⟨a, b⟩
  rw [e3] at e2
  omega
theorem listed_none {S : List RowT} (h : Listed (fun _ => none) S) : S = [] := List.eq_nil_iff_forall_not_mem.2 fun x hx => by have := (h.mem x.1 x.2).1 hx; cases this
theorem total_take {S : List RowT} {i : Nat} {r : RowT} (h : S[i]? = some r) : total (S.take (i + 1)) = total (S.take i) + r.2 := by
  rw [List.take_add_one, h]
  simp [total]
theorem total_bound {M : Int} (hM : 0 ≤ M) : ∀ {S : List RowT}, (∀ r ∈ S, 0 ≤ r.2 ∧ r.2 ≤ M) → 0 ≤ total S ∧ total S ≤ S.length * M
  | [], _ => by simp [total]
  | r :: S, h => by
    have ih := total_bound hM (S := S) (fun x hx => h x (List.mem_cons_of_mem _ hx))
    have h1 := h r (List.mem_cons_self ..)
    have e : total (r :: S) = r.2 + total S := by simp [total]
    rw [e]
    have e2 : ((r :: S).length : Int) * M = S.length * M + M := by simp [Int.add_mul]
    omega
end Go.Proofs.Ytkmamofkbhgfeaa
