/-
  The heap's lists, without memory.
-/
import Derived.Test.YtonfdmbcbfpgdaaKit
import Derived.Test.YtonfdmbcbfpgdaaTab
namespace Go.Proofs.Ytonfdmbcbfpgdaa

/-- g tells where each ticket sits. -/
def Sits {α : Type} (g : Int → Option Int) (R : List (Int × α)) : Prop :=
  (∀ (i : Nat) r, R[i]? = some r → g r.1 = some (i : Int)) ∧ ∀ t v, g t = some v → ∃ (i : Nat) (r : Int × α), v = i ∧ R[i]? = some r ∧ r.1 = t


/-- Two rows change places. -/
def swapL {α : Type} (R : List α) (i j : Nat) : List α := match R[i]?, R[j]? with | some a, some b => (R.set i b).set j a | _, _ => R
theorem swapL_some {α : Type} {R : List α} {i j : Nat} {a b : α} (hi : R[i]? = some a) (hj : R[j]? = some b) : swapL R i j = (R.set i b).set j a := by unfold swapL; rw [hi, hj]
theorem swapL_length {α : Type} (R : List α) (i j : Nat) : (swapL R i j).length = R.length := by unfold swapL; split <;> simp
theorem swapL_get {α : Type} {R : List α} {i j : Nat} {a b : α} (hi : R[i]? = some a) (hj : R[j]? = some b) (k : Nat) : (swapL R i j)[k]? = if k = j then some a else if k = i then some b else R[k]? := by
  have hil := (List.getElem?_eq_some_iff.1 hi).1
  have hjl := (List.getElem?_eq_some_iff.1 hj).1
  rw [swapL_some hi hj, List.getElem?_set]
  by_cases h1 : j = k
  · subst h1; simp [hjl]
  · rw [if_neg h1, if_neg (fun e => h1 e.symm), List.getElem?_set]
    by_cases h2 : i = k
    · subst h2; simp [hil]
    · rw [if_neg h2, if_neg (fun e => h2 e.symm)]
theorem Sits.inj {α : Type} {g : Int → Option Int} {R : List (Int × α)} (h : Sits g R) {i j : Nat} {a b : Int × α} (hi : R[i]? = some a) (hj : R[j]? = some b) (e : a.1 = b.1) : i = j := by
  have h1 := h.1 i a hi
  have h2 := h.1 j b hj
  rw [e, h2] at h1
  have := Option.some.inj h1
  omega
theorem Sits.swap {α : Type} {g : Int → Option Int} {R : List (Int × α)} (h : Sits g R) {i j : Nat} {a b : Int × α} (hi : R[i]? = some a) (hj : R[j]? = some b) :
    Sits (putAt (putAt g b.1 i) a.1 j) (swapL R i j) := by
  constructor
  · intro k r hk
    rw [swapL_get hi hj] at hk
    unfold putAt
    by_cases h1 : k = j
    · rw [if_pos h1] at hk; cases hk; rw [if_pos rfl, h1]
    · rw [if_neg h1] at hk
      by_cases h2 : k = i
      · rw [if_pos h2] at hk; cases hk
        rw [if_neg (fun e => h1 (h2.trans (h.inj hi hj e.symm))), if_pos rfl, h2]
      · rw [if_neg h2] at hk
        rw [if_neg (fun e => h2 (h.inj hk hi e)), if_neg (fun e => h1 (h.inj hk hj e))]
        exact h.1 k r hk
  · intro t v hv
    unfold putAt at hv
    by_cases h1 : t = a.1
    · rw [if_pos h1] at hv; cases hv
      exact ⟨j, a, rfl, by rw [swapL_get hi hj, if_pos rfl], h1.symm⟩
    · rw [if_neg h1] at hv
      by_cases h2 : t = b.1
      · rw [if_pos h2] at hv; cases hv
        refine ⟨i, b, rfl, ?_, h2.symm⟩
        rw [swapL_get hi hj]
        by_cases h3 : i = j
        · subst h3; rw [hi] at hj; cases hj; exact absurd h2 h1
        · rw [if_neg h3, if_pos rfl]
      · rw [if_neg h2] at hv
        obtain ⟨k, r, rfl, hk, hr⟩ := h.2 t v hv
        refine ⟨k, r, rfl, ?_, hr⟩
        rw [swapL_get hi hj, if_neg, if_neg]
        · exact hk
        · intro e; subst e; rw [hk] at hi; cases hi; exact h1 hr.symm
        · intro e; subst e; rw [hk] at hj; cases hj; exact h2 hr.symm
theorem Sits.has {α : Type} {g : Int → Option Int} {R : List (Int × α)} (h : Sits g R) {i : Nat} {a : Int × α} (hi : R[i]? = some a) : (g a.1).isSome = true := by rw [h.1 i a hi]; rfl
theorem mem_swapL {α : Type} {R : List α} {i j : Nat} {x : α} (h : x ∈ swapL R i j) : x ∈ R := by
  unfold swapL at h
  split at h
  · rename_i a b hi hj
    rcases List.mem_or_eq_of_mem_set h with h | rfl
    · rcases List.mem_or_eq_of_mem_set h with h | rfl
      · exact h
      · exact List.mem_of_getElem? hj
    · exact List.mem_of_getElem? hi
  · exact h
end Go.Proofs.Ytonfdmbcbfpgdaa
