/-
  Who stands in a queue, without the places.
-/
import Derived.Test.YtccpaapbgdpghaaQPure
import Derived.Test.YtccpaapbgdpghaaTailIn
namespace Go.Proofs.Ytccpaapbgdpghaa
open Go.RowKit

/-- Who stands there, without the places. -/
def view (R : List Stand) : List (Int × Value) := R.map (fun r => (r.tk, r.v))
theorem view_append (A B : List Stand) : view (A ++ B) = view A ++ view B := by simp [view]
theorem view_length (R : List Stand) : (view R).length = R.length := by simp [view]
theorem view_filter (R : List Stand) (t : Int) : view (R.filter (fun r => r.tk != t)) = (view R).filter (fun p => p.1 != t) := by
  unfold view
  rw [List.filter_map]
  rfl
theorem view_find (R : List Stand) (t : Int) : (R.find? (fun r => r.tk == t)).map (fun r => r.v) = ((view R).find? (fun p => p.1 == t)).map (fun p => p.2) := by
  unfold view
  rw [List.find?_map]
  cases h : R.find? ((fun p => p.1 == t) ∘ fun r => (r.tk, r.v)) with
  | none =>
    have : R.find? (fun r => r.tk == t) = none := h
    rw [this]; rfl
  | some r =>
    have : R.find? (fun r => r.tk == t) = some r := h
    rw [this]; rfl

theorem kept_row {w w' : World} {row : Option Nat} (hg : w.grownBy w' row) : Kept (fun k => row = some k) w w' := Kept.ofGrown hg (fun _ e => e)
theorem cells_own {w w' : World} {k : Nat} {c : Array Value} {t : TypeId} (h : w.heap[k]? = some (.cells c t (0, 0))) {B : Nat} {row : Option Nat} (hg : w.grownBy w' row) (hr : ∀ r, row = some r → B ≤ r ∧ ∃ o : Obj, w.heap[r]? = some o ∧ o.isCells = false) : w'.heap[k]? = some (.cells c t (0, 0)) := by
  refine (hg.block k (Array.getElem?_eq_some_iff.1 h).1 (fun e => ?_)).trans h
  obtain ⟨_, o, h2, h3⟩ := hr k e.symm
  rw [h] at h2
  obtain rfl := Option.some.inj h2
  cases h3
theorem view_order {C R : List Stand} (h : view C = view R) {given : Int} (up : R.Pairwise (fun a b => a.tk < b.tk)) (le : ∀ r ∈ R, 1 ≤ r.tk ∧ r.tk ≤ given) : C.Pairwise (fun a b => a.tk < b.tk) ∧ ∀ r ∈ C, 1 ≤ r.tk ∧ r.tk ≤ given := by
  refine ⟨?_, fun r hr => ?_⟩
  · have h1 : (R.map (fun r => (r.tk, r.v))).Pairwise (fun a b => a.1 < b.1) := by rw [List.pairwise_map]; exact up
    rw [show R.map (fun r => (r.tk, r.v)) = C.map (fun r => (r.tk, r.v)) from h.symm, List.pairwise_map] at h1
    exact h1
  · have h1 : (r.tk, r.v) ∈ view C := List.mem_map_of_mem (f := fun r : Stand => (r.tk, r.v)) hr
    rw [h] at h1
    obtain ⟨s, hs, e⟩ := List.mem_map.1 h1
    simp only [Prod.mk.injEq] at e
    rw [← e.1]
    exact le s hs

theorem next_take {R pre : List Stand} {x : Stand} (hp : pre = R.take pre.length) (hx : R[pre.length]? = some x) : pre ++ [x] = R.take (pre ++ [x]).length := by
  rw [List.length_append, List.length_singleton, List.take_add_one, hx, ← hp]
  rfl

theorem tk_ne {C pre : List Stand} {R : List Stand} {x : Stand} (hv : view C = view pre) (hp : pre = R.take pre.length) (hx : R[pre.length]? = some x) (up : R.Pairwise (fun a b => a.tk < b.tk)) : ∀ r ∈ C, r.tk ≠ x.tk := by
  intro r hr
  have h1 : (r.tk, r.v) ∈ view C := List.mem_map_of_mem (f := fun r : Stand => (r.tk, r.v)) hr
  rw [hv] at h1
  obtain ⟨s, hs, e⟩ := List.mem_map.1 h1
  simp only [Prod.mk.injEq] at e
  rw [← e.1]
  rw [hp] at hs
  obtain ⟨i, hi⟩ := List.mem_iff_getElem?.1 hs
  have hil : i < pre.length := by
    have := (List.getElem?_eq_some_iff.1 hi).1
    rw [List.length_take] at this
    omega
  rw [List.getElem?_take_of_lt hil] at hi
  have := List.pairwise_iff_getElem.1 up i pre.length (List.getElem?_eq_some_iff.1 hi).1 (List.getElem?_eq_some_iff.1 hx).1 hil
  rw [(List.getElem?_eq_some_iff.1 hi).2, (List.getElem?_eq_some_iff.1 hx).2] at this
  omega

end Go.Proofs.Ytccpaapbgdpghaa
