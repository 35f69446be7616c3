/-
  What stands in the queue of QueueTurns.
-/
import Derived.Test.YtpnbmokgjinnbaaFromI
namespace Go.Proofs.Ytpnbmokgjinnbaa
open Go.RowKit

/-- Who stands there, without the places. -/
def view (R : List Stand) : List (Int × Value) := R.map (fun r => (r.tk, r.v))
theorem view_append (A B : List Stand) : view (A ++ B) = view A ++ view B := by simp [view]
theorem view_length (R : List Stand) : (view R).length = R.length := by simp [view]
theorem view_filter (R : List Stand) (t : Int) : view (R.filter (fun r => r.tk != t)) = (view R).filter (fun p => p.1 != t) := by
  unfold view
  rw [List.filter_map]
  rfl
theorem view_find (R : List Stand) (t : Int) : (R.find? (fun r => r.tk == t)).map (fun r => r.v) = ((view R).find? (fun p => p.1 == t)).map (fun p => p.2) := by
  unfold view
  rw [List.find?_map]
  cases h : R.find? ((fun p => p.1 == t) ∘ fun r => (r.tk, r.v)) with
  | none =>
    have : R.find? (fun r => r.tk == t) = none := h
    rw [this]; rfl
  | some r =>
    have : R.find? (fun r => r.tk == t) = some r := h
    rw [this]; rfl

def turnAt (i : Nat) : Int × Value := ((i : Int) + 1, .int .i64 (1000 - ((i : Int) + 1)))
/-- Those from k on that have not left. -/
def turns (n : Nat) (g : Nat → Bool) : List (Int × Value) := ((List.range n).filter (fun i => !g i)).map turnAt
theorem turns_snoc (n : Nat) (g : Nat → Bool) (h : g n = false) : turns (n + 1) g = turns n g ++ [turnAt n] := by
  unfold turns
  rw [List.range_succ, List.filter_append, List.map_append]
  simp [h]
theorem turns_leave (n : Nat) (g : Nat → Bool) (i : Nat) : (turns n g).filter (fun p => p.1 != (i : Int) + 1) = turns n (fun j => g j || j == i) := by
  unfold turns
  rw [List.filter_map, List.filter_filter]
  congr 1
  apply List.filter_congr
  intro j _
  simp only [Function.comp, turnAt]
  by_cases e : j = i
  · subst e; simp
  · have : ((j : Int) + 1 != (i : Int) + 1) = true := by simp; omega
    simp [this, e]
theorem turns_find (n : Nat) (g : Nat → Bool) (i : Nat) (hi : i < n) : ((turns n g).find? (fun p => p.1 == (i : Int) + 1)).map (fun p => p.2) = if g i then none else some (.int .i64 (1000 - ((i : Int) + 1))) := by
  unfold turns
  rw [List.find?_map]
  cases hg : g i with
  | true =>
    rw [if_pos rfl]
    have : ((List.range n).filter (fun i => !g i)).find? ((fun p : Int × Value => p.1 == (i : Int) + 1) ∘ turnAt) = none := by
      rw [List.find?_eq_none]
      intro j hj
      simp only [Function.comp, turnAt]
      have h1 := (List.mem_filter.1 hj).2
      intro h2
      have : j = i := by simp at h2; omega
      subst this
      rw [hg] at h1
      simp at h1
    rw [this]; rfl
  | false =>
    rw [if_neg (by simp)]
    cases h : ((List.range n).filter (fun i => !g i)).find? ((fun p : Int × Value => p.1 == (i : Int) + 1) ∘ turnAt) with
    | none =>
      have := List.find?_eq_none.1 h i (List.mem_filter.2 ⟨List.mem_range.2 hi, by simp [hg]⟩)
      simp [turnAt] at this
    | some j =>
      have h1 := List.find?_some h
      have : j = i := by simp [turnAt] at h1; omega
      subst this
      rfl
theorem range_split (n k : Nat) (h : k < n) : List.range n = List.range k ++ k :: (List.range (n - (k + 1))).map (· + (k + 1)) := by
  obtain ⟨m, rfl⟩ : ∃ m, n = (k + 1) + m := ⟨n - (k + 1), by omega⟩
  rw [List.range_add, List.range_succ, show k + 1 + m - (k + 1) = m by omega, List.append_assoc]
  simp [Nat.add_comm]
/-- The first one that has not left, where all ahead of it have. -/
theorem turns_first (n : Nat) (g : Nat → Bool) (k : Nat) (hk : k < n) (hg : g k = false) (ha : ∀ j, j < k → g j = true) : ∃ r, turns n g = turnAt k :: r := by
  unfold turns
  rw [range_split n k hk, List.filter_append, List.filter_cons]
  have : (List.range k).filter (fun i => !g i) = [] := by
    rw [List.filter_eq_nil_iff]
    intro j hj
    simp [ha j (List.mem_range.1 hj)]
  rw [this, if_pos (by simp [hg])]
  exact ⟨_, rfl⟩
theorem turns_none (n : Nat) (g : Nat → Bool) (ha : ∀ j, j < n → g j = true) : turns n g = [] := by
  unfold turns
  have : (List.range n).filter (fun i => !g i) = [] := by
    rw [List.filter_eq_nil_iff]
    intro j hj
    simp [ha j (List.mem_range.1 hj)]
  rw [this]; rfl
theorem turns_congr (n : Nat) (g g' : Nat → Bool) (h : ∀ j, j < n → g j = g' j) : turns n g = turns n g' := by
  unfold turns
  congr 1
  apply List.filter_congr
  intro j hj
  rw [h j (List.mem_range.1 hj)]
theorem getOf_turns {R : List Stand} {n : Nat} {g : Nat → Bool} (h : view R = turns n g) {i : Nat} (hi : i < n) : getOfI R ((i : Int) + 1) = .tuple #[.int .i64 (if g i then 0 else 1000 - ((i : Int) + 1)), .bool (!g i)] := by
  have h1 := view_find R ((i : Int) + 1)
  rw [h, turns_find n g i hi] at h1
  unfold getOfI
  cases hg : g i with
  | true =>
    rw [hg, if_pos rfl] at h1
    rw [Option.map_eq_none_iff.1 h1]
    rfl
  | false =>
    rw [hg, if_neg (by simp)] at h1
    obtain ⟨r, h2, h3⟩ := Option.map_eq_some_iff.1 h1
    rw [h2]
    simp [h3]
theorem firstOf_turns {R : List Stand} {n k : Nat} {g : Nat → Bool} (h : view R = turns n g) (hk : k < n) (hg : g k = false) (ha : ∀ j, j < k → g j = true) : firstOfI R = .tuple #[.int .i64 ((k : Int) + 1), .int .i64 (1000 - ((k : Int) + 1)), .bool true] := by
  obtain ⟨r, hr⟩ := turns_first n g k hk hg ha
  rw [hr] at h
  cases R with
  | nil => simp [view] at h
  | cons s R =>
    simp only [view, List.map_cons, List.cons.injEq, turnAt, Prod.mk.injEq] at h
    simp only [firstOfI, h.1.1, h.1.2]
theorem leave_length {R : List Stand} {n : Nat} {g : Nat → Bool} (h : view R = turns n g) {i : Nat} (hi : i < n) (hg : g i = false) : (R.filter (fun r => r.tk != (i : Int) + 1)).length + 1 = R.length := by
  rw [← view_length R, h, ← view_length, view_filter, h, turns_leave]
  unfold turns
  rw [List.length_map, List.length_map, range_split n i hi, List.filter_append, List.filter_append, List.filter_cons, List.filter_cons]
  have e1 : (List.range i).filter (fun j => !(g j || j == i)) = (List.range i).filter (fun j => !g j) := by
    apply List.filter_congr
    intro j hj
    have : j ≠ i := by have := List.mem_range.1 hj; omega
    simp [this]
  have e2 : ((List.range (n - (i + 1))).map (· + (i + 1))).filter (fun j => !(g j || j == i)) = ((List.range (n - (i + 1))).map (· + (i + 1))).filter (fun j => !g j) := by
    apply List.filter_congr
    intro j hj
    obtain ⟨a, _, rfl⟩ := List.mem_map.1 hj
    have : a + (i + 1) ≠ i := by omega
    simp [this]
  rw [e1, e2, if_neg (by simp), if_pos (by simp [hg])]
  simp only [List.length_append, List.length_cons]
  omega
theorem leave_same {R : List Stand} {n : Nat} {g : Nat → Bool} (h : view R = turns n g) {i : Nat} (hg : g i = true) : R.filter (fun r => r.tk != (i : Int) + 1) = R := by
  refine List.filter_eq_self.2 fun r hr => ?_
  have h1 : (r.tk, r.v) ∈ view R := List.mem_map_of_mem (f := fun r : Stand => (r.tk, r.v)) hr
  rw [h] at h1
  obtain ⟨j, h2, h3⟩ := List.mem_map.1 h1
  simp only [turnAt, Prod.mk.injEq] at h3
  have h4 := (List.mem_filter.1 h2).2
  have : j ≠ i := fun e => by subst e; simp [hg] at h4
  simp
  omega
/-- The row of those that have left: at i + 1 whether g i. -/
def GoneRow (w : World) (gb n : Nat) (g : Nat → Bool) : Prop := ∃ cur : Array Value, w.heap[gb]? = some (.cells cur 4 (0, 0)) ∧ cur.size = n + 1 ∧ ∀ i, i < n → cur[i + 1]? = some (.bool (g i))
theorem GoneRow.cell {w : World} {gb n : Nat} {g : Nat → Bool} (h : GoneRow w gb n g) {i : Nat} (hi : i < n) : w.cell? ⟨gb, i + 1, none⟩ = some (.bool (g i)) := by
  obtain ⟨cur, h1, h2, h3⟩ := h
  simpa [World.cell?, h1] using h3 i hi
theorem GoneRow.frozen {w : World} {gb n : Nat} {g : Nat → Bool} (h : GoneRow w gb n g) (i : Nat) : w.frozen? ⟨gb, i, none⟩ = false := by
  obtain ⟨cur, h1, _⟩ := h
  simp [World.frozen?, h1]
theorem GoneRow.block {w w' : World} {gb n : Nat} {g : Nat → Bool} (h : GoneRow w gb n g) (hb : w'.heap[gb]? = w.heap[gb]?) : GoneRow w' gb n g := by
  obtain ⟨cur, h1, h2⟩ := h
  exact ⟨cur, hb.trans h1, h2⟩
theorem GoneRow.set {w : World} {gb n : Nat} {g : Nat → Bool} (h : GoneRow w gb n g) {i : Nat} (hi : i < n) : GoneRow (w.setCell ⟨gb, i + 1, none⟩ (.bool true)) gb n (fun j => g j || j == i) := by
  obtain ⟨cur, h1, h2, h3⟩ := h
  refine ⟨_, (set_cells h1 (i + 1) (.bool true)).1, by simpa using h2, fun j hj => ?_⟩
  rw [Array.getElem?_setIfInBounds]
  by_cases e : j = i
  · subst e
    rw [if_pos rfl, if_pos (by omega)]
    simp
  · rw [if_neg (by omega), h3 j hj]
    simp [e]
theorem GoneRow.lt {w : World} {gb n : Nat} {g : Nat → Bool} (h : GoneRow w gb n g) : gb < w.heap.size := by
  obtain ⟨cur, h1, _⟩ := h
  exact (Array.getElem?_eq_some_iff.1 h1).1
theorem GoneRow.not {w : World} {gb n : Nat} {g : Nat → Bool} (h : GoneRow w gb n g) {qb mb : Nat} {given : Int} {R : List Stand} (q : QueueAtI w qb mb given R) : ¬ Mine qb mb R gb := by
  obtain ⟨cur, h1, _⟩ := h
  exact q.not h1 (by decide) (by decide)
theorem GoneRow.made (w : World) (n : Nat) : GoneRow (w.alloc (.cells (madeCells #[.bool false] (n + 1)) 4)) w.heap.size n (fun _ => false) := by
  refine ⟨_, heap_alloc_new w _, size_madeCells _ _, fun i hi => ?_⟩
  have h1 : i + 1 < n + 1 := by omega
  simp [madeCells, Nat.mod_one, h1]
end Go.Proofs.Ytpnbmokgjinnbaa
