/-
  Plain facts: has a command a line?
-/
import Derived.Test.YtfecbepleeoibaaDoorFields
import Derived.Test.YtfecbepleeoibaaDoorKit
namespace Go.Proofs.YtfecbepleeoibaaDoor
open Go.RowKit

theorem Tabs.kept {P : Nat → Prop} {w w' : World} (h : Tabs w) (hk : Kept P w w') (hP : ∀ j, j < 4 → ¬ P j) : Tabs w' where
  verb k hk' := hk.cell (hP _ (by decide)) (h.verb k hk')
  fld k j hk' hj := hk.cell (hP _ (by decide)) (h.fld k j hk' hj)
  great f hf := hk.cell (hP _ (by decide)) (h.great f hf)
  max := h.max.elim fun m hm => ⟨m, hk.cell (hP _ (by decide)) hm⟩
  pow := by
    have hp := h.pow
    have hl := tab_lt hp
    unfold Lib.TabIs World.var? at hp ⊢
    simp only [gPow, Option.bind_some] at hp ⊢
    rw [hk.block _ hl (hP _ (by decide))]
    exact hp

/-- How great the numbers of a kind may be, the fields of l told. -/
def mostIn (l : List Nat) (f : Nat) : Int := if l.contains f then great f else 0
def lineB (c : Cm) : Bool := decide (1 ≤ c.kind ∧ c.kind ≤ 25) && !(c.kind == 1 && c.ttr == 0) && (List.range 6).all (fun f => decide (0 ≤ numOf c f) && decide (numOf c f ≤ mostIn (formOf c.kind.toNat) f)) &&
  (if (formOf c.kind.toNat).contains 6 then validB c.tube else c.tube.isEmpty)

theorem mostIn_step (l : List Nat) (f : Nat) (hf : f ≠ 6) : mostIn (l ++ [f]) = upd (mostIn l) f (great f) := by
  funext i
  unfold mostIn upd
  by_cases h : i = f
  · subst h
    simp
  · rw [if_neg h]
    have : (l ++ [f]).contains i = l.contains i := by simp [h]
    rw [this]
theorem mostIn_tube (l : List Nat) (i : Nat) (hi : i < 6) : mostIn (l ++ [6]) i = mostIn l i := by
  unfold mostIn
  have : (l ++ [6]).contains i = l.contains i := by
    have h : i ≠ 6 := by omega
    simp [h]
  rw [this]
/-- Numbers by fields, in cells. -/
def numsA (v : Nat → Int) : Array Value := #[.int .i64 (v 0), .int .i64 (v 1), .int .i64 (v 2), .int .i64 (v 3), .int .i64 (v 4), .int .i64 (v 5)]
theorem numsA_upd (v : Nat → Int) (f : Nat) (x : Int) (hf : f < 6) : (numsA v).setIfInBounds f (.int .i64 x) = numsA (upd v f x) := by
  match f, hf with
  | 0, _ => rfl
  | 1, _ => rfl
  | 2, _ => rfl
  | 3, _ => rfl
  | 4, _ => rfl
  | 5, _ => rfl
theorem numsA_at (v : Nat → Int) (f : Nat) (hf : f < 6) : (numsA v)[f]? = some (.int .i64 (v f)) := by
  match f, hf with
  | 0, _ => rfl
  | 1, _ => rfl
  | 2, _ => rfl
  | 3, _ => rfl
  | 4, _ => rfl
  | 5, _ => rfl
theorem numsA_congr {v u : Nat → Int} (h : ∀ i, i < 6 → v i = u i) : numsA v = numsA u := by
  unfold numsA
  rw [h 0 (by decide), h 1 (by decide), h 2 (by decide), h 3 (by decide), h 4 (by decide), h 5 (by decide)]
theorem hide {p : Prop} (h : p) : Hid p := h
theorem two_a (w : World) (A B : Obj) : ((w.alloc A).alloc B).heap[w.heap.size]? = some A := by
  show ((w.alloc A).heap.push B)[w.heap.size]? = some A
  rw [Array.getElem?_push, if_neg (by simp)]
  exact heap_alloc_new w A
theorem own_form {w : World} {B e n : Nat} {v : Value} {xs : List Value} (h : w.ownsRow B e 1 v n xs) :
    ∃ a cap, v = .slice a n cap ∧ ∀ (i : Nat) x, xs[i]? = some x → ∃ g, a = some ⟨g, 0, none⟩ ∧ B ≤ g ∧ g < w.heap.size ∧ w.cell? ⟨g, i, none⟩ = some x := by
  have hl := h.1
  rcases h.2 with ⟨rfl, h0⟩ | ⟨g, cap, cur, rfl, hb, hg, rest⟩
  · subst h0
    obtain rfl : xs = [] := List.length_eq_zero_iff.1 (by omega)
    exact ⟨none, 0, rfl, fun i x hx => by cases hx⟩
  · refine ⟨_, _, rfl, fun i x hx => ⟨g, rfl, hb, (Array.getElem?_eq_some_iff.1 hg).1, ?_⟩⟩
    have hi : i < xs.length := (List.getElem?_eq_some_iff.1 hx).1
    have := h.cellAt i (by omega)
    exact this.trans hx

theorem alloc_heap {w : World} {o x : Obj} {j : Nat} (h : w.heap[j]? = some x) : (w.alloc o).heap[j]? = some x := by
  show (w.heap.push o)[j]? = some x
  rw [Array.getElem?_push, if_neg (Nat.ne_of_lt (Array.getElem?_eq_some_iff.1 h).1)]
  exact h
theorem cells_at {w : World} {b : Nat} {cs : Array Value} {t : TypeId} {fr : Nat × Nat} (h : w.heap[b]? = some (.cells cs t fr)) {i : Nat} {x : Value} (hx : cs[i]? = some x) : w.cell? ⟨b, i, none⟩ = some x := by
  simp [World.cell?, h, hx]

/-- Are the numbers ahead of field j as they may be? -/
def okTo (c : Cm) (j : Nat) : Bool := (List.range j).all (fun f => decide (0 ≤ numOf c f) && decide (numOf c f ≤ mostIn (formOf c.kind.toNat) f))
theorem okTo_step (c : Cm) (j : Nat) (h : okTo c j = true) (h0 : 0 ≤ numOf c j) (h1 : numOf c j ≤ mostIn (formOf c.kind.toNat) j) : okTo c (j + 1) = true := by
  unfold okTo at h ⊢
  rw [List.range_succ, List.all_append, h]
  simp [h0, h1]
theorem line_no (c : Cm) (j : Nat) (hj : j < 6) (h : numOf c j < 0 ∨ mostIn (formOf c.kind.toNat) j < numOf c j) : lineB c = false := by
  have : (List.range 6).all (fun f => decide (0 ≤ numOf c f) && decide (numOf c f ≤ mostIn (formOf c.kind.toNat) f)) = false := by
    rw [List.all_eq_false]
    refine ⟨j, by simpa using hj, ?_⟩
    rcases h with h | h
    · simp; omega
    · simp; omega
  unfold lineB
  rw [this]
  simp
theorem line_kind (c : Cm) (h : ¬ (1 ≤ c.kind ∧ c.kind ≤ 25)) : lineB c = false := by
  unfold lineB
  rw [decide_eq_false h]
  simp
theorem line_ttr (c : Cm) (h : c.kind = 1) (h2 : c.ttr = 0) : lineB c = false := by
  unfold lineB
  simp [h, h2]
theorem line_end (c : Cm) (hk : 1 ≤ c.kind ∧ c.kind ≤ 25) (h1 : ¬ (c.kind = 1 ∧ c.ttr = 0)) (h2 : okTo c 6 = true) :
    lineB c = if (formOf c.kind.toNat).contains 6 then validB c.tube else c.tube.isEmpty := by
  have h1' : (c.kind == 1 && c.ttr == 0) = false := by
    by_cases h : c.kind = 1
    · have : c.ttr ≠ 0 := fun e => h1 ⟨h, e⟩
      simp [this]
    · simp [h]
  unfold okTo at h2
  unfold lineB
  rw [decide_eq_true hk, h1', h2]
  simp
theorem zero8 {w : World} {b : Nat} (h : w.heap[b]? = some (.cells #[.int .i64 0, .int .i64 0, .int .i64 0, .int .i64 0, .int .i64 0, .int .i64 0, .string ⟨#[]⟩, .slice none 0 0] 27 (0, 0))) :
    w.cell? ⟨b, 0, none⟩ = some (.int .i64 0) ∧ w.cell? ⟨b, 1, none⟩ = some (.int .i64 0) ∧ w.cell? ⟨b, 2, none⟩ = some (.int .i64 0) ∧ w.cell? ⟨b, 3, none⟩ = some (.int .i64 0) ∧ w.cell? ⟨b, 4, none⟩ = some (.int .i64 0) ∧ w.cell? ⟨b, 5, none⟩ = some (.int .i64 0) ∧ w.cell? ⟨b, 6, none⟩ = some (.string ⟨#[]⟩) ∧ w.cell? ⟨b, 7, none⟩ = some (.slice none 0 0) ∧ ∀ i, w.frozen? ⟨b, i, none⟩ = false :=
  ⟨cells_at h rfl, cells_at h rfl, cells_at h rfl, cells_at h rfl, cells_at h rfl, cells_at h rfl, cells_at h rfl, cells_at h rfl, fun i => by simp [World.frozen?, h]⟩
theorem set8 {w : World} {b : Nat} (h : w.heap[b]? = some (.cells #[.int .i64 0, .int .i64 0, .int .i64 0, .int .i64 0, .int .i64 0, .int .i64 0, .string ⟨#[]⟩, .slice none 0 0] 27 (0, 0))) (v0 v1 v2 v3 v4 v5 v6 v7 : Value) :
    ((((((((w.setCell ⟨b, 0, none⟩ v0).setCell ⟨b, 1, none⟩ v1).setCell ⟨b, 2, none⟩ v2).setCell ⟨b, 3, none⟩ v3).setCell ⟨b, 4, none⟩ v4).setCell ⟨b, 5, none⟩ v5).setCell ⟨b, 6, none⟩ v6).setCell ⟨b, 7, none⟩ v7).heap[b]? = some (.cells #[v0, v1, v2, v3, v4, v5, v6, v7] 27 (0, 0)) ∧ w.grownBy ((((((((w.setCell ⟨b, 0, none⟩ v0).setCell ⟨b, 1, none⟩ v1).setCell ⟨b, 2, none⟩ v2).setCell ⟨b, 3, none⟩ v3).setCell ⟨b, 4, none⟩ v4).setCell ⟨b, 5, none⟩ v5).setCell ⟨b, 6, none⟩ v6).setCell ⟨b, 7, none⟩ v7) (some b) := by
  have a0 := set_cells h 0 v0
  have a1 := set_cells a0.1 1 v1
  have a2 := set_cells a1.1 2 v2
  have a3 := set_cells a2.1 3 v3
  have a4 := set_cells a3.1 4 v4
  have a5 := set_cells a4.1 5 v5
  have a6 := set_cells a5.1 6 v6
  have a7 := set_cells a6.1 7 v7
  refine ⟨a7.1.trans (congrArg (fun cs => some (Obj.cells cs 27 (0, 0))) ?_), (grown_trans (grown_trans (grown_trans (grown_trans (grown_trans (grown_trans (grown_trans a0.2 a1.2) a2.2) a3.2) a4.2) a5.2) a6.2) a7.2)⟩
  simp [Array.setIfInBounds]
theorem grown_below {B g : Nat} {w w1 w2 : World} (h : Below B w w1) (k : w1.grownBy w2 (some g)) (hg : B ≤ g) (hB : B ≤ w.heap.size) : Below B w w2 :=
  ⟨k.os.trans h.os, k.tape.trans h.tape, k.output.trans h.output, Nat.le_trans h.size k.size, fun j hj => (k.block j (Nat.lt_of_lt_of_le hj (Nat.le_trans hB h.size)) (fun e => by have := Option.some.inj e; omega)).trans (h.block j hj)⟩
end Go.Proofs.YtfecbepleeoibaaDoor
