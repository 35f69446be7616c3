/-
  A slice of things of two cells, which may begin inside its row.
-/
import Derived.Test.YtccpaapbgdpghaaKit
import Derived.Test.YtccpaapbgdpghaaQPure
import Derived.Deep.AppendSrc
import Derived.Deep.MidRow
namespace Go.Proofs.Ytccpaapbgdpghaa
open Go.RowKit

def flat2 (xs : List (Value × Value)) : List Value := xs.flatMap fun x => [x.1, x.2]
theorem flat2_length (xs : List (Value × Value)) : (flat2 xs).length = xs.length * 2 := by
  induction xs with
  | nil => rfl
  | cons x xs ih => simp only [flat2, List.flatMap_cons, List.length_append, List.length_cons, List.length_nil] at ih ⊢; omega
theorem flat2_at {xs : List (Value × Value)} {j : Nat} {x : Value × Value} (h : xs[j]? = some x) : (flat2 xs)[2 * j]? = some x.1 ∧ (flat2 xs)[2 * j + 1]? = some x.2 := by
  induction xs generalizing j with
  | nil => simp at h
  | cons y xs ih =>
    cases j with
    | zero =>
      simp only [List.getElem?_cons_zero, Option.some.injEq] at h
      subst h
      exact ⟨rfl, rfl⟩
    | succ j =>
      have := ih (j := j) (by simpa using h)
      rw [show 2 * (j + 1) = 2 * j + 2 by omega]
      exact this
theorem flat2_inv {xs : List (Value × Value)} {k : Nat} {u : Value} (h : (flat2 xs)[k]? = some u) : ∃ j x, xs[j]? = some x ∧ (k = 2 * j ∧ u = x.1 ∨ k = 2 * j + 1 ∧ u = x.2) := by
  have hl := (List.getElem?_eq_some_iff.1 h).1
  rw [flat2_length] at hl
  obtain ⟨x, hx⟩ : ∃ x, xs[k / 2]? = some x := ⟨_, List.getElem?_eq_getElem (by omega)⟩
  obtain ⟨h1, h2⟩ := flat2_at hx
  refine ⟨k / 2, x, hx, ?_⟩
  by_cases e : k = 2 * (k / 2)
  · rw [← e, h] at h1
    exact .inl ⟨e, Option.some.inj h1⟩
  · have e2 : 2 * (k / 2) + 1 = k := by omega
    rw [e2, h] at h2
    exact .inr ⟨e2.symm, Option.some.inj h2⟩

structure RowG (W : World) (B : Nat) (ty : TypeId) (b off n cap : Nat) (cur : Array Value) (xs : List (Value × Value)) : Prop where
  len : xs.length = n
  base : B ≤ b
  row : W.heap[b]? = some (.cells cur ty (0, 0))
  room : n ≤ cap
  fits : off + cap * 2 ≤ cur.size
  cells : ∀ j x, xs[j]? = some x → cur[off + 2 * j]? = some x.1 ∧ cur[off + 2 * j + 1]? = some x.2
def RowO (W : World) (B : Nat) (ty : TypeId) (v : Value) (xs : List (Value × Value)) : Prop :=
  (v = .slice none 0 0 ∧ xs = []) ∨ ∃ b off cap cur, v = .slice (some ⟨b, off, none⟩) xs.length cap ∧ RowG W B ty b off xs.length cap cur xs

section
variable {W W' : World} {B : Nat} {ty : TypeId} {v : Value} {xs : List (Value × Value)}
theorem RowO.form (h : RowO W B ty v xs) : ∃ a c, v = .slice a xs.length c := by
  rcases h with ⟨rfl, rfl⟩ | ⟨b, off, cap, cur, rfl, _⟩
  · exact ⟨none, 0, rfl⟩
  · exact ⟨_, _, rfl⟩
theorem RowO.block (h : RowO W B ty v xs) {g : Nat} (hg : v.ownBlock = some g) : B ≤ g ∧ ∃ cur, W.heap[g]? = some (.cells cur ty (0, 0)) := by
  rcases h with ⟨rfl, rfl⟩ | ⟨b, off, cap, cur, rfl, hr⟩
  · cases hg
  · cases hg
    exact ⟨hr.base, _, hr.row⟩
theorem RowO.kept (h : RowO W B ty v xs) {P : Nat → Prop} (hk : Kept P W W') (hP : ∀ g, v.ownBlock = some g → ¬ P g) : RowO W' B ty v xs := by
  rcases h with h | ⟨b, off, cap, cur, rfl, hr⟩
  · exact .inl h
  · exact .inr ⟨b, off, cap, cur, rfl, hr.len, hr.base, (hk.block b (Array.getElem?_eq_some_iff.1 hr.row).1 (hP b rfl)).trans hr.row, hr.room, hr.fits, hr.cells⟩
theorem RowO.cell {a : Option Addr} {n c : Nat} (h : RowO W B ty (.slice a n c) xs) {j : Nat} {x : Value × Value} (hx : xs[j]? = some x) : ∃ b off, a = some ⟨b, off, none⟩ ∧ b < W.heap.size ∧ W.cell? ⟨b, off + 2 * j, none⟩ = some x.1 ∧ W.cell? ⟨b, off + 2 * j + 1, none⟩ = some x.2 := by
  rcases h with ⟨_, rfl⟩ | ⟨b, off, cap, cur, e, hr⟩
  · simp at hx
  · simp only [Value.slice.injEq] at e
    obtain ⟨h1, h2⟩ := hr.cells j x hx
    exact ⟨b, off, e.1, (Array.getElem?_eq_some_iff.1 hr.row).1, by simp [World.cell?, hr.row, h1], by simp [World.cell?, hr.row, h2]⟩
theorem RowO.range {a : Option Addr} {n c : Nat} (h : RowO W B ty (.slice a n c) xs) {j : Nat} {x : Value × Value} (hx : xs[j]? = some x) : ∃ b off, a = some ⟨b, off, none⟩ ∧ b < W.heap.size ∧ W.rangeAt b (off + 2 * j) [x.1, x.2] ∧ W.there b (off + 2 * j) 2 ∧ (∀ W2 : World, W2.heap[b]? = W.heap[b]? → W2.rangeAt b (off + 2 * j) [x.1, x.2] ∧ W2.there b (off + 2 * j) 2) := by
  rcases h with ⟨_, rfl⟩ | ⟨b, off, cap, cur, e, hr⟩
  · simp at hx
  · simp only [Value.slice.injEq] at e
    obtain ⟨h1, h2⟩ := hr.cells j x hx
    have hall : ∀ W2 : World, W2.heap[b]? = some (.cells cur ty (0, 0)) → W2.rangeAt b (off + 2 * j) [x.1, x.2] ∧ W2.there b (off + 2 * j) 2 := fun W2 hw => by
      refine ⟨fun i u hu => ?_, fun i hi => ?_⟩
      · match i, hu with
        | 0, hu => simp at hu; subst hu; simp [World.cell?, hw, h1]
        | 1, hu => simp at hu; subst hu; simp [World.cell?, hw, h2]
      · match i, hi with
        | 0, _ => exact ⟨by simp [World.cell?, hw, h1], by simp [World.frozen?, hw]⟩
        | 1, _ => exact ⟨by simp [World.cell?, hw, h2], by simp [World.frozen?, hw]⟩
    exact ⟨b, off, e.1, (Array.getElem?_eq_some_iff.1 hr.row).1, (hall W hr.row).1, (hall W hr.row).2, fun W2 hw => hall W2 (hw.trans hr.row)⟩
theorem two_cells {w : World} {b : Nat} {cur : Array Value} {t : TypeId} (hg : w.heap[b]? = some (.cells cur t (0, 0))) (o : Nat) (x y : Value) :
    (w.setCells b o [x, y]).heap[b]? = some (.cells ((cur.setIfInBounds o x).setIfInBounds (o + 1) y) t (0, 0)) ∧ Kept (fun k => k = b) w (w.setCells b o [x, y]) := by
  have h1 := set_cells hg o x
  have h2 := set_cells h1.1 (o + 1) y
  exact ⟨h2.1, (Kept.setCell (fun k => k = b) w b o x rfl).trans (Kept.setCell (fun k => k = b) (w.setCell ⟨b, o, none⟩ x) b (o + 1) y rfl)⟩
theorem two_get {cur : Array Value} {o k : Nat} {x y : Value} (hk : k < cur.size) : ((cur.setIfInBounds o x).setIfInBounds (o + 1) y)[k]? = if k = o + 1 then some y else if k = o then some x else cur[k]? := by
  by_cases h1 : k = o + 1
  · subst h1; simp [hk]
  · by_cases h2 : k = o
    · subst h2; simp [hk]
    · rw [if_neg h1, if_neg h2, Array.getElem?_setIfInBounds_ne (fun e => h1 e.symm), Array.getElem?_setIfInBounds_ne (fun e => h2 e.symm)]
/-- One thing is stored into it. -/
theorem RowO.put {b off n c : Nat} (h : RowO W B ty (.slice (some ⟨b, off, none⟩) n c) xs) {k : Nat} (hk : k < xs.length) (x : Value × Value) :
    RowO (W.setCells b (off + 2 * k) [x.1, x.2]) B ty (.slice (some ⟨b, off, none⟩) n c) (xs.set k x) ∧ Kept (fun g => g = b) W (W.setCells b (off + 2 * k) [x.1, x.2]) := by
  rcases h with ⟨_, rfl⟩ | ⟨b', off', cap, cur, e, hr⟩
  · simp at hk
  · simp only [Value.slice.injEq, Option.some.injEq, Addr.mk.injEq, and_true] at e
    obtain ⟨⟨rfl, rfl⟩, rfl, rfl⟩ := e
    obtain ⟨h1, h2⟩ := two_cells hr.row (off + 2 * k) x.1 x.2
    have hroom := hr.room
    have hfit := hr.fits
    refine ⟨.inr ⟨b, off, c, _, by rw [List.length_set], ⟨rfl, hr.base, h1, by rw [List.length_set]; exact hr.room, by simpa using hr.fits, fun j y hy => ?_⟩⟩, h2⟩
    have hj := (List.getElem?_eq_some_iff.1 hy).1
    rw [List.length_set] at hj
    rw [two_get (by omega), two_get (by omega)]
    by_cases e : j = k
    · subst e
      rw [List.getElem?_set_self hj] at hy
      obtain rfl := Option.some.inj hy
      rw [if_neg (by omega), if_pos rfl, if_pos rfl]
      exact ⟨rfl, rfl⟩
    · rw [List.getElem?_set_ne (fun e2 => e e2.symm)] at hy
      rw [if_neg (by omega), if_neg (by omega), if_neg (by omega), if_neg (by omega)]
      exact hr.cells j y hy
/-- Without its first one. -/
theorem RowO.tail {b off n c : Nat} {x : Value × Value} (h : RowO W B ty (.slice (some ⟨b, off, none⟩) n c) (x :: xs)) : RowO W B ty (.slice (some ⟨b, off + 2, none⟩) (n - 1) (c - 1)) xs ∧ n = xs.length + 1 ∧ n ≤ c := by
  rcases h with ⟨_, h⟩ | ⟨b', off', cap, cur, e, hr⟩
  · cases h
  · simp only [Value.slice.injEq, Option.some.injEq, Addr.mk.injEq, and_true] at e
    obtain ⟨⟨rfl, rfl⟩, rfl, rfl⟩ := e
    have hroom := hr.room
    have hfit := hr.fits
    simp only [List.length_cons] at hroom ⊢
    refine ⟨.inr ⟨b, off + 2, c - 1, cur, rfl, rfl, hr.base, hr.row, by omega, by omega, fun j y hy => ?_⟩, trivial, hroom⟩
    have := hr.cells (j + 1) y (by simpa using hy)
    rw [show off + 2 * (j + 1) = off + 2 + 2 * j by omega] at this
    exact this
/-- One thing more. -/
theorem RowO.push {P : Program} (h : RowO W B ty v xs) (t sty : TypeId) (i : TypeInfo) (z : Value) (ht : P.underlying t = some (.slice ty)) (hi : P.info? ty = some i) (hz : i.zero = some z) (hsize : i.size = 2) (hzs : z.cells.size = 2) (hby : i.bytes ≤ 64)
    (x : Value × Value) (f : Nat) (hf : W.heap[f]? = some (.cells #[x.1, x.2] ty (0, 0))) (h1 : x.1.oneCell' = true) (h2 : x.2.oneCell' = true) (hB : B ≤ W.heap.size) (hl : xs.length ≤ 1000) :
    ∃ v' w', (Builtin.append_ #[t, t] sty #[v, .slice (some ⟨f, 0, none⟩) 1 1]).run P W = .ok v' w' ∧ RowO w' B ty v' (xs ++ [x]) ∧ Kept (fun k => v.ownBlock = some k) W w' := by
  have hsrc : Src P i.size t (.slice (some ⟨f, 0, none⟩) 1 1) 1 [x.1, x.2] W := by
    rw [hsize]
    refine Src.ofSlice W ht ⟨f, 0, none⟩ 1 1 [x.1, x.2] rfl (fun j u hu => ?_) (fun u hu => ?_)
    · match j, hu with
      | 0, hu => simp at hu; subst hu; simp [World.cell?, Addr.add, hf]
      | 1, hu => simp at hu; subst hu; simp [World.cell?, Addr.add, hf]
    · simp at hu
      rcases hu with rfl | rfl
      · exact h1
      · exact h2
  have hgrow : ∀ (base : Option Addr) (cap : Nat), v = .slice base xs.length cap → cap < xs.length + 1 → (Builtin.firstCells i.size xs.length (.slice base xs.length cap)).run P W.drew = .ok (flat2 xs).toArray W.drew →
      ∃ v' w', (Builtin.append_ #[t, t] sty #[v, .slice (some ⟨f, 0, none⟩) 1 1]).run P W = .ok v' w' ∧ RowO w' B ty v' (xs ++ [x]) ∧ Kept (fun k => v.ownBlock = some k) W w' := by
    rintro base cap rfl hc hold
    have hr := run_append_grow_src (P := P) W t t sty ty i z ht hi hz base xs.length cap (flat2 xs) hold (.slice (some ⟨f, 0, none⟩) 1 1) 1 [x.1, x.2] hsrc hc (by omega) (growslice_fits hc (by
      have := Nat.mul_le_mul (show xs.length + 1 ≤ 1001 by omega) hby
      omega))
    refine ⟨_, _, hr, .inr ⟨W.heap.size, 0, grownCap W (xs.length + 1) cap ty, _, ?_, ⟨rfl, hB, heap_alloc_new W.drew _, ?_, ?_, ?_⟩⟩, Kept.mono (P := fun _ => False) (Kept.ofBelow ?_) (fun _ _ h => False.elim h)⟩
    · rw [List.length_append]; rfl
    · rw [List.length_append]
      exact grownCap_ge W (xs.length + 1) cap ty
    · have := grownCap_ge W (xs.length + 1) cap ty
      simp only [Array.size_append, List.size_toArray, List.length_append, size_zeroCells, hzs, flat2_length, List.length_cons, List.length_nil]
      omega
    · intro j y hy
      have hfl : flat2 xs ++ [x.1, x.2] = flat2 (xs ++ [x]) := by simp [flat2]
      rw [hfl]
      obtain ⟨a1, a2⟩ := flat2_at hy
      have l1 := (List.getElem?_eq_some_iff.1 a1).1
      have l2 := (List.getElem?_eq_some_iff.1 a2).1
      rw [Nat.zero_add, Array.getElem?_append_left (by simpa using l1), Array.getElem?_append_left (by simpa using l2)]
      exact ⟨by simpa using a1, by simpa using a2⟩
    · exact (Below.refl W.heap.size W).drew.alloc (Nat.le_refl _) _
  rcases h with ⟨rfl, rfl⟩ | ⟨b, off, cap, cur, rfl, hr⟩
  · exact hgrow none 0 rfl (by simp) (by simpa [flat2] using run_firstCells_none W.drew i.size 0 0 0)
  · by_cases hroom : xs.length + 1 ≤ cap
    · have hfit := hr.fits
      have hrun := run_append_room_src (P := P) W t t sty ty i ht hi b off xs.length cap (.slice (some ⟨f, 0, none⟩) 1 1) 1 [x.1, x.2] hsrc hroom (fun j hj => by
        simp only [List.length_cons, List.length_nil] at hj
        have : off + xs.length * i.size + j < cur.size := by rw [hsize]; omega
        simp [World.cell?, hr.row, this]) (fun j _ => by simp [World.frozen?, hr.row])
      rw [hsize, show off + xs.length * 2 = off + 2 * xs.length by omega] at hrun
      obtain ⟨g1, g2⟩ := two_cells hr.row (off + 2 * xs.length) x.1 x.2
      refine ⟨_, _, hrun, .inr ⟨b, off, cap, _, by rw [List.length_append]; rfl, ⟨rfl, hr.base, g1, by rw [List.length_append]; exact hroom, by simpa using hr.fits, fun j y hy => ?_⟩⟩, g2.mono (fun k _ e => by rw [e]; rfl)⟩
      have hj := (List.getElem?_eq_some_iff.1 hy).1
      rw [List.length_append, List.length_singleton] at hj
      rw [two_get (by omega), two_get (by omega)]
      by_cases e : j = xs.length
      · subst e
        rw [List.getElem?_append_right (Nat.le_refl _)] at hy
        simp at hy
        subst hy
        rw [if_neg (by omega), if_pos rfl, if_pos rfl]
        exact ⟨rfl, rfl⟩
      · rw [List.getElem?_append_left (by omega)] at hy
        rw [if_neg (by omega), if_neg (by omega), if_neg (by omega), if_neg (by omega)]
        exact hr.cells j y hy
    · refine hgrow _ cap rfl (by omega) ?_
      rw [hsize]
      refine run_firstCells_some W.drew 2 xs.length ⟨b, off, none⟩ xs.length cap (flat2 xs) (flat2_length xs) (fun k u hu => ?_)
      obtain ⟨j, y, hy, e⟩ := flat2_inv hu
      obtain ⟨c1, c2⟩ := hr.cells j y hy
      have hW : W.drew.heap[b]? = some (.cells cur ty (0, 0)) := hr.row
      rcases e with ⟨rfl, rfl⟩ | ⟨rfl, rfl⟩
      · rw [Addr.add_mid]
        simp [World.cell?, hW, c1]
      · rw [show off + 2 * j + 1 = off + (2 * j + 1) by omega] at c2
        rw [Addr.add_mid]
        simp [World.cell?, hW, c2]
end
end Go.Proofs.Ytccpaapbgdpghaa
