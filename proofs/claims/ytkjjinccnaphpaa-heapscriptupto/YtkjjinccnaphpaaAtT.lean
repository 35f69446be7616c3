/-
  A heap in memory; 'swap'.
-/
import Derived.Test.YtkjjinccnaphpaaRowT
import Derived.Test.YtkjjinccnaphpaaPure
namespace Go.Proofs.Ytkjjinccnaphpaa
open Go.RowKit

def flatT (R : List (Int × Int × Int)) : List Value := R.flatMap cellsT
theorem flatT_length (R : List (Int × Int × Int)) : (flatT R).length = R.length * 3 := by
  induction R with
  | nil => rfl
  | cons r R ih => simp only [flatT, List.flatMap_cons, List.length_append, List.length_cons] at ih ⊢; rw [ih]; simp [cellsT]; omega
theorem flatT_get (R : List (Int × Int × Int)) : ∀ (i : Nat) (r : Int × Int × Int), R[i]? = some r → ∀ k, k < 3 → (flatT R)[i * 3 + k]? = (cellsT r)[k]? := by
  induction R with
  | nil => intro i r h; simp at h
  | cons q R ih =>
    intro i r h k hk
    have hc : (cellsT q).length = 3 := rfl
    cases i with
    | zero =>
      obtain rfl : q = r := by simpa using h
      simp only [flatT, List.flatMap_cons]
      rw [List.getElem?_append_left (by omega), show 0 * 3 + k = k by omega]
    | succ i =>
      simp only [flatT, List.flatMap_cons]
      rw [List.getElem?_append_right (by omega), hc, show (i + 1) * 3 + k - 3 = i * 3 + k by omega]
      exact ih i r (by simpa using h) k hk
theorem flatT_append (R Q : List (Int × Int × Int)) : flatT (R ++ Q) = flatT R ++ flatT Q := by simp [flatT]

/-- The heap at hb: its rows in v, its map at mb. -/
structure HeapAtT (w : World) (hb : Nat) (v : Value) (mb : Nat) (f : FuncId) (caps : Array Value) (last : Int) (R : List (Int × Int × Int)) : Prop where
  box : w.heap[hb]? = some (.cells #[.func (.func f) #[] caps, v, .map (some mb), .int .i64 last] 52 (0, 0))
  row : w.ownsRow 0 66 3 v R.length (flatT R)
  tab : ∃ g, Tab w mb R.length g ∧ Sits g R
  fit : ∀ r ∈ R, (Lit.int .i64 r.1).wf = true


theorem HeapAtT.shape {w : World} {hb mb : Nat} {v : Value} {f : FuncId} {caps : Array Value} {last : Int} {R : List (Int × Int × Int)} (h : HeapAtT w hb v mb f caps last R) {i : Nat} {r : Int × Int × Int} (hi : R[i]? = some r) :
    ∃ rb cap cur, v = .slice (some ⟨rb, 0, none⟩) R.length cap ∧ w.heap[rb]? = some (.cells cur 66 (0, 0)) ∧ R.length ≤ cap ∧ cap ≤ maxLen ∧ cur.size = cap * 3 ∧ cur.toList.take (R.length * 3) = flatT R := by
  rcases h.row.2 with ⟨_, h0⟩ | ⟨rb, cap, cur, hv, _, hg, h1, h2, h3, h4⟩
  · have := (List.getElem?_eq_some_iff.1 hi).1
    omega
  · exact ⟨rb, cap, cur, hv, hg, h1, h2, h3, h4⟩
theorem row_cellT {w : World} {rb : Nat} {cur : Array Value} {R : List (Int × Int × Int)} (hg : w.heap[rb]? = some (.cells cur 66 (0, 0))) (h4 : cur.toList.take (R.length * 3) = flatT R) {i : Nat} {r : Int × Int × Int} (hi : R[i]? = some r) (k : Nat) (u : Value) (hu : (cellsT r)[k]? = some u) :
    w.cell? ⟨rb, i * 3 + k, none⟩ = some u := by
  have hk : k < 3 := by have := (List.getElem?_eq_some_iff.1 hu).1; simpa [cellsT] using this
  have hil := (List.getElem?_eq_some_iff.1 hi).1
  have h5 := flatT_get R i r hi k hk
  rw [hu, ← h4, List.getElem?_take_of_lt (by omega)] at h5
  simpa [World.cell?, hg] using h5
/-- A row is written at a place. -/
def putT (w : World) (rb i : Nat) (r : Int × Int × Int) : World := ((w.setCell ⟨rb, i * 3, none⟩ (.int .i64 r.1)).setCell ⟨rb, i * 3 + 1, none⟩ (.int .i64 r.2.1)).setCell ⟨rb, i * 3 + 2, none⟩ (.int .i64 r.2.2)
theorem putT_cells {w : World} {rb : Nat} {cur : Array Value} {t : TypeId} (hg : w.heap[rb]? = some (.cells cur t (0, 0))) (i : Nat) (hi : i * 3 + 3 ≤ cur.size) (r : Int × Int × Int) :
    (∃ cur', (putT w rb i r).heap[rb]? = some (.cells cur' t (0, 0)) ∧ cur'.size = cur.size ∧ (∀ m, m < 3 → cur'[i * 3 + m]? = (cellsT r)[m]?) ∧ ∀ q, q / 3 ≠ i → cur'[q]? = cur[q]?) ∧ w.grownBy (putT w rb i r) (some rb) := by
  unfold putT
  have a1 := set_cells hg (i * 3) (.int .i64 r.1)
  have a2 := set_cells a1.1 (i * 3 + 1) (.int .i64 r.2.1)
  have a3 := set_cells a2.1 (i * 3 + 2) (.int .i64 r.2.2)
  refine ⟨⟨_, a3.1, by simp, ?_, ?_⟩, grown_trans (grown_trans a1.2 a2.2) a3.2⟩
  · intro m hm
    have hm3 : m = 0 ∨ m = 1 ∨ m = 2 := by omega
    rcases hm3 with rfl | rfl | rfl <;> simp [Array.getElem?_setIfInBounds, cellsT] <;> omega
  · intro q hq
    have hne : ∀ m, m < 3 → i * 3 + m ≠ q := fun m hm e => hq (by omega)
    have n0 := hne 0 (by omega)
    have n1 := hne 1 (by omega)
    have n2 := hne 2 (by omega)
    simp only [Nat.add_zero] at n0
    simp only [Array.getElem?_setIfInBounds]
    simp [n0, n1, n2]
theorem putT_row {w : World} {rb cap : Nat} {cur : Array Value} {R : List (Int × Int × Int)} (hg : w.heap[rb]? = some (.cells cur 66 (0, 0))) (h1 : R.length ≤ cap) (h3 : cur.size = cap * 3) (h4 : cur.toList.take (R.length * 3) = flatT R) {i : Nat} (hi : i < R.length) (r : Int × Int × Int) :
    (∃ cur', (putT w rb i r).heap[rb]? = some (.cells cur' 66 (0, 0)) ∧ cur'.size = cap * 3 ∧ cur'.toList.take (R.length * 3) = flatT (R.set i r)) ∧ w.grownBy (putT w rb i r) (some rb) := by
  obtain ⟨⟨cur', c1, c2, c3, c4⟩, c5⟩ := putT_cells hg i (by omega) r
  refine ⟨⟨cur', c1, c2.trans h3, ?_⟩, c5⟩
  refine List.ext_getElem? fun q => ?_
  by_cases hq : q < R.length * 3
  · rw [List.getElem?_take_of_lt hq, Array.getElem?_toList]
    have hqr : q / 3 < R.length := by omega
    obtain ⟨k, hk⟩ : ∃ k, k = q / 3 := ⟨_, rfl⟩
    obtain ⟨m, hm⟩ : ∃ m, m = q % 3 := ⟨_, rfl⟩
    have hqk : q = k * 3 + m := by omega
    have hmw : m < 3 := by omega
    by_cases hki : k = i
    · subst hki
      rw [hqk, c3 m hmw, flatT_get (R.set k r) k r (by simp [hi]) m hmw]
    · obtain ⟨rk, hrk⟩ : ∃ rk, R[k]? = some rk := ⟨_, List.getElem?_eq_getElem (by omega)⟩
      have h5 : (R.set i r)[k]? = some rk := by rw [List.getElem?_set_ne (fun e => hki e.symm)]; exact hrk
      rw [c4 q (by omega), hqk, flatT_get (R.set i r) k rk h5 m hmw, ← flatT_get R k rk hrk m hmw, ← h4, List.getElem?_take_of_lt (by omega), Array.getElem?_toList]
  · rw [List.getElem?_eq_none (by simp; omega), List.getElem?_eq_none (by rw [flatT_length]; simp; omega)]
end Go.Proofs.Ytkjjinccnaphpaa
