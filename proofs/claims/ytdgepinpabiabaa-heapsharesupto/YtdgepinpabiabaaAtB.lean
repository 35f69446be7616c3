/-
  A heap in memory; 'swap'.
-/
import Derived.Test.YtdgepinpabiabaaRowB
import Derived.Test.YtdgepinpabiabaaPure
namespace Go.Proofs.Ytdgepinpabiabaa
open Go.RowKit

def flatB (R : List (Int × Addr)) : List Value := R.flatMap cellsB
theorem flatB_length (R : List (Int × Addr)) : (flatB R).length = R.length * 2 := by
  induction R with
  | nil => rfl
  | cons r R ih => simp only [flatB, List.flatMap_cons, List.length_append, List.length_cons] at ih ⊢; rw [ih]; simp [cellsB]; omega
theorem flatB_get (R : List (Int × Addr)) : ∀ (i : Nat) (r : Int × Addr), R[i]? = some r → ∀ k, k < 2 → (flatB R)[i * 2 + k]? = (cellsB r)[k]? := by
  induction R with
  | nil => intro i r h; simp at h
  | cons q R ih =>
    intro i r h k hk
    have hc : (cellsB q).length = 2 := rfl
    cases i with
    | zero =>
      obtain rfl : q = r := by simpa using h
      simp only [flatB, List.flatMap_cons]
      rw [List.getElem?_append_left (by omega), show 0 * 2 + k = k by omega]
    | succ i =>
      simp only [flatB, List.flatMap_cons]
      rw [List.getElem?_append_right (by omega), hc, show (i + 1) * 2 + k - 2 = i * 2 + k by omega]
      exact ih i r (by simpa using h) k hk
theorem flatB_append (R Q : List (Int × Addr)) : flatB (R ++ Q) = flatB R ++ flatB Q := by simp [flatB]

/-- The heap at hb: its rows in v, its map at mb. -/
structure HeapAtB (w : World) (hb : Nat) (v : Value) (mb : Nat) (f : FuncId) (caps : Array Value) (last : Int) (R : List (Int × Addr)) : Prop where
  box : w.heap[hb]? = some (.cells #[.func (.func f) #[] caps, v, .map (some mb), .int .i64 last] 107 (0, 0))
  row : w.ownsRow 0 109 2 v R.length (flatB R)
  tab : ∃ g, Tab w mb R.length g ∧ Sits g R
  fit : ∀ r ∈ R, (Lit.int .i64 r.1).wf = true


theorem HeapAtB.shape {w : World} {hb mb : Nat} {v : Value} {f : FuncId} {caps : Array Value} {last : Int} {R : List (Int × Addr)} (h : HeapAtB w hb v mb f caps last R) {i : Nat} {r : Int × Addr} (hi : R[i]? = some r) :
    ∃ rb cap cur, v = .slice (some ⟨rb, 0, none⟩) R.length cap ∧ w.heap[rb]? = some (.cells cur 109 (0, 0)) ∧ R.length ≤ cap ∧ cap ≤ maxLen ∧ cur.size = cap * 2 ∧ cur.toList.take (R.length * 2) = flatB R := by
  rcases h.row.2 with ⟨_, h0⟩ | ⟨rb, cap, cur, hv, _, hg, h1, h2, h3, h4⟩
  · have := (List.getElem?_eq_some_iff.1 hi).1
    omega
  · exact ⟨rb, cap, cur, hv, hg, h1, h2, h3, h4⟩
theorem row_cellB {w : World} {rb : Nat} {cur : Array Value} {R : List (Int × Addr)} (hg : w.heap[rb]? = some (.cells cur 109 (0, 0))) (h4 : cur.toList.take (R.length * 2) = flatB R) {i : Nat} {r : Int × Addr} (hi : R[i]? = some r) (k : Nat) (u : Value) (hu : (cellsB r)[k]? = some u) :
    w.cell? ⟨rb, i * 2 + k, none⟩ = some u := by
  have hk : k < 2 := by have := (List.getElem?_eq_some_iff.1 hu).1; simpa [cellsB] using this
  have hil := (List.getElem?_eq_some_iff.1 hi).1
  have h5 := flatB_get R i r hi k hk
  rw [hu, ← h4, List.getElem?_take_of_lt (by omega)] at h5
  simpa [World.cell?, hg] using h5
/-- A row is written at a place. -/
def putB (w : World) (rb i : Nat) (r : Int × Addr) : World := (w.setCell ⟨rb, i * 2, none⟩ (.int .i64 r.1)).setCell ⟨rb, i * 2 + 1, none⟩ (.pointer (some r.2))
theorem putB_cells {w : World} {rb : Nat} {cur : Array Value} {t : TypeId} (hg : w.heap[rb]? = some (.cells cur t (0, 0))) (i : Nat) (hi : i * 2 + 2 ≤ cur.size) (r : Int × Addr) :
    (∃ cur', (putB w rb i r).heap[rb]? = some (.cells cur' t (0, 0)) ∧ cur'.size = cur.size ∧ (∀ m, m < 2 → cur'[i * 2 + m]? = (cellsB r)[m]?) ∧ ∀ q, q / 2 ≠ i → cur'[q]? = cur[q]?) ∧ w.grownBy (putB w rb i r) (some rb) := by
  unfold putB
  have a1 := set_cells hg (i * 2) (.int .i64 r.1)
  have a2 := set_cells a1.1 (i * 2 + 1) (.pointer (some r.2))
  refine ⟨⟨_, a2.1, by simp, ?_, ?_⟩, grown_trans a1.2 a2.2⟩
  · intro m hm
    have hm3 : m = 0 ∨ m = 1 := by omega
    rcases hm3 with rfl | rfl <;> simp [Array.getElem?_setIfInBounds, cellsB] <;> omega
  · intro q hq
    have hne : ∀ m, m < 2 → i * 2 + m ≠ q := fun m hm e => hq (by omega)
    have n0 := hne 0 (by omega)
    have n1 := hne 1 (by omega)
    simp only [Nat.add_zero] at n0
    simp only [Array.getElem?_setIfInBounds]
    simp [n0, n1]
theorem putB_row {w : World} {rb cap : Nat} {cur : Array Value} {R : List (Int × Addr)} (hg : w.heap[rb]? = some (.cells cur 109 (0, 0))) (h1 : R.length ≤ cap) (h3 : cur.size = cap * 2) (h4 : cur.toList.take (R.length * 2) = flatB R) {i : Nat} (hi : i < R.length) (r : Int × Addr) :
    (∃ cur', (putB w rb i r).heap[rb]? = some (.cells cur' 109 (0, 0)) ∧ cur'.size = cap * 2 ∧ cur'.toList.take (R.length * 2) = flatB (R.set i r)) ∧ w.grownBy (putB w rb i r) (some rb) := by
  obtain ⟨⟨cur', c1, c2, c3, c4⟩, c5⟩ := putB_cells hg i (by omega) r
  refine ⟨⟨cur', c1, c2.trans h3, ?_⟩, c5⟩
  refine List.ext_getElem? fun q => ?_
  by_cases hq : q < R.length * 2
  · rw [List.getElem?_take_of_lt hq, Array.getElem?_toList]
    have hqr : q / 2 < R.length := by omega
    obtain ⟨k, hk⟩ : ∃ k, k = q / 2 := ⟨_, rfl⟩
    obtain ⟨m, hm⟩ : ∃ m, m = q % 2 := ⟨_, rfl⟩
    have hqk : q = k * 2 + m := by omega
    have hmw : m < 2 := by omega
    by_cases hki : k = i
    · subst hki
      rw [hqk, c3 m hmw, flatB_get (R.set k r) k r (by simp [hi]) m hmw]
    · obtain ⟨rk, hrk⟩ : ∃ rk, R[k]? = some rk := ⟨_, List.getElem?_eq_getElem (by omega)⟩
      have h5 : (R.set i r)[k]? = some rk := by rw [List.getElem?_set_ne (fun e => hki e.symm)]; exact hrk
      rw [c4 q (by omega), hqk, flatB_get (R.set i r) k rk h5 m hmw, ← flatB_get R k rk hrk m hmw, ← h4, List.getElem?_take_of_lt (by omega), Array.getElem?_toList]
  · rw [List.getElem?_eq_none (by simp; omega), List.getElem?_eq_none (by rw [flatB_length]; simp; omega)]
end Go.Proofs.Ytdgepinpabiabaa
