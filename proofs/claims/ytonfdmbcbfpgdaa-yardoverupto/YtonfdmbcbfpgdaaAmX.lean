/-
  RowM, AtM, Mine.
-/
import Derived.Test.YtonfdmbcbfpgdaaMk
import Derived.Test.YtonfdmbcbfpgdaaPure
import Derived.Test.YtonfdmbcbfpgdaaKit
namespace Go.Proofs.Ytonfdmbcbfpgdaa
open Go.RowKit

/-- A thing as a value. -/
def valM (s : Mk) : Value := .agg #[.int .i64 s.id, .int .i64 s.pri, .int .i64 s.due, .int .i64 s.ord]
/-- The cells of a row. -/
def cellsM (r : Int × Mk) : List Value := [.int .i64 r.1, .int .i64 r.2.id, .int .i64 r.2.pri, .int .i64 r.2.due, .int .i64 r.2.ord]
/-- A row as a value. -/
def rowvM (r : Int × Mk) : Value := .agg (cellsM r).toArray
/-- What is handed to a heap: a function that answers lt, of things that are ok; St n: it was asked n times; it lives in the blocks Fr. -/
structure AskerM (f : FuncId) (rk : Int) (lt : Mk → Mk → Bool) (ok : Mk → Prop) (Fr : Nat → Prop) (St : Nat → World → Prop) : Prop where
  enters : Enters Try.prog f
  ask : ∀ n w x y, St n w → ok x → ok y → Calls Try.prog f #[.int .i64 rk, valM x, valM y] w fun e w' => e = .returned (.bool (lt x y)) ∧ St (n + 1) w' ∧ Kept Fr w w'
  keep : ∀ n w w', St n w → w.heap.size ≤ w'.heap.size → (∀ k, k < w.heap.size → Fr k → w'.heap[k]? = w.heap[k]?) → St n w'
  old : ∀ n w k, St n w → Fr k → k < w.heap.size

set_option maxHeartbeats 2000000 in
set_option maxRecDepth 1000000 in
theorem aheadM {f : FuncId} {rk : Int} {lt : Mk → Mk → Bool} {ok : Mk → Prop} {Fr : Nat → Prop} {St : Nat → World → Prop} (A : AskerM f rk lt ok Fr St)
    (w : World) (hb n : Nat) (a b : Int × Mk) (hst : St n w) (h0 : w.cell? ⟨hb, 0, none⟩ = some (.func (.func f) #[.int .i64 rk] #[])) (hoa : ok a.2) (hob : ok b.2) :
    Calls Try.prog 55 #[.pointer (some ⟨hb, 0, none⟩), rowvM a, rowvM b] w fun e w' => e = .returned (.bool (rankB lt a b)) ∧ St (n + 1) w' ∧ Kept Fr w w' := by
  have HA : Hid (AskerM f rk lt ok Fr St) := A
  have e0 : ∀ (args : Array Value) (w : World), (callFunc f args).run Try.prog w = .ok (.enter f args) w := A.enters
  have HS : Hid (St n w) := hst
  obtain ⟨a1, a2⟩ := a
  obtain ⟨b1, b2⟩ := b
  have HO : Hid (ok a2 ∧ ok b2) := ⟨hoa, hob⟩
  have hlt := cell_lt h0
  simp only [] at hlt
  clear hoa hob hst A
  unfold rowvM cellsM
  simp only []
  by_cases hc : a1 < b1
  · go_enter Try.func55, Try.ntmps55
    go_wp2_with fail
    refine wp_tail 8 mixed (by kernel_rfl) ?_
    simp only [List.take_succ_cons, List.take_zero, List.drop_succ_cons, List.drop_zero]
    repeat still_step
    refine wpStill_nil ?_
    go_wp2_with fail
    refine (HA.out.ask n _ b2 a2 (HA.out.keep n w _ HS.out (below_two w _ _).size (fun k hk _ => (below_two w _ _).block k hk)) HO.out.2 HO.out.1).mono ?_
    rintro e w2 ⟨rfl, hst2, hk2⟩
    have H2 : Hid (St (n + 1) w2 ∧ Kept Fr w w2) := ⟨hst2, (Kept.ofBelow (below_two w _ _)).trans hk2⟩
    clear hst2 hk2
    go_wp2
    go_ret
    exact ⟨by simp [rankB, hc], H2.out⟩
  · go_enter Try.func55, Try.ntmps55
    go_wp2_with fail
    refine wp_tail 8 mixed (by kernel_rfl) ?_
    simp only [List.take_succ_cons, List.take_zero, List.drop_succ_cons, List.drop_zero]
    repeat still_step
    refine wpStill_nil ?_
    go_wp2_with fail
    refine (HA.out.ask n _ a2 b2 (HA.out.keep n w _ HS.out (below_two w _ _).size (fun k hk _ => (below_two w _ _).block k hk)) HO.out.1 HO.out.2).mono ?_
    rintro e w2 ⟨rfl, hst2, hk2⟩
    have H2 : Hid (St (n + 1) w2 ∧ Kept Fr w w2) := ⟨hst2, (Kept.ofBelow (below_two w _ _)).trans hk2⟩
    clear hst2 hk2
    go_wp2
    go_ret
    exact ⟨by simp only [rankB]; rw [if_neg (by omega)]; rfl, H2.out⟩
end Go.Proofs.Ytonfdmbcbfpgdaa

namespace Go.Proofs.Ytonfdmbcbfpgdaa
open Go.RowKit

def flatM (R : List (Int × Mk)) : List Value := R.flatMap cellsM
theorem flatM_length (R : List (Int × Mk)) : (flatM R).length = R.length * 5 := by
  induction R with
  | nil => rfl
  | cons r R ih => simp only [flatM, List.flatMap_cons, List.length_append, List.length_cons] at ih ⊢; rw [ih]; simp [cellsM]; omega
theorem flatM_get (R : List (Int × Mk)) : ∀ (i : Nat) (r : Int × Mk), R[i]? = some r → ∀ k, k < 5 → (flatM R)[i * 5 + k]? = (cellsM r)[k]? := by
  induction R with
  | nil => intro i r h; simp at h
  | cons q R ih =>
    intro i r h k hk
    have hc : (cellsM q).length = 5 := rfl
    cases i with
    | zero =>
      obtain rfl : q = r := by simpa using h
      simp only [flatM, List.flatMap_cons]
      rw [List.getElem?_append_left (by omega), show 0 * 5 + k = k by omega]
    | succ i =>
      simp only [flatM, List.flatMap_cons]
      rw [List.getElem?_append_right (by omega), hc, show (i + 1) * 5 + k - 5 = i * 5 + k by omega]
      exact ih i r (by simpa using h) k hk
theorem flatM_append (R Q : List (Int × Mk)) : flatM (R ++ Q) = flatM R ++ flatM Q := by simp [flatM]

/-- The heap at hb: its rows in v, its map at mb. -/
structure HeapAtM (w : World) (hb : Nat) (v : Value) (mb : Nat) (f : FuncId) (rk : Int) (last : Int) (R : List (Int × Mk)) : Prop where
  box : w.heap[hb]? = some (.cells #[.func (.func f) #[.int .i64 rk] #[], v, .map (some mb), .int .i64 last] 102 (0, 0))
  row : w.ownsRow 0 105 5 v R.length (flatM R)
  tab : ∃ g, Tab w mb R.length g ∧ Sits g R
  fit : ∀ r ∈ R, (Lit.int .i64 r.1).wf = true


theorem HeapAtM.shape {w : World} {hb mb : Nat} {v : Value} {f : FuncId} {rk : Int} {last : Int} {R : List (Int × Mk)} (h : HeapAtM w hb v mb f rk last R) {i : Nat} {r : Int × Mk} (hi : R[i]? = some r) :
    ∃ rb cap cur, v = .slice (some ⟨rb, 0, none⟩) R.length cap ∧ w.heap[rb]? = some (.cells cur 105 (0, 0)) ∧ R.length ≤ cap ∧ cap ≤ maxLen ∧ cur.size = cap * 5 ∧ cur.toList.take (R.length * 5) = flatM R := by
  rcases h.row.2 with ⟨_, h0⟩ | ⟨rb, cap, cur, hv, _, hg, h1, h2, h3, h4⟩
  · have := (List.getElem?_eq_some_iff.1 hi).1
    omega
  · exact ⟨rb, cap, cur, hv, hg, h1, h2, h3, h4⟩
theorem row_cellM {w : World} {rb : Nat} {cur : Array Value} {R : List (Int × Mk)} (hg : w.heap[rb]? = some (.cells cur 105 (0, 0))) (h4 : cur.toList.take (R.length * 5) = flatM R) {i : Nat} {r : Int × Mk} (hi : R[i]? = some r) (k : Nat) (u : Value) (hu : (cellsM r)[k]? = some u) :
    w.cell? ⟨rb, i * 5 + k, none⟩ = some u := by
  have hk : k < 5 := by have := (List.getElem?_eq_some_iff.1 hu).1; simpa [cellsM] using this
  have hil := (List.getElem?_eq_some_iff.1 hi).1
  have h5 := flatM_get R i r hi k hk
  rw [hu, ← h4, List.getElem?_take_of_lt (by omega)] at h5
  simpa [World.cell?, hg] using h5
/-- A row is written at a place. -/
def putM (w : World) (rb i : Nat) (r : Int × Mk) : World := ((((w.setCell ⟨rb, i * 5, none⟩ (.int .i64 r.1)).setCell ⟨rb, i * 5 + 1, none⟩ (.int .i64 r.2.id)).setCell ⟨rb, i * 5 + 2, none⟩ (.int .i64 r.2.pri)).setCell ⟨rb, i * 5 + 3, none⟩ (.int .i64 r.2.due)).setCell ⟨rb, i * 5 + 4, none⟩ (.int .i64 r.2.ord)
theorem putM_cells {w : World} {rb : Nat} {cur : Array Value} {t : TypeId} (hg : w.heap[rb]? = some (.cells cur t (0, 0))) (i : Nat) (hi : i * 5 + 5 ≤ cur.size) (r : Int × Mk) :
    (∃ cur', (putM w rb i r).heap[rb]? = some (.cells cur' t (0, 0)) ∧ cur'.size = cur.size ∧ (∀ m, m < 5 → cur'[i * 5 + m]? = (cellsM r)[m]?) ∧ ∀ q, q / 5 ≠ i → cur'[q]? = cur[q]?) ∧ w.grownBy (putM w rb i r) (some rb) := by
  unfold putM
  have a1 := set_cells hg (i * 5) (.int .i64 r.1)
  have a2 := set_cells a1.1 (i * 5 + 1) (.int .i64 r.2.id)
  have a3 := set_cells a2.1 (i * 5 + 2) (.int .i64 r.2.pri)
  have a4 := set_cells a3.1 (i * 5 + 3) (.int .i64 r.2.due)
  have a5 := set_cells a4.1 (i * 5 + 4) (.int .i64 r.2.ord)
  refine ⟨⟨_, a5.1, by simp, ?_, ?_⟩, grown_trans (grown_trans (grown_trans (grown_trans a1.2 a2.2) a3.2) a4.2) a5.2⟩
  · intro m hm
    have hm3 : m = 0 ∨ m = 1 ∨ m = 2 ∨ m = 3 ∨ m = 4 := by omega
    rcases hm3 with rfl | rfl | rfl | rfl | rfl <;> simp [Array.getElem?_setIfInBounds, cellsM] <;> omega
  · intro q hq
    have hne : ∀ m, m < 5 → i * 5 + m ≠ q := fun m hm e => hq (by omega)
    have n0 := hne 0 (by omega)
    have n1 := hne 1 (by omega)
    have n2 := hne 2 (by omega)
    have n3 := hne 3 (by omega)
    have n4 := hne 4 (by omega)
    simp only [Nat.add_zero] at n0
    simp only [Array.getElem?_setIfInBounds]
    simp [n0, n1, n2, n3, n4]
theorem putM_row {w : World} {rb cap : Nat} {cur : Array Value} {R : List (Int × Mk)} (hg : w.heap[rb]? = some (.cells cur 105 (0, 0))) (h1 : R.length ≤ cap) (h3 : cur.size = cap * 5) (h4 : cur.toList.take (R.length * 5) = flatM R) {i : Nat} (hi : i < R.length) (r : Int × Mk) :
    (∃ cur', (putM w rb i r).heap[rb]? = some (.cells cur' 105 (0, 0)) ∧ cur'.size = cap * 5 ∧ cur'.toList.take (R.length * 5) = flatM (R.set i r)) ∧ w.grownBy (putM w rb i r) (some rb) := by
  obtain ⟨⟨cur', c1, c2, c3, c4⟩, c5⟩ := putM_cells hg i (by omega) r
  refine ⟨⟨cur', c1, c2.trans h3, ?_⟩, c5⟩
  refine List.ext_getElem? fun q => ?_
  by_cases hq : q < R.length * 5
  · rw [List.getElem?_take_of_lt hq, Array.getElem?_toList]
    have hqr : q / 5 < R.length := by omega
    obtain ⟨k, hk⟩ : ∃ k, k = q / 5 := ⟨_, rfl⟩
    obtain ⟨m, hm⟩ : ∃ m, m = q % 5 := ⟨_, rfl⟩
    have hqk : q = k * 5 + m := by omega
    have hmw : m < 5 := by omega
    by_cases hki : k = i
    · subst hki
      rw [hqk, c3 m hmw, flatM_get (R.set k r) k r (by simp [hi]) m hmw]
    · obtain ⟨rk, hrk⟩ : ∃ rk, R[k]? = some rk := ⟨_, List.getElem?_eq_getElem (by omega)⟩
      have h5 : (R.set i r)[k]? = some rk := by rw [List.getElem?_set_ne (fun e => hki e.symm)]; exact hrk
      rw [c4 q (by omega), hqk, flatM_get (R.set i r) k rk h5 m hmw, ← flatM_get R k rk hrk m hmw, ← h4, List.getElem?_take_of_lt (by omega), Array.getElem?_toList]
  · rw [List.getElem?_eq_none (by simp; omega), List.getElem?_eq_none (by rw [flatM_length]; simp; omega)]
end Go.Proofs.Ytonfdmbcbfpgdaa

namespace Go.Proofs.Ytonfdmbcbfpgdaa
/-- The blocks of a heap. -/
def Mine (hb : Nat) (v : Value) (mb : Nat) (k : Nat) : Prop := k = hb ∨ v.ownBlock = some k ∨ k = mb

end Go.Proofs.Ytonfdmbcbfpgdaa
