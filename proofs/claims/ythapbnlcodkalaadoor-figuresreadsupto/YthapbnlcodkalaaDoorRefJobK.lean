/-
  Layer 13: the document's state; a job's cells; pairs that were just made.
-/
import Derived.Test.YthapbnlcodkalaaDoorRefPairs
import Derived.Test.YthapbnlcodkalaaDoorHand
import Derived.Test.YthapbnlcodkalaaDoorFigJob
namespace Go.Proofs.YthapbnlcodkalaaDoor
open Go.RowKit Go.Sort

set_option maxHeartbeats 2000000 in
set_option maxRecDepth 1000000 in
theorem refstate_any (n : Int) (w : World) : Calls Tryd.prog 22 #[.int .i64 n] w fun e w' => e = .returned (.string (stS n)) ∧ w' = w := by
  by_cases h1 : n = 1
  · subst h1
    go_enter Tryd.func22, Tryd.ntmps22
    go_wp2_with fail
    go_ret
    exact ⟨rfl, rfl⟩
  by_cases h2 : n = 2
  · subst h2
    go_enter Tryd.func22, Tryd.ntmps22
    go_wp2_with fail
    go_ret
    exact ⟨rfl, rfl⟩
  by_cases h3 : n = 3
  · subst h3
    go_enter Tryd.func22, Tryd.ntmps22
    go_wp2_with fail
    go_ret
    exact ⟨rfl, rfl⟩
  by_cases h4 : n = 4
  · subst h4
    go_enter Tryd.func22, Tryd.ntmps22
    go_wp2_with fail
    go_ret
    exact ⟨rfl, rfl⟩
  have e1 : (n == 1) = false := by simpa using h1
  have e2 : (n == 2) = false := by simpa using h2
  have e3 : (n == 3) = false := by simpa using h3
  have e4 : (n == 4) = false := by simpa using h4
  have hs : Hid (stS n = ⟨#[]⟩) := by show _ = _; rw [stS, if_neg h1, if_neg h2, if_neg h3, if_neg h4]
  clear h1 h2 h3 h4
  go_enter Tryd.func22, Tryd.ntmps22
  go_wp2_with fail
  go_ret
  exact ⟨by rw [hs.out]; rfl, rfl⟩
theorem job_cells (nm : ByteArray) (id pr dl tr bo st du od ho c0 c1 c2 c3 c4 : Int) (bv : Value) (W : World) (sb : Nat) (C : Array Value) (h : W.heap[sb]? = some (.cells C 26 (0, 0))) (hC : C = #[.int .i64 id, .int .i64 pr, .int .i64 dl, .int .i64 tr, .int .i64 bo, .int .i64 st, .int .i64 du, .int .i64 od, .int .i64 ho, .int .i64 c0, .int .i64 c1, .int .i64 c2, .int .i64 c3, .int .i64 c4, .string nm, bv]) : W.cell? ⟨sb, 0, none⟩ = some (.int .i64 id) ∧ W.cell? ⟨sb, 1, none⟩ = some (.int .i64 pr) ∧ W.cell? ⟨sb, 2, none⟩ = some (.int .i64 dl) ∧ W.cell? ⟨sb, 3, none⟩ = some (.int .i64 tr) ∧ W.cell? ⟨sb, 4, none⟩ = some (.int .i64 bo) ∧ W.cell? ⟨sb, 5, none⟩ = some (.int .i64 st) ∧ W.cell? ⟨sb, 9, none⟩ = some (.int .i64 c0) ∧ W.cell? ⟨sb, 10, none⟩ = some (.int .i64 c1) ∧ W.cell? ⟨sb, 11, none⟩ = some (.int .i64 c2) ∧ W.cell? ⟨sb, 12, none⟩ = some (.int .i64 c3) ∧ W.cell? ⟨sb, 13, none⟩ = some (.int .i64 c4) ∧ W.cell? ⟨sb, 14, none⟩ = some (.string nm) := by
  subst hC
  exact ⟨cell_of_row W sb 0 _ _ (0, 0) h, cell_of_row W sb 1 _ _ (0, 0) h, cell_of_row W sb 2 _ _ (0, 0) h, cell_of_row W sb 3 _ _ (0, 0) h, cell_of_row W sb 4 _ _ (0, 0) h, cell_of_row W sb 5 _ _ (0, 0) h, cell_of_row W sb 9 _ _ (0, 0) h, cell_of_row W sb 10 _ _ (0, 0) h, cell_of_row W sb 11 _ _ (0, 0) h, cell_of_row W sb 12 _ _ (0, 0) h, cell_of_row W sb 13 _ _ (0, 0) h, cell_of_row W sb 14 _ _ (0, 0) h⟩
theorem pairs_new (w : World) (qs : List BP) (cs : Array Value) (h : cs.toList = cellsP qs) (hl : qs.length ≤ 1000) : IsPairs (w.alloc (.cells cs 52)) (some ⟨w.heap.size, 0, none⟩) qs.length qs := by
  obtain ⟨a, c, e, ip⟩ := pairs_of_row (row_new w qs cs _ rfl h hl) hl
  simp only [Value.slice.injEq] at e
  obtain ⟨rfl, _, rfl⟩ := e
  exact ip
end Go.Proofs.YthapbnlcodkalaaDoor
