/-
  The walk of numbersOf.
-/
import Derived.Test.YtjnjaojafimfeaaSmall
import Derived.Deep.Cut
import Derived.Deep.CutRange
namespace Go.Proofs.Ytjnjaojafimfeaa
open Go.RowKit

theorem heap4 (w : World) (A N S C : Obj) : ((((w.alloc A).alloc N).alloc S).alloc C).drew.heap[w.heap.size]? = some A ∧ ((((w.alloc A).alloc N).alloc S).alloc C).drew.heap[w.heap.size + 1]? = some N ∧ ((((w.alloc A).alloc N).alloc S).alloc C).drew.heap[w.heap.size + 1 + 1]? = some S ∧ ((((w.alloc A).alloc N).alloc S).alloc C).drew.heap[w.heap.size + 1 + 1 + 1]? = some C := by
  refine ⟨?_, ?_, ?_, ?_⟩
  · rw [heap_drew, heap_alloc_old _ _ (by simp; omega), heap_alloc_old _ _ (by simp; omega), heap_alloc2_old]
  · rw [heap_drew, heap_alloc_old _ _ (by simp), heap_alloc_old _ _ (by simp), heap_alloc2_new]
  · rw [heap_drew, heap_alloc_old _ _ (by simp)]
    have := heap_alloc_last ((w.alloc A).alloc N) S
    simpa using this
  · rw [heap_drew]
    have := heap_alloc_last (((w.alloc A).alloc N).alloc S) C
    simpa using this
theorem below_four (w : World) (A N S C : Obj) : Below w.heap.size w ((((w.alloc A).alloc N).alloc S).alloc C).drew :=
  (((((Below.refl _ w).alloc (Nat.le_refl _) _).alloc (by simp) _).alloc (by simp; omega) _).alloc (by simp; omega) _).drew
theorem below_setRow {w w1 : World} {B g : Nat} {cs : Array Value} (h : Below B w w1) (hg : B ≤ g) : Below B w (w1.setRow g cs) :=
  ⟨h.os, h.tape, h.output, by simpa using h.size, fun j hj => (setRow_other w1 g j cs (by omega)).trans (h.block j hj)⟩

set_option maxHeartbeats 4000000 in
set_option maxRecDepth 1000000 in
theorem numbersOf_vars (k x0 x1 x2 x3 x4 x5 x6 x7 x8 x9 x10 x11 x12 x13 x14 x15 : Int) (t : ByteArray) (a : Option Addr) (m c : Nat) (w : World) :
    Calls Try.prog 27 #[.agg #[.int .i64 k, .int .i64 x0, .int .i64 x1, .int .i64 x2, .int .i64 x3, .int .i64 x4, .int .i64 x5, .int .i64 x6, .int .i64 x7, .int .i64 x8, .int .i64 x9, .int .i64 x10, .int .i64 x11, .int .i64 x12, .int .i64 x13, .int .i64 x14, .int .i64 x15, .string t, .slice a m c]] w fun e w' => e = .returned (.agg #[.int .i64 x0, .int .i64 x1, .int .i64 x2, .int .i64 x3, .int .i64 x4, .int .i64 x5, .int .i64 x6, .int .i64 x7, .int .i64 x8, .int .i64 x9, .int .i64 x10, .int .i64 x11, .int .i64 x12, .int .i64 x13, .int .i64 x14, .int .i64 x15]) ∧ Below w.heap.size w w' := by
  go_enter Try.func27, Try.ntmps27
  go_wp2_with fail
  go_cut [3, 4] from 5 to 9 (fun s3 s4 wx => ∃ (b3 b4 : Nat), s3 = .pointer (some ⟨b3, 0, none⟩) ∧ s4 = .pointer (some ⟨b4, 0, none⟩) ∧ Hid (wx.heap[w.heap.size]? = some (.cells #[.int .i64 k, .int .i64 x0, .int .i64 x1, .int .i64 x2, .int .i64 x3, .int .i64 x4, .int .i64 x5, .int .i64 x6, .int .i64 x7, .int .i64 x8, .int .i64 x9, .int .i64 x10, .int .i64 x11, .int .i64 x12, .int .i64 x13, .int .i64 x14, .int .i64 x15, .string t, .slice a m c] 34 (0, 0)) ∧ wx.heap[w.heap.size + 1]? = some (.cells #[.int .i64 0, .int .i64 0, .int .i64 0, .int .i64 0, .int .i64 0, .int .i64 0, .int .i64 0, .int .i64 0, .int .i64 0, .int .i64 0, .int .i64 0, .int .i64 0, .int .i64 0, .int .i64 0, .int .i64 0, .int .i64 0] 53 (0, 0)) ∧ wx.heap[b3]? = some (.cells #[.int .i64 x3, .int .i64 x4, .int .i64 x5, .int .i64 x6, .int .i64 x7, .int .i64 x8, .int .i64 x9, .int .i64 x10, .int .i64 x11, .int .i64 x12, .int .i64 x13, .int .i64 x14, .int .i64 x15, .string t, .slice a m c] 32 (0, 0)) ∧ wx.heap[b4]? = some (.cells #[.int .i64 x11, .int .i64 x12, .int .i64 x13, .int .i64 x14, .int .i64 x15] 29 (0, 0)) ∧ Below w.heap.size w wx))
  case first =>
    go_region
    · go_wp2_with fail
      go_meet
      obtain ⟨h1, h2, h3, h4⟩ := heap4 w (.cells #[.int .i64 k, .int .i64 x0, .int .i64 x1, .int .i64 x2, .int .i64 x3, .int .i64 x4, .int .i64 x5, .int .i64 x6, .int .i64 x7, .int .i64 x8, .int .i64 x9, .int .i64 x10, .int .i64 x11, .int .i64 x12, .int .i64 x13, .int .i64 x14, .int .i64 x15, .string t, .slice a m c] 34) (.cells #[.int .i64 0, .int .i64 0, .int .i64 0, .int .i64 0, .int .i64 0, .int .i64 0, .int .i64 0, .int .i64 0, .int .i64 0, .int .i64 0, .int .i64 0, .int .i64 0, .int .i64 0, .int .i64 0, .int .i64 0, .int .i64 0] 53) (.cells #[.int .i64 x3, .int .i64 x4, .int .i64 x5, .int .i64 x6, .int .i64 x7, .int .i64 x8, .int .i64 x9, .int .i64 x10, .int .i64 x11, .int .i64 x12, .int .i64 x13, .int .i64 x14, .int .i64 x15, .string t, .slice a m c] 32) (.cells #[.int .i64 x11, .int .i64 x12, .int .i64 x13, .int .i64 x14, .int .i64 x15] 29)
      exact ⟨_, _, rfl, rfl, h1, h2, h3, h4, below_four _ _ _ _ _⟩
    · go_wp2_with fail
      go_meet
      obtain ⟨h1, h2, h3, h4⟩ := heap4 w (.cells #[.int .i64 k, .int .i64 x0, .int .i64 x1, .int .i64 x2, .int .i64 x3, .int .i64 x4, .int .i64 x5, .int .i64 x6, .int .i64 x7, .int .i64 x8, .int .i64 x9, .int .i64 x10, .int .i64 x11, .int .i64 x12, .int .i64 x13, .int .i64 x14, .int .i64 x15, .string t, .slice a m c] 34) (.cells #[.int .i64 0, .int .i64 0, .int .i64 0, .int .i64 0, .int .i64 0, .int .i64 0, .int .i64 0, .int .i64 0, .int .i64 0, .int .i64 0, .int .i64 0, .int .i64 0, .int .i64 0, .int .i64 0, .int .i64 0, .int .i64 0] 53) (.cells #[.int .i64 x11, .int .i64 x12, .int .i64 x13, .int .i64 x14, .int .i64 x15] 29) (.cells #[.int .i64 x3, .int .i64 x4, .int .i64 x5, .int .i64 x6, .int .i64 x7, .int .i64 x8, .int .i64 x9, .int .i64 x10, .int .i64 x11, .int .i64 x12, .int .i64 x13, .int .i64 x14, .int .i64 x15, .string t, .slice a m c] 32)
      exact ⟨_, _, rfl, rfl, h1, h2, h4, h3, below_four _ _ _ _ _⟩
  case rest =>
    obtain ⟨b3, b4, rfl, rfl, HX⟩ := hcut
    obtain ⟨h1, h2, h3, h4, hb⟩ := HX.out
    have HN : Hid (wc.heap[w.heap.size + 1]? = some (.cells #[.int .i64 0, .int .i64 0, .int .i64 0, .int .i64 0, .int .i64 0, .int .i64 0, .int .i64 0, .int .i64 0, .int .i64 0, .int .i64 0, .int .i64 0, .int .i64 0, .int .i64 0, .int .i64 0, .int .i64 0, .int .i64 0] 53 (0, 0))) := h2
    have HB : Hid (Below w.heap.size w wc) := hb
    have r1 : wc.cell? ⟨w.heap.size, 1, none⟩ = some (.int .i64 x0) := cell_of_row wc _ 1 _ _ (0, 0) h1
    have r2 : wc.cell? ⟨w.heap.size, 2, none⟩ = some (.int .i64 x1) := cell_of_row wc _ 2 _ _ (0, 0) h1
    have r3 : wc.cell? ⟨w.heap.size, 3, none⟩ = some (.int .i64 x2) := cell_of_row wc _ 3 _ _ (0, 0) h1
    have j0 : wc.cell? ⟨b3, 0, none⟩ = some (.int .i64 x3) := cell_of_row wc _ 0 _ _ (0, 0) h3
    have j1 : wc.cell? ⟨b3, 1, none⟩ = some (.int .i64 x4) := cell_of_row wc _ 1 _ _ (0, 0) h3
    have j2 : wc.cell? ⟨b3, 2, none⟩ = some (.int .i64 x5) := cell_of_row wc _ 2 _ _ (0, 0) h3
    have j3 : wc.cell? ⟨b3, 3, none⟩ = some (.int .i64 x6) := cell_of_row wc _ 3 _ _ (0, 0) h3
    have j4 : wc.cell? ⟨b3, 4, none⟩ = some (.int .i64 x7) := cell_of_row wc _ 4 _ _ (0, 0) h3
    have j5 : wc.cell? ⟨b3, 5, none⟩ = some (.int .i64 x8) := cell_of_row wc _ 5 _ _ (0, 0) h3
    have j6 : wc.cell? ⟨b3, 6, none⟩ = some (.int .i64 x9) := cell_of_row wc _ 6 _ _ (0, 0) h3
    have j7 : wc.cell? ⟨b3, 7, none⟩ = some (.int .i64 x10) := cell_of_row wc _ 7 _ _ (0, 0) h3
    have c0 : wc.cell? ⟨b4, 0, none⟩ = some (.int .i64 x11) := cell_of_row wc _ 0 _ _ (0, 0) h4
    have c1 : wc.cell? ⟨b4, 1, none⟩ = some (.int .i64 x12) := cell_of_row wc _ 1 _ _ (0, 0) h4
    have c2 : wc.cell? ⟨b4, 2, none⟩ = some (.int .i64 x13) := cell_of_row wc _ 2 _ _ (0, 0) h4
    have c3 : wc.cell? ⟨b4, 3, none⟩ = some (.int .i64 x14) := cell_of_row wc _ 3 _ _ (0, 0) h4
    have c4 : wc.cell? ⟨b4, 4, none⟩ = some (.int .i64 x15) := cell_of_row wc _ 4 _ _ (0, 0) h4
    clear HX h1 h2 h3 h4 hb
    go_wp2_with (refine wpList_store_row rfl 53 (.tmp 2) (.tmp 42) rfl (w.heap.size + 1) #[.int .i64 x0, .int .i64 x1, .int .i64 x2, .int .i64 x3, .int .i64 x4, .int .i64 x5, .int .i64 x6, .int .i64 x7, .int .i64 x8, .int .i64 x9, .int .i64 x10, .int .i64 x11, .int .i64 x12, .int .i64 x13, .int .i64 x14, .int .i64 x15] rfl rfl 53 #[.int .i64 0, .int .i64 0, .int .i64 0, .int .i64 0, .int .i64 0, .int .i64 0, .int .i64 0, .int .i64 0, .int .i64 0, .int .i64 0, .int .i64 0, .int .i64 0, .int .i64 0, .int .i64 0, .int .i64 0, .int .i64 0] HN.out info_nums rfl (by simp [Value.oneCell']) ?_)
    refine bodyPost_ret (results_cell_row rfl _ _ (w.heap.size + 1) 53 _ (0, 0) _ rfl (setRow_heap wc _ _ _ _ _ HN.out) Try.underlying53 rfl info_nums) rfl ?_
    exact ⟨rfl, below_setRow HB.out (by omega)⟩
theorem numbersOf_any (r : Rec) (a : Option Addr) (m c : Nat) (w : World) :
    Calls Try.prog 27 #[.agg (recA r (.slice a m c))] w fun e w' => e = .returned (.agg (numsA r.num)) ∧ Below w.heap.size w w' := by
  exact numbersOf_vars r.kind (r.num 0) (r.num 1) (r.num 2) (r.num 3) (r.num 4) (r.num 5) (r.num 6) (r.num 7) (r.num 8) (r.num 9) (r.num 10) (r.num 11) (r.num 12) (r.num 13) (r.num 14) (r.num 15) ⟨r.tube.toArray⟩ a m c w
end Go.Proofs.Ytjnjaojafimfeaa
