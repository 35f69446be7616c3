/-
  The walk of RecordNumbers.
-/
import Derived.Test.YtgpfomidecihdabShown
namespace Go.Proofs.Ytgpfomidecihdab.recordNumbers
open Go.RowKit
set_option maxHeartbeats 1000000 in
set_option maxRecDepth 1000000 in
theorem walk (w : World) : Calls Try.prog 3 #[] w fun e w' => e = .returned (.bool true) ∧ Below w.heap.size w w' := by
  go_enter Try.func3, Try.ntmps3
  go_wp2_with (go_at_call 4; refine (shown_any _).mono ?_; rintro e w1 ⟨rfl, B1⟩; have HB : Hid (Below w.heap.size w w1) := B1; clear B1)
  go_ret
  exact ⟨rfl, HB.out⟩
end Go.Proofs.Ytgpfomidecihdab.recordNumbers
