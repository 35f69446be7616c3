/-
  The walk of DiskNames.
-/
import Derived.Test.YtkmolklcbemfbaaShown
namespace Go.Proofs.Ytkmolklcbemfbaa.diskNames
open Go.RowKit
set_option maxHeartbeats 1000000 in
set_option maxRecDepth 1000000 in
theorem walk (w : World) : Calls Try.prog 7 #[] w fun e w' => e = .returned (.bool true) ∧ Below w.heap.size w w' := by
  go_enter Try.func7, Try.ntmps7
  go_wp2_with (go_at_call 9; refine (shown_any _).mono ?_; rintro e w1 ⟨rfl, B1⟩; have HB : Hid (Below w.heap.size w w1) := B1; clear B1)
  go_ret
  exact ⟨rfl, HB.out⟩
end Go.Proofs.Ytkmolklcbemfbaa.diskNames
