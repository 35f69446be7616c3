/-
  The walk of the statement on the layer's numbers.
-/
import Derived.Test.YtjbmolclagmecabShown
namespace Go.Proofs.Ytjbmolclagmecab.frameNames
open Go.RowKit

set_option maxHeartbeats 1000000 in
set_option maxRecDepth 1000000 in
theorem walk (w : World) : Calls Try.prog 5 #[] w fun e w' => e = .returned (.bool true) ∧ Below w.heap.size w w' := by
  go_enter Try.func5, Try.ntmps5
  go_wp2_with fail
  refine (shown_any _).mono ?_
  rintro e w1 ⟨rfl, B1⟩
  have HB1 : Hid (Below w.heap.size w w1) := B1
  clear B1
  go_wp2
  go_ret
  exact ⟨rfl, HB1.out⟩
end Go.Proofs.Ytjbmolclagmecab.frameNames
