/-
  The walk of VerbsNumbers.
-/
import Derived.Test.YtfecbepleeoibabDoorShown
namespace Go.Proofs.YtfecbepleeoibabDoor.verbsNumbers
open Go.RowKit

set_option maxHeartbeats 1000000 in
set_option maxRecDepth 1000000 in
theorem walk (w : World) (T : Tabs w) : Calls Tryd.prog 3 #[] w fun e w' => e = .returned (.bool true) ∧ Below w.heap.size w w' := by
  have HT := hide T
  clear T
  go_enter Tryd.func3, Tryd.ntmps3
  go_wp2_with (go_at_call 4; refine (shown_any _ HT.out).mono ?_; rintro e w1 ⟨rfl, B1⟩; have HB1 := hide B1; clear B1)
  all_goals go_ret
  all_goals exact ⟨by rfl, HB1.out⟩
end Go.Proofs.YtfecbepleeoibabDoor.verbsNumbers
