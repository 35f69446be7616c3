/-
  The walk of ScriptNumbers.
-/
import Derived.Test.YteecmbpabkndlaaDoorShown19
namespace Go.Proofs.YteecmbpabkndlaaDoor.scriptNumbers
open Go.RowKit

set_option maxHeartbeats 1000000 in
set_option maxRecDepth 1000000 in
theorem walk (W : World) (T : Tabs W) (h6 : 6 ≤ W.heap.size) : Calls Tryd.prog 7 #[] W fun e w' => e = .returned (.bool true) ∧ Below W.heap.size W w' := by
  have CS := hide (shown_any W T h6)
  clear T
  go_enter Tryd.func7, Tryd.ntmps7
  go_wp2_with fail
  refine CS.out.mono ?_
  rintro e w1 ⟨rfl, b1⟩
  have HB := hide b1
  clear b1
  go_wp2_with fail
  go_ret
  exact ⟨rfl, HB.out⟩
end Go.Proofs.YteecmbpabkndlaaDoor.scriptNumbers
