/-
  The walk of YamlNames.
-/
import Derived.Test.YtimgjbjibkljhaaShown
import Derived.Test.YtimgjbjibkljhaaBase
namespace Go.Proofs.Ytimgjbjibkljhaa
theorem maxAt_of {W : World} (h : W.ShapedOpen Try.prog) : MaxAt W := Try.laysM185.s1_3 W h
end Go.Proofs.Ytimgjbjibkljhaa
namespace Go.Proofs.Ytimgjbjibkljhaa.yamlNames
open Go.RowKit
set_option maxHeartbeats 1000000 in
set_option maxRecDepth 1000000 in
theorem walk (w : World) (hm : MaxAt w) : Calls Try.prog 7 #[] w fun e w' => e = .returned (.bool true) ∧ Below w.heap.size w w' := by
  have HM : Hid (MaxAt w) := hm
  clear hm
  go_enter Try.func7, Try.ntmps7
  go_wp2_with (go_at_call 9; refine (shown_any _ HM.out).mono ?_; rintro e w1 ⟨rfl, B1⟩; have HB : Hid (Below w.heap.size w w1) := B1; clear B1)
  go_ret
  exact ⟨rfl, HB.out⟩
end Go.Proofs.Ytimgjbjibkljhaa.yamlNames
