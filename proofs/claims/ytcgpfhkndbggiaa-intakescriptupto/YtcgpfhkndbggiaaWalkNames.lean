/-
  The walk of IntakeNames.
-/
import Derived.Test.YtcgpfhkndbggiaaShown
import Derived.Test.YtcgpfhkndbggiaaBase
namespace Go.Proofs.Ytcgpfhkndbggiaa
theorem maxAt_of {W : World} (h : W.ShapedOpen Try.prog) : MaxAt W := Try.laysM185.s1_3 W h
end Go.Proofs.Ytcgpfhkndbggiaa
namespace Go.Proofs.Ytcgpfhkndbggiaa.intakeNames
open Go.RowKit
set_option maxHeartbeats 1000000 in
set_option maxRecDepth 1000000 in
theorem walk (w : World) (hm : MaxAt w) : Calls Try.prog 7 #[] w fun e w' => e = .returned (.bool true) ∧ Below w.heap.size w w' := by
  have HM : Hid (MaxAt w) := hm
  clear hm
  go_enter Try.func7, Try.ntmps7
  go_wp2_with (go_at_call 9; refine (shown_any _ HM.out).mono ?_; rintro e w1 ⟨rfl, B1⟩; have HB : Hid (Below w.heap.size w w1) := B1; clear B1)
  go_ret
  exact ⟨rfl, HB.out⟩
end Go.Proofs.Ytcgpfhkndbggiaa.intakeNames
