/-
  The walk of SeatsNumbers.
-/
import Derived.Test.YtogmobkkpmpdcaaSShown
namespace Go.Proofs.Ytogmobkkpmpdcaa.seatsNumbers
open Go.RowKit
set_option maxHeartbeats 2000000 in
set_option maxRecDepth 1000000 in
theorem walk (w : World) : Calls Try.prog 5 #[] w fun e w' => e = .returned (.bool true) ∧ Below w.heap.size w w' := by
  have CS : Hid (Calls Try.prog 6 #[] w fun e w' => e = .returned (.bool true) ∧ Below w.heap.size w w') := shown_any w
  go_enter Try.func5, Try.ntmps5
  go_wp2_with (first
    | (go_at_call 6; refine CS.out.mono ?_; rintro e w1 ⟨rfl, b1⟩; have B1 : Hid (Below w.heap.size w w1) := b1; clear b1))
  go_ret
  exact ⟨rfl, B1.out⟩
end Go.Proofs.Ytogmobkkpmpdcaa.seatsNumbers
