/-
  The walk of NamesValid.
-/
import Derived.Test.YtkmamofkbhgfeaaShown
import Derived.Test.YtkmamofkbhgfeaaRefValid
import Derived.Test.YtkmamofkbhgfeaaBase
namespace Go.Proofs.Ytkmamofkbhgfeaa.namesValid
open Go.RowKit
set_option maxHeartbeats 1000000 in
set_option maxRecDepth 1000000 in
theorem walk (s : ByteArray) (w : World) (_ : s.size ≤ maxLen) : Calls Try.prog 3 #[.string s] w fun e w' => e = .returned (.bool true) ∧ Below w.heap.size w w' := by
  generalize hv : validB s.data.toList = v
  have HV : Hid (validB s.data.toList = v) := hv
  clear hv
  go_enter Try.func3, Try.ntmps3
  go_wp2_with (first
    | (go_at_call 8; refine (shown_any _).mono ?_; rintro e w1 ⟨rfl, B1⟩; have HB : Hid (Below w.heap.size w w1) := B1; clear B1)
    | (go_at_call 9; refine (valid_any _ _).mono ?_; rintro e w7 ⟨rfl, hW⟩; have hW := hW.symm; subst hW; rw [HV.out])
    | (go_at_call 10; refine (refValid_any _ _).mono ?_; rintro e w7 ⟨rfl, hW⟩; have hW := hW.symm; subst hW; rw [HV.out]))
  go_ret
  exact ⟨by simp, HB.out⟩
end Go.Proofs.Ytkmamofkbhgfeaa.namesValid
