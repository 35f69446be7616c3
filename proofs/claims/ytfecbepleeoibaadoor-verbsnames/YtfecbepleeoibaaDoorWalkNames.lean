/-
  The walk of VerbsNames.
-/
import Derived.Test.YtfecbepleeoibaaDoorRefName
namespace Go.Proofs.YtfecbepleeoibaaDoor.verbsNames
open Go.RowKit

set_option maxHeartbeats 1000000 in
set_option maxRecDepth 1000000 in
theorem walk (x0 : Int) (w : World) (_hx : -9223372036854775808 ≤ x0 ∧ x0 ≤ 9223372036854775807) (T : Tabs w) : Calls Tryd.prog 3 #[.int .i64 x0] w fun e w' => e = .returned (.bool true) ∧ Below w.heap.size w w' := by
  have HT := hide T
  clear T
  go_enter Tryd.func3, Tryd.ntmps3
  go_wp2_with (first
    | (go_at_call 9; refine (shown_any _ HT.out).mono ?_; rintro e w1 ⟨rfl, B1⟩; have HT1 := hide (HT.out.below B1); have HB1 := hide B1; clear B1)
    | (go_at_call 10; refine (name_any _ _ HT1.out).mono ?_; rintro e w2 ⟨rfl, hw2⟩; have hw2 := hw2; subst hw2)
    | (go_at_call 11; refine (refName_any _ _).mono ?_; rintro e w3 ⟨rfl, B3⟩; have HB3 : Hid (Below w.heap.size w w3) := HB1.out.trans (B3.mono HB1.out.size); clear B3))
  all_goals go_ret
  all_goals exact ⟨by simp, HB3.out⟩
end Go.Proofs.YtfecbepleeoibaaDoor.verbsNames
