/-
  The walk of AnswersNames.
-/
import Derived.Test.YtnhcjajohbojmaaDoorShownA
namespace Go.Proofs.YtnhcjajohbojmaaDoor.answersNames
open Go.RowKit

set_option maxHeartbeats 1000000 in
set_option maxRecDepth 1000000 in
theorem walk (w : World) (T : Tabs w ∧ 5 ≤ w.heap.size) : Calls Tryd.prog 8 #[] w fun e w' => e = .returned (.bool true) ∧ Below w.heap.size w w' := by
  have HT := hide T
  clear T
  go_enter Tryd.func8, Tryd.ntmps8
  go_wp2_with (go_at_call 9; refine (shown_any _ HT.out.1 HT.out.2).mono ?_; rintro e w1 ⟨rfl, B1⟩; have HB1 := hide B1; clear B1)
  all_goals go_ret
  all_goals exact ⟨by simp, HB1.out⟩
end Go.Proofs.YtnhcjajohbojmaaDoor.answersNames
