/-
  The walk of 'same', of a command and itself.
-/
import Derived.Test.YtfecbepleeoibaaDoorShown
namespace Go.Proofs.YtfecbepleeoibaaDoor
open Go.RowKit Go.Lib

theorem conv_nil (w : World) : (convert 25 9 (.slice none 0 0)).run Tryd.prog w = .ok (.string ⟨#[]⟩) w := by kernel_rfl
set_option maxHeartbeats 2000000 in
set_option maxRecDepth 1000000 in
theorem same_refl (c : Cm) (w : World) :
    Calls Tryd.prog 14 #[cmdV c (.slice none 0 0), cmdV c (.slice none 0 0)] w fun e w' => e = .returned (.bool true) ∧ Below w.heap.size w w' := by
  obtain ⟨q0, q1, q2, q3, q4, q5, q6⟩ := c
  unfold cmdV
  have hcv := conv_nil
  go_enter Tryd.func14, Tryd.ntmps14
  go_wp2_with fail
  go_ret
  exact ⟨rfl, ((Below.refl _ w).alloc (Nat.le_refl _) _).alloc (by simp) _⟩
end Go.Proofs.YtfecbepleeoibaaDoor
