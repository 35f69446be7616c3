/-
  The walks of 'shorter' and 'among'.
-/
import Derived.Test.YtdgepinpabiabaaRowS
namespace Go.Proofs.Ytdgepinpabiabaa
open Go.RowKit

def shortB (x y : ByteArray) : Bool := decide ((x.size : Int) < (y.size : Int))

set_option maxHeartbeats 1000000 in
set_option maxRecDepth 1000000 in
theorem shorter_any (x y : ByteArray) (w : World) : Calls Try.prog 17 #[.string x, .string y] w fun e w' => e = .returned (.bool (shortB x y)) ∧ w' = w := by
  go_enter Try.func17, Try.ntmps17
  go_wp2_with fail
  go_ret
  exact ⟨by simp [shortB], rfl⟩

theorem shorter_asks : AskerS 17 #[] shortB (fun _ => True) (fun _ => False) (fun _ _ => True) where
  enters := enters_of Try.func17 (by kernel_rfl) rfl
  ask := fun n w x y _ _ _ => (shorter_any x y w).mono fun e w' ⟨he, hw⟩ => ⟨he, trivial, by rw [hw]; exact Kept.refl _ _⟩
  keep := fun _ _ _ _ _ _ => trivial
  old := fun _ _ _ _ h => h.elim
end Go.Proofs.Ytdgepinpabiabaa
