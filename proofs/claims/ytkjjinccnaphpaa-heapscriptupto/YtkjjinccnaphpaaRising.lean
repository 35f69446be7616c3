/-
  The walks of the reference's Before, and of 'rising'.
-/
import Derived.Test.YtkjjinccnaphpaaRowT
namespace Go.Proofs.Ytkjjinccnaphpaa
open Go.RowKit

def upB (x y : Int × Int) : Bool := decide (x.1 < y.1)

set_option maxHeartbeats 1000000 in
set_option maxRecDepth 1000000 in
theorem before0_any (x y : Int × Int) (w : World) : Calls Try.prog 37 #[.int .i64 0, valT x, valT y] w fun e w' => e = .returned (.bool (upB x y)) ∧ Below w.heap.size w w' := by
  obtain ⟨x1, x2⟩ := x
  obtain ⟨y1, y2⟩ := y
  unfold valT
  go_enter Try.func37, Try.ntmps37
  go_wp2_with fail
  go_ret
  exact ⟨rfl, ((Below.refl _ w).alloc (Nat.le_refl _) _).alloc (by simp) _⟩

set_option maxHeartbeats 1000000 in
set_option maxRecDepth 1000000 in
theorem rising_any (x y : Int × Int) (w : World) : Calls Try.prog 16 #[valT x, valT y] w fun e w' => e = .returned (.bool (upB x y)) ∧ Below w.heap.size w w' := by
  have HC : Hid (∀ w : World, Calls Try.prog 37 #[.int .i64 0, valT x, valT y] w fun e w' => e = .returned (.bool (upB x y)) ∧ Below w.heap.size w w') := fun w => before0_any x y w
  obtain ⟨x1, x2⟩ := x
  obtain ⟨y1, y2⟩ := y
  unfold valT at HC ⊢
  go_enter Try.func16, Try.ntmps16
  go_wp2_with fail
  refine (HC.out _).mono ?_
  rintro e w1 ⟨rfl, B1⟩
  have HB : Hid (Below w.heap.size w w1) := (((Below.refl _ w).alloc (Nat.le_refl _) _).alloc (by simp) _).trans (B1.mono (by simp; omega))
  clear B1
  go_wp2_with fail
  go_ret
  exact ⟨rfl, HB.out⟩

theorem rising_asks : AskerT 16 #[] upB (fun _ => True) (fun _ => False) (fun _ _ => True) where
  enters := enters_of Try.func16 (by kernel_rfl) rfl
  ask := fun n w x y _ _ _ => (rising_any x y w).mono fun e w' ⟨he, hw⟩ => ⟨he, trivial, Kept.ofBelow hw⟩
  keep := fun _ _ _ _ _ _ => trivial
  old := fun _ _ _ _ h => h.elim
end Go.Proofs.Ytkjjinccnaphpaa
