/-
  The walk of sameFiles, where it answers true.
-/
import Derived.Test.YtnpofjeiamjioaaLSm
import Derived.Test.YtnpofjeiamjioaaRawF
import Derived.Deep.QuietTactic
namespace Go.Proofs.Ytnpofjeiamjioaa
open Go.RowKit

theorem same_yes (a1 a2 : Option Addr) (c1 c2 : Nat) (xs : List UInt8) (w : World) (h1 : IsBytes w a1 c1 xs) (h2 : IsBytes w a2 c2 xs) :
    Calls Try.prog 22 #[.slice a1 xs.length c1, .slice a2 xs.length c2] w fun e w' => e = .returned (.bool true) ∧ ∃ n, w' = w.drewN n := by
  refine (same_any a1 a2 c1 c2 xs xs w h1 h2).mono ?_
  rintro e w' ⟨rfl, h⟩
  exact ⟨by simp, h⟩

set_option maxHeartbeats 2000000 in
set_option maxRecDepth 1000000 in
theorem sameFiles_yes (a1 a2 : Option Addr) (c1 c2 : Nat) (R : List Rf) (w : World) (h1 : IsRaw w a1 c1 R) (h2 : IsRaw w a2 c2 R) :
    Calls Try.prog 28 #[.slice a1 R.length c1, .slice a2 R.length c2] w fun e w' => e = .returned (.bool true) ∧ ∃ n, w' = w.drewN n := by
  have H1 : Hid (IsRaw w a1 c1 R) := h1
  have H2 : Hid (IsRaw w a2 c2 R) := h2
  have hcl : R.length ≤ 9223372036854775807 := by have := h1.1; have := h1.2.1; unfold maxLen at this; omega
  clear h1 h2
  go_enter Try.func28, Try.ntmps28
  go_wp2
  go_loopw [5] (fun i wr => ∃ k : Nat, k ≤ R.length ∧ i = .int .i64 k ∧ ∃ m, wr = w.drewN m) (fun i _ => R.length - (RowKit.intOf i).toNat)
  case atStart => exact ⟨0, Nat.zero_le _, rfl, 0, rfl⟩
  case round =>
    obtain ⟨k, hk, rfl, m, hm⟩ := hrel
    have HM : Hid (wr = w.drewN m) := hm
    have HB : Hid (Below w.heap.size w wr) := by show Below _ _ _; rw [hm]; exact below_drewN (Below.refl _ w) m
    clear hm
    by_cases hlt : k < R.length
    · obtain ⟨x, hx⟩ : ∃ x, R[k]? = some x := ⟨_, List.getElem?_eq_getElem hlt⟩
      obtain ⟨b1, o1, rfl, hb1, p0, ⟨xa, xc, p1, pb⟩, p2⟩ := (H1.out.below HB.out).at hx
      obtain ⟨b2, o2, rfl, hb2, q0, ⟨ya, yc, q1, qb⟩, q2⟩ := (H2.out.below HB.out).at hx
      have I1 : Hid (IsBytes wr xa xc x.data) := pb
      have I2 : Hid (IsBytes wr ya yc x.data) := qb
      have hki : (k : Int) < (R.length : Int) := by omega
      have e1 : (x.num != x.num) = false := by simp
      have e2 : (x.safe != x.safe) = false := by simp
      clear pb qb hx
      go_wp2_with fail
      go_quiet ((go_at_call 22; exact Calls.quiet_of (same_yes _ _ _ _ x.data _ (I1.out.below (below_drewN (Below.refl _ wr) _)) (I2.out.below (below_drewN (Below.refl _ wr) _)))))
      go_wp2
      go_roundw
      case rel => exact ⟨k + 1, by omega, by go_num, m + nq, by rw [HM.out, World.drewN_drewN]⟩
      case measure => simp [RowKit.intOf]; omega
    · have hki : ¬ (k : Int) < (R.length : Int) := by omega
      go_wp2
      go_ret
      exact ⟨rfl, m, HM.out⟩

end Go.Proofs.Ytnpofjeiamjioaa
