/-
  The walk of 'pick'.
-/
import Derived.Test.YtccpaapbgdpghaaKit
namespace Go.Proofs.Ytccpaapbgdpghaa
open Go.RowKit
set_option maxHeartbeats 1000000 in
set_option maxRecDepth 1000000 in
theorem pick_any (w : World) (c : Int) (n : Nat) (hc : -9223372036854775808 ≤ c ∧ c ≤ 9223372036854775807) (hn : 0 < n) (hn2 : n ≤ 9223372036854775807) :
    Calls Try.prog 16 #[.int .i64 c, .int .i64 (n : Int)] w fun e w' => (∃ r : Nat, r < n ∧ e = .returned (.int .i64 (r : Int))) ∧ w' = w := by
  have t1 : ¬ (n : Int) < 1 := by omega
  have t2 : ((n : Int) == 0) = false := by simp; omega
  have t3 : (n : Int) ≠ 0 := by omega
  by_cases h0 : c < 0
  · go_enter Try.func16, Try.ntmps16
    go_wp2_with fail
    go_ret
    refine ⟨⟨((-(c + 1)) % (n : Int)).toNat, ?_, ?_⟩, rfl⟩
    · have h1 := Int.emod_lt_of_pos (-(c + 1)) (b := (n : Int)) (by omega)
      have h2 := Int.emod_nonneg (-(c + 1)) t3
      omega
    · have h2 := Int.emod_nonneg (-(c + 1)) t3
      have h3 : -(c + 1).tmod (n : Int) = (-(c + 1)) % (n : Int) := by rw [← Int.neg_tmod, Int.tmod_eq_emod_of_nonneg (by omega)]
      rw [show ((((-(c + 1)) % (n : Int)).toNat : Nat) : Int) = (-(c + 1)) % (n : Int) by omega, ← h3]
      rfl
  · go_enter Try.func16, Try.ntmps16
    go_wp2_with fail
    go_ret
    have h1 := Int.emod_lt_of_pos c (b := (n : Int)) (by omega)
    have h2 := Int.emod_nonneg c t3
    refine ⟨⟨(c % (n : Int)).toNat, by omega, ?_⟩, rfl⟩
    rw [show (((c % (n : Int)).toNat : Nat) : Int) = c % (n : Int) by omega]
    rfl
end Go.Proofs.Ytccpaapbgdpghaa
