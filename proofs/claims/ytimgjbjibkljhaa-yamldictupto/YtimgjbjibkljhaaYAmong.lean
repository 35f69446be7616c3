/-
  Layer 9: among.
-/
import Derived.Test.YtimgjbjibkljhaaYLentQ
namespace Go.Proofs.Ytimgjbjibkljhaa
open Go.RowKit
/-- The place. -/
def amK (i : Int) (n : Nat) : Nat := if i.tmod n < 0 then (i.tmod n + n).toNat else (i.tmod n).toNat
theorem amK_lt (i : Int) (n : Nat) (hn : 0 < n) : amK i n < n := by
  have h1 : -(n : Int) < i.tmod n := by
    have := Int.lt_tmod_of_pos i (b := (n : Int)) (by omega)
    omega
  have h2 : i.tmod n < n := Int.tmod_lt_of_pos i (by omega)
  unfold amK
  split <;> omega
set_option maxHeartbeats 2000000 in
set_option maxRecDepth 1000000 in
theorem among_any (i : Int) (n : Nat) (w : World) (hn : 0 < n) (hl : n ≤ 1073741823) :
    Calls Try.prog 19 #[.int .i64 i, .int .i64 n] w fun e w' => e = .returned (.int .i64 (amK i n : Nat)) ∧ w' = w := by
  have hn0 : ¬ (n : Int) = 0 := by omega
  go_enter Try.func19, Try.ntmps19
  go_wp2_with fail
  · have h1 : -(n : Int) < i.tmod n := by
      have := Int.lt_tmod_of_pos i (b := (n : Int)) (by omega)
      omega
    have h2 : wrap64 (i.tmod n + n) = ((i.tmod n + n).toNat : Int) := by
      rw [show wrap64 (i.tmod n + n) = IntKind.i64.wrap (i.tmod n + n) by unfold wrap64; rw [IntKind.wrap_i64], IntKind.wrap_i64]
      omega
    go_ret
    refine ⟨?_, rfl⟩
    show Ending.returned (Value.int IntKind.i64 (wrap64 (i.tmod n + n))) = _
    rw [h2, show amK i n = (i.tmod n + n).toNat from if_pos (by assumption)]
  · have h1 : i.tmod n < n := Int.tmod_lt_of_pos i (by omega)
    have h2 : i.tmod n = ((i.tmod n).toNat : Int) := by omega
    go_ret
    refine ⟨?_, rfl⟩
    show Ending.returned (Value.int IntKind.i64 (i.tmod n)) = _
    rw [show amK i n = (i.tmod n).toNat from if_neg (by omega), ← h2]
end Go.Proofs.Ytimgjbjibkljhaa
