/-
  The walk of 'among'.
-/
import Derived.Test.YtkjjinccnaphpaaKit
namespace Go.Proofs.Ytkjjinccnaphpaa
open Go.RowKit

def amongI (i n : Int) : Int := if n < 1 then 0 else if i.tmod n < 0 then i.tmod n + n else i.tmod n

theorem among_range {i n : Int} (hn : 1 ≤ n) : 0 ≤ amongI i n ∧ amongI i n < n := by
  have h1 := Int.tmod_lt_of_pos i (b := n) (by omega)
  have h2 : -n < i.tmod n := by
    have := Int.lt_tmod_of_pos i (b := n) (by omega)
    omega
  unfold amongI
  rw [if_neg (by omega)]
  split <;> omega

set_option maxHeartbeats 1000000 in
set_option maxRecDepth 1000000 in
theorem among_any (i n : Int) (w : World) (hn : 0 ≤ n ∧ n ≤ 4294967296) :
    Calls Try.prog 19 #[.int .i64 i, .int .i64 n] w fun e w' => e = .returned (.int .i64 (amongI i n)) ∧ w' = w := by
  by_cases h1 : n < 1
  · go_enter Try.func19, Try.ntmps19
    go_wp2_with fail
    go_ret
    exact ⟨by simp [amongI, h1], rfl⟩
  · have ha := Int.tmod_lt_of_pos i (b := n) (by omega)
    have hb := Int.lt_tmod_of_pos i (b := n) (by omega)
    have hz : (n == 0) = false := by simp; omega
    have HM : Hid (amongI i n = if i.tmod n < 0 then i.tmod n + n else i.tmod n) := (show _ = _ by unfold amongI; rw [if_neg h1])
    by_cases h2 : i.tmod n < 0
    · go_enter Try.func19, Try.ntmps19
      go_wp2_with fail
      go_ret
      exact ⟨by rw [HM.out, if_pos h2]; rfl, rfl⟩
    · go_enter Try.func19, Try.ntmps19
      go_wp2_with fail
      go_ret
      exact ⟨by rw [HM.out, if_neg (by omega)]; rfl, rfl⟩
end Go.Proofs.Ytkjjinccnaphpaa
