/-
  CheckConfig.
-/
import Derived.Test.YteaccpolmmkclaaDoorMemA
import Derived.Test.YteaccpolmmkclaaDoorPlA
namespace Go.Proofs.YteaccpolmmkclaaDoor
open Go.RowKit

set_option maxRecDepth 1000000 in
theorem within_any (n a b : Int) (w : World) : Calls Tryd.prog 41 #[.int .i64 n, .int .i64 a, .int .i64 b] w fun e w' => e = .returned (.bool (withinB n a b)) ∧ w' = w := by
  by_cases h1 : a ≤ n
  · by_cases h2 : n ≤ b
    · go_enter Tryd.func41, Tryd.ntmps41
      go_wp2
      go_ret
      exact ⟨by simp [withinB, h1, h2], rfl⟩
    · go_enter Tryd.func41, Tryd.ntmps41
      go_wp2
      go_ret
      exact ⟨by simp [withinB, h1, h2], rfl⟩
  · go_enter Tryd.func41, Tryd.ntmps41
    go_wp2
    go_ret
    exact ⟨by rw [show withinB n a b = false by simp [withinB]; omega]; rfl, rfl⟩

def configE (j s q : Int) : Int := if configB j s q = true then 0 else 103
set_option maxHeartbeats 1000000 in
set_option maxRecDepth 1000000 in
theorem checkConfig_any (j s q : Int) (w : World) :
    Calls Tryd.prog 25 #[.agg #[.int .i64 j, .int .i64 s, .int .i64 q]] w fun e w' => e = .returned (.int .i64 (configE j s q)) ∧ Below w.heap.size w w' := by
  have C1 : Hid (∀ W, Calls Tryd.prog 41 #[.int .i64 j, .int .i64 1, .int .i64 65535] W fun e w' => e = .returned (.bool (withinB j 1 65535)) ∧ w' = W) := within_any j 1 65535
  have C2 : Hid (∀ W, Calls Tryd.prog 41 #[.int .i64 s, .int .i64 128, .int .i64 1048576] W fun e w' => e = .returned (.bool (withinB s 128 1048576)) ∧ w' = W) := within_any s 128 1048576
  have C3 : Hid (∀ W, Calls Tryd.prog 41 #[.int .i64 q, .int .i64 1024, .int .i64 67108864] W fun e w' => e = .returned (.bool (withinB q 1024 67108864)) ∧ w' = W) := within_any q 1024 67108864
  have HS : withinB s 128 1048576 = true → 128 ≤ s ∧ s ≤ 1048576 := within_iff.1
  have HE : Hid (configE j s q = if (withinB j 1 65535 && withinB s 128 1048576 && withinB q 1024 67108864 && decide (4 * s ≤ q)) = true then 0 else 103) := by show configE j s q = _; rfl
  obtain ⟨b1, h1⟩ : ∃ b, b = withinB j 1 65535 := ⟨_, rfl⟩
  obtain ⟨b2, h2⟩ : ∃ b, b = withinB s 128 1048576 := ⟨_, rfl⟩
  obtain ⟨b3, h3⟩ : ∃ b, b = withinB q 1024 67108864 := ⟨_, rfl⟩
  rw [← h1] at C1 HE
  rw [← h2] at C2 HE HS
  rw [← h3] at C3 HE
  clear h1 h2 h3
  have B0 : Hid (Below w.heap.size w (w.alloc (.cells #[.int .i64 j, .int .i64 s, .int .i64 q] 28))) := (Below.refl _ w).alloc (Nat.le_refl _) _
  cases b1
  · go_enter Tryd.func25, Tryd.ntmps25
    go_wp2_with (first
      | (go_at_call 41; refine (C1.out _).mono ?_; rintro e w' ⟨rfl, hw'⟩; obtain rfl := hw'.symm))
    go_ret
    exact ⟨by rw [HE.out]; rfl, B0.out⟩
  cases b2
  · go_enter Tryd.func25, Tryd.ntmps25
    go_wp2_with (first
      | (go_at_call_of 41 j; refine (C1.out _).mono ?_; rintro e w' ⟨rfl, hw'⟩; obtain rfl := hw'.symm)
      | (go_at_call_of 41 s; refine (C2.out _).mono ?_; rintro e w' ⟨rfl, hw'⟩; obtain rfl := hw'.symm))
    go_ret
    exact ⟨by rw [HE.out]; rfl, B0.out⟩
  have hs := HS rfl
  clear HS
  cases b3
  · go_enter Tryd.func25, Tryd.ntmps25
    go_wp2_with (first
      | (go_at_call_of 41 j; refine (C1.out _).mono ?_; rintro e w' ⟨rfl, hw'⟩; obtain rfl := hw'.symm)
      | (go_at_call_of 41 s; refine (C2.out _).mono ?_; rintro e w' ⟨rfl, hw'⟩; obtain rfl := hw'.symm)
      | (go_at_call_of 41 q; refine (C3.out _).mono ?_; rintro e w' ⟨rfl, hw'⟩; obtain rfl := hw'.symm))
    go_ret
    exact ⟨by rw [HE.out]; rfl, B0.out⟩
  by_cases hq : 4 * s ≤ q
  · go_enter Tryd.func25, Tryd.ntmps25
    go_wp2_with (first
      | (go_at_call_of 41 j; refine (C1.out _).mono ?_; rintro e w' ⟨rfl, hw'⟩; obtain rfl := hw'.symm)
      | (go_at_call_of 41 s; refine (C2.out _).mono ?_; rintro e w' ⟨rfl, hw'⟩; obtain rfl := hw'.symm)
      | (go_at_call_of 41 q; refine (C3.out _).mono ?_; rintro e w' ⟨rfl, hw'⟩; obtain rfl := hw'.symm))
    go_ret
    exact ⟨by rw [HE.out, decide_eq_true hq]; rfl, B0.out⟩
  · go_enter Tryd.func25, Tryd.ntmps25
    go_wp2_with (first
      | (go_at_call_of 41 j; refine (C1.out _).mono ?_; rintro e w' ⟨rfl, hw'⟩; obtain rfl := hw'.symm)
      | (go_at_call_of 41 s; refine (C2.out _).mono ?_; rintro e w' ⟨rfl, hw'⟩; obtain rfl := hw'.symm)
      | (go_at_call_of 41 q; refine (C3.out _).mono ?_; rintro e w' ⟨rfl, hw'⟩; obtain rfl := hw'.symm))
    go_ret
    exact ⟨by rw [HE.out, decide_eq_false (show ¬ 4 * s ≤ q by omega)]; rfl, B0.out⟩
end Go.Proofs.YteaccpolmmkclaaDoor
