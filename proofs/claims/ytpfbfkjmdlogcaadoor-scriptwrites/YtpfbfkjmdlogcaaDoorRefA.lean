/-
  RefPrint, RefConf.
-/
import Derived.Test.YtpfbfkjmdlogcaaDoorPrint
import Derived.Test.YtpfbfkjmdlogcaaDoorConf
namespace Go.Proofs.YtpfbfkjmdlogcaaDoor
open Go.RowKit Go.Lib Go.Sort

/-- 'string([]byte{x})', the byte in the newest block. -/
theorem conv_one (w : World) (x : Int) : (convert 41 9 (.slice (some ⟨w.heap.size, 0, none⟩) 1 1)).run Tryd.prog (w.alloc (.cells #[.int .u8 x] 5)) = .ok (.string ⟨[UInt8.ofNat x.toNat].toArray⟩) (w.alloc (.cells #[.int .u8 x] 5)) := by
  rw [run_convert_bytes_string _ _ _ 5 _ _ _ Tryd.underlying41 Tryd.underlying5 Tryd.underlying9,
    run_bytesToString _ _ 1 1 [x] (run_loadCells_list _ _ [.int .u8 x] (cell_one_new _ _ _))]
  rfl

set_option maxHeartbeats 1000000 in
set_option maxRecDepth 1000000 in
theorem refPrint_any (n : Int) (w : World) (h0 : -9223372036854775808 ≤ n) (h1 : n ≤ 9223372036854775807) :
    Calls Tryd.prog 39 #[.int .i64 n] w fun e w' => e = .returned (.string ⟨(printL n).toArray⟩) ∧ Below w.heap.size w w' := by
  by_cases hn : n < 0
  · go_enter Tryd.func39, Tryd.ntmps39
    go_wp2
    go_ret
    exact ⟨by rw [printL, if_pos hn]; rfl, Below.refl _ _⟩
  · obtain ⟨u, rfl⟩ := Int.eq_ofNat_of_zero_le (show 0 ≤ n by omega)
    go_enter Tryd.func39, Tryd.ntmps39
    have hconv := conv_one
    go_wp2
    go_loopw [0, 3] (fun a b wr => ∃ (m : Nat) (l : List UInt8), a = .int .i64 m ∧ b = .string ⟨l.toArray⟩ ∧ m ≤ u ∧ Below w.heap.size w wr ∧ Lib.decDigits u = ahead m ++ l) (fun a _ _ => (RowKit.intOf a).toNat)
    case atStart => exact ⟨u, [UInt8.ofNat (48 + u % 10)], rfl, by simp, Nat.le_refl _, (Below.refl _ _).alloc (Nat.le_refl _) _, dec_ahead u⟩
    case round =>
      obtain ⟨m, l, rfl, rfl, hm, hb, hd⟩ := hrel
      have HD : Hid (Lib.decDigits u = ahead m ++ l) := hd
      have hl : l.length ≤ 20 := by
        have e := congrArg List.length hd
        rw [List.length_append, Lib.decDigits_length] at e
        have := Lib.nDigits_le20 u (by omega)
        omega
      clear hd
      by_cases hlt : m < 10
      · go_wp2
        go_ret
        refine ⟨?_, hb⟩
        have := HD.out
        rw [ahead, if_pos hlt, List.nil_append] at this
        rw [printL, if_neg (by omega), Lib.itoa_nonneg, this]
        rfl
      · go_wp2
        go_roundw
        case rel =>
          refine ⟨m / 10, UInt8.ofNat (48 + m / 10 % 10) :: l, by go_num, ?_, by omega, hb.alloc hb.size _, ?_⟩
          · exact congrArg Value.string (ByteArray.ext (by simp))
          · rw [HD.out, ahead, if_neg hlt, dec_ahead (m / 10)]
            simp
        case measure => simp [RowKit.intOf]; omega
end Go.Proofs.YtpfbfkjmdlogcaaDoor

namespace Go.Proofs.YtpfbfkjmdlogcaaDoor
open Go.RowKit

set_option maxRecDepth 1000000 in
theorem refWithin_any (n a b : Int) (w : World) : Calls Tryd.prog 58 #[.int .i64 n, .int .i64 a, .int .i64 b] w fun e w' => e = .returned (.bool (withinB n a b)) ∧ w' = w := by
  by_cases h1 : a ≤ n
  · by_cases h2 : n ≤ b
    · go_enter Tryd.func58, Tryd.ntmps58
      go_wp2
      go_ret
      exact ⟨by simp [withinB, h1, h2], rfl⟩
    · go_enter Tryd.func58, Tryd.ntmps58
      go_wp2
      go_ret
      exact ⟨by simp [withinB, h1, h2], rfl⟩
  · go_enter Tryd.func58, Tryd.ntmps58
    go_wp2
    go_ret
    exact ⟨by rw [show withinB n a b = false by simp [withinB]; omega]; rfl, rfl⟩

set_option maxHeartbeats 1000000 in
set_option maxRecDepth 1000000 in
theorem refConfig_any (j s q : Int) (w : World) :
    Calls Tryd.prog 38 #[.agg #[.int .i64 j, .int .i64 s, .int .i64 q]] w fun e w' => e = .returned (.int .i64 (configE j s q)) ∧ Below w.heap.size w w' := by
  have C1 : Hid (∀ W, Calls Tryd.prog 58 #[.int .i64 j, .int .i64 1, .int .i64 65535] W fun e w' => e = .returned (.bool (withinB j 1 65535)) ∧ w' = W) := refWithin_any j 1 65535
  have C2 : Hid (∀ W, Calls Tryd.prog 58 #[.int .i64 s, .int .i64 128, .int .i64 1048576] W fun e w' => e = .returned (.bool (withinB s 128 1048576)) ∧ w' = W) := refWithin_any s 128 1048576
  have C3 : Hid (∀ W, Calls Tryd.prog 58 #[.int .i64 q, .int .i64 1024, .int .i64 67108864] W fun e w' => e = .returned (.bool (withinB q 1024 67108864)) ∧ w' = W) := refWithin_any q 1024 67108864
  have HS : withinB s 128 1048576 = true → 128 ≤ s ∧ s ≤ 1048576 := within_iff.1
  have HE : Hid (configE j s q = if (withinB j 1 65535 && withinB s 128 1048576 && withinB q 1024 67108864 && decide (4 * s ≤ q)) = true then 0 else 103) := by show configE j s q = _; rfl
  obtain ⟨b1, h1⟩ : ∃ b, b = withinB j 1 65535 := ⟨_, rfl⟩
  obtain ⟨b2, h2⟩ : ∃ b, b = withinB s 128 1048576 := ⟨_, rfl⟩
  obtain ⟨b3, h3⟩ : ∃ b, b = withinB q 1024 67108864 := ⟨_, rfl⟩
  rw [← h1] at C1 HE
  rw [← h2] at C2 HE HS
  rw [← h3] at C3 HE
  clear h1 h2 h3
  have B0 : Hid (Below w.heap.size w (w.alloc (.cells #[.int .i64 j, .int .i64 s, .int .i64 q] 28))) := (Below.refl _ w).alloc (Nat.le_refl _) _
  cases b1
  · go_enter Tryd.func38, Tryd.ntmps38
    go_wp2_with (first
      | (go_at_call 58; refine (C1.out _).mono ?_; rintro e w' ⟨rfl, hw'⟩; obtain rfl := hw'.symm))
    go_ret
    exact ⟨by rw [HE.out]; rfl, B0.out⟩
  cases b2
  · go_enter Tryd.func38, Tryd.ntmps38
    go_wp2_with (first
      | (go_at_call_of 58 j; refine (C1.out _).mono ?_; rintro e w' ⟨rfl, hw'⟩; obtain rfl := hw'.symm)
      | (go_at_call_of 58 s; refine (C2.out _).mono ?_; rintro e w' ⟨rfl, hw'⟩; obtain rfl := hw'.symm))
    go_ret
    exact ⟨by rw [HE.out]; rfl, B0.out⟩
  have hs := HS rfl
  clear HS
  cases b3
  · go_enter Tryd.func38, Tryd.ntmps38
    go_wp2_with (first
      | (go_at_call_of 58 j; refine (C1.out _).mono ?_; rintro e w' ⟨rfl, hw'⟩; obtain rfl := hw'.symm)
      | (go_at_call_of 58 s; refine (C2.out _).mono ?_; rintro e w' ⟨rfl, hw'⟩; obtain rfl := hw'.symm)
      | (go_at_call_of 58 q; refine (C3.out _).mono ?_; rintro e w' ⟨rfl, hw'⟩; obtain rfl := hw'.symm))
    go_ret
    exact ⟨by rw [HE.out]; rfl, B0.out⟩
  by_cases hq : 4 * s ≤ q
  · go_enter Tryd.func38, Tryd.ntmps38
    go_wp2_with (first
      | (go_at_call_of 58 j; refine (C1.out _).mono ?_; rintro e w' ⟨rfl, hw'⟩; obtain rfl := hw'.symm)
      | (go_at_call_of 58 s; refine (C2.out _).mono ?_; rintro e w' ⟨rfl, hw'⟩; obtain rfl := hw'.symm)
      | (go_at_call_of 58 q; refine (C3.out _).mono ?_; rintro e w' ⟨rfl, hw'⟩; obtain rfl := hw'.symm))
    go_ret
    exact ⟨by rw [HE.out, decide_eq_true hq]; rfl, B0.out⟩
  · go_enter Tryd.func38, Tryd.ntmps38
    go_wp2_with (first
      | (go_at_call_of 58 j; refine (C1.out _).mono ?_; rintro e w' ⟨rfl, hw'⟩; obtain rfl := hw'.symm)
      | (go_at_call_of 58 s; refine (C2.out _).mono ?_; rintro e w' ⟨rfl, hw'⟩; obtain rfl := hw'.symm)
      | (go_at_call_of 58 q; refine (C3.out _).mono ?_; rintro e w' ⟨rfl, hw'⟩; obtain rfl := hw'.symm))
    go_ret
    exact ⟨by rw [HE.out, decide_eq_false (show ¬ 4 * s ≤ q by omega)]; rfl, B0.out⟩
end Go.Proofs.YtpfbfkjmdlogcaaDoor
