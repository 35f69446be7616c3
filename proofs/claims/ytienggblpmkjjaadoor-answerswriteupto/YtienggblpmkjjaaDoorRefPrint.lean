/-
  The walk of the document's Print.
-/
import Derived.Test.YtienggblpmkjjaaDoorPrint
namespace Go.Proofs.YtienggblpmkjjaaDoor
open Go.RowKit Go.Lib Go.Sort

/-- 'string([]byte{x})', the byte in the newest block. -/
theorem conv_one (w : World) (x : Int) : (convert 22 9 (.slice (some ⟨w.heap.size, 0, none⟩) 1 1)).run Tryd.prog (w.alloc (.cells #[.int .u8 x] 5)) = .ok (.string ⟨[UInt8.ofNat x.toNat].toArray⟩) (w.alloc (.cells #[.int .u8 x] 5)) := by
  rw [run_convert_bytes_string _ _ _ 5 _ _ _ Tryd.underlying22 Tryd.underlying5 Tryd.underlying9,
    run_bytesToString _ _ 1 1 [x] (run_loadCells_list _ _ [.int .u8 x] (cell_one_new _ _ _))]
  rfl

set_option maxHeartbeats 1000000 in
set_option maxRecDepth 1000000 in
theorem refPrint_any (n : Int) (w : World) (h0 : -9223372036854775808 ≤ n) (h1 : n ≤ 9223372036854775807) :
    Calls Tryd.prog 41 #[.int .i64 n] w fun e w' => e = .returned (.string ⟨(printL n).toArray⟩) ∧ Below w.heap.size w w' := by
  by_cases hn : n < 0
  · go_enter Tryd.func41, Tryd.ntmps41
    go_wp2
    go_ret
    exact ⟨by rw [printL, if_pos hn]; rfl, Below.refl _ _⟩
  · obtain ⟨u, rfl⟩ := Int.eq_ofNat_of_zero_le (show 0 ≤ n by omega)
    go_enter Tryd.func41, Tryd.ntmps41
    have hconv := conv_one
    go_wp2
    go_loopw [0, 3] (fun a b wr => ∃ (m : Nat) (l : List UInt8), a = .int .i64 m ∧ b = .string ⟨l.toArray⟩ ∧ m ≤ u ∧ Below w.heap.size w wr ∧ Lib.decDigits u = ahead m ++ l) (fun a _ _ => (RowKit.intOf a).toNat)
    case atStart => exact ⟨u, [UInt8.ofNat (48 + u % 10)], rfl, by simp, Nat.le_refl _, (Below.refl _ _).alloc (Nat.le_refl _) _, dec_ahead u⟩
    case round =>
      obtain ⟨m, l, rfl, rfl, hm, hb, hd⟩ := hrel
      have HD : Hid (Lib.decDigits u = ahead m ++ l) := hd
      have hl : l.length ≤ 20 := by
        have e := congrArg List.length hd
        rw [List.length_append, Lib.decDigits_length] at e
        have := Lib.nDigits_le20 u (by omega)
        omega
      clear hd
      by_cases hlt : m < 10
      · go_wp2
        go_ret
        refine ⟨?_, hb⟩
        have := HD.out
        rw [ahead, if_pos hlt, List.nil_append] at this
        rw [printL, if_neg (by omega), Lib.itoa_nonneg, this]
        rfl
      · go_wp2
        go_roundw
        case rel =>
          refine ⟨m / 10, UInt8.ofNat (48 + m / 10 % 10) :: l, by go_num, ?_, by omega, hb.alloc hb.size _, ?_⟩
          · exact congrArg Value.string (ByteArray.ext (by simp))
          · rw [HD.out, ahead, if_neg hlt, dec_ahead (m / 10)]
            simp
        case measure => simp [RowKit.intOf]; omega
end Go.Proofs.YtienggblpmkjjaaDoor
