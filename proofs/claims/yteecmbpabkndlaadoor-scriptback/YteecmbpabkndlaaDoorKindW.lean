/-
  The walk of kindOf.
-/
import Derived.Test.YteecmbpabkndlaaDoorDataW
namespace Go.Proofs.YteecmbpabkndlaaDoor
open Go.RowKit

def formV (k : Nat) : Array Value := match k with
  | 0 => #[.string ⟨#[]⟩, .bool false, .bool false, .bool false, .bool false]
  | 1 => #[.string ⟨#[111, 112, 101, 110]⟩, .bool true, .bool false, .bool false, .bool false]
  | 2 => #[.string ⟨#[102, 101, 101, 100]⟩, .bool true, .bool true, .bool true, .bool false]
  | 3 => #[.string ⟨#[104, 97, 110, 103]⟩, .bool true, .bool false, .bool true, .bool false]
  | 4 => #[.string ⟨#[116, 105, 99, 107]⟩, .bool false, .bool false, .bool true, .bool false]
  | 5 => #[.string ⟨#[100, 114, 97, 105, 110]⟩, .bool false, .bool false, .bool false, .bool false]
  | 6 => #[.string ⟨#[99, 114, 97, 115, 104]⟩, .bool false, .bool false, .bool false, .bool true]
  | 7 => #[.string ⟨#[115, 116, 97, 114, 116]⟩, .bool false, .bool false, .bool true, .bool false]
  | _ => #[]
theorem ixF0 (w : World) : (Instr.index 95 (.agg formsA) (.int .i64 0)).run Tryd.prog w = .ok (.agg #[.string ⟨#[]⟩, .bool false, .bool false, .bool false, .bool false]) w := by kernel_rfl
theorem ixF1 (w : World) : (Instr.index 95 (.agg formsA) (.int .i64 1)).run Tryd.prog w = .ok (.agg #[.string ⟨#[111, 112, 101, 110]⟩, .bool true, .bool false, .bool false, .bool false]) w := by kernel_rfl
theorem ixF2 (w : World) : (Instr.index 95 (.agg formsA) (.int .i64 2)).run Tryd.prog w = .ok (.agg #[.string ⟨#[102, 101, 101, 100]⟩, .bool true, .bool true, .bool true, .bool false]) w := by kernel_rfl
theorem ixF3 (w : World) : (Instr.index 95 (.agg formsA) (.int .i64 3)).run Tryd.prog w = .ok (.agg #[.string ⟨#[104, 97, 110, 103]⟩, .bool true, .bool false, .bool true, .bool false]) w := by kernel_rfl
theorem ixF4 (w : World) : (Instr.index 95 (.agg formsA) (.int .i64 4)).run Tryd.prog w = .ok (.agg #[.string ⟨#[116, 105, 99, 107]⟩, .bool false, .bool false, .bool true, .bool false]) w := by kernel_rfl
theorem ixF5 (w : World) : (Instr.index 95 (.agg formsA) (.int .i64 5)).run Tryd.prog w = .ok (.agg #[.string ⟨#[100, 114, 97, 105, 110]⟩, .bool false, .bool false, .bool false, .bool false]) w := by kernel_rfl
theorem ixF6 (w : World) : (Instr.index 95 (.agg formsA) (.int .i64 6)).run Tryd.prog w = .ok (.agg #[.string ⟨#[99, 114, 97, 115, 104]⟩, .bool false, .bool false, .bool false, .bool true]) w := by kernel_rfl
theorem ixF7 (w : World) : (Instr.index 95 (.agg formsA) (.int .i64 7)).run Tryd.prog w = .ok (.agg #[.string ⟨#[115, 116, 97, 114, 116]⟩, .bool false, .bool false, .bool true, .bool false]) w := by kernel_rfl

set_option maxHeartbeats 4000000 in
set_option maxRecDepth 1000000 in
theorem kind_table (s : ByteArray) (kk : Nat) (w : World) (T : Tabs w) (hk : kk ≤ 8) (hne : ∀ j, j < kk → wordP j ≠ s.data.toList) (heq : kk < 8 → wordP kk = s.data.toList) :
    Calls Tryd.prog 63 #[.string s] w fun e w' => e = .returned (.int .i64 (if kk < 8 then (kk : Int) else 0)) ∧ Below w.heap.size w w' := by
  obtain ⟨t0, fz0, hf⟩ := T.forms
  have HNE := hide hne
  have HEQ := hide heq
  obtain ⟨FA, hFA⟩ : ∃ FA, formsA = FA := ⟨_, rfl⟩
  have ix0 := ixF0
  rw [hFA] at ix0
  have ix1 := ixF1
  rw [hFA] at ix1
  have ix2 := ixF2
  rw [hFA] at ix2
  have ix3 := ixF3
  rw [hFA] at ix3
  have ix4 := ixF4
  rw [hFA] at ix4
  have ix5 := ixF5
  rw [hFA] at ix5
  have ix6 := ixF6
  rw [hFA] at ix6
  have ix7 := ixF7
  rw [hFA] at ix7
  have hfs : (Tryd.prog.info? 95).map (·.size) = some FA.size := by rw [← hFA]; kernel_rfl
  rw [hFA] at hf
  clear T hne heq hFA
  go_enter Tryd.func63, Tryd.ntmps63
  go_wp2_with (refine wpList_load_row rfl 95 (.global 0) rfl 0 rfl t0 FA fz0 _ hf Tryd.underlying95 rfl hfs ?_)
  go_loopg [6] 8 (fun gk i wr => ∃ k : Nat, i = .int .i64 (k : Int) ∧ k ≤ kk ∧ 8 - k ≤ gk ∧ Hid (Below w.heap.size w wr))
  case atStart => exact ⟨0, rfl, Nat.zero_le _, by omega, Below.refl _ _⟩
  case round =>
    obtain ⟨k, rfl, hkk, hgk, HB⟩ := hrel
    have hz := HB.out.size
    clear hf
    rcases (show k = 0 ∨ k = 1 ∨ k = 2 ∨ k = 3 ∨ k = 4 ∨ k = 5 ∨ k = 6 ∨ k = 7 ∨ k = 8 by omega) with rfl | rfl | rfl | rfl | rfl | rfl | rfl | rfl | rfl
    · have HB2 : Hid (Below w.heap.size w (wr.alloc (.cells #[.string ⟨#[]⟩, .bool false, .bool false, .bool false, .bool false] 94))) := HB.out.alloc hz _
      by_cases hlt : 0 < kk
      · have hnm : (([] : List UInt8) == s.toList) = false := by
          have := HNE.out 0 hlt
          rw [ByteArray.toList_eq, beq_eq_false_iff_ne]
          exact this
        go_wp2_with fail
        go_roundg (8 - (0 + 1))
        case measure => omega
        case rel => exact ⟨0 + 1, by go_num, by omega, Nat.le_refl _, HB2⟩
      · have hke : kk = 0 := by omega
        have hnm : (([] : List UInt8) == s.toList) = true := by
          have := HEQ.out (by omega)
          rw [hke] at this
          rw [ByteArray.toList_eq, beq_iff_eq]
          exact this
        have HKE := hide hke
        clear hke
        go_wp2_with fail
        go_ret
        exact ⟨by rw [HKE.out]; rfl, HB2.out⟩
    · have HB2 : Hid (Below w.heap.size w (wr.alloc (.cells #[.string ⟨#[111, 112, 101, 110]⟩, .bool true, .bool false, .bool false, .bool false] 94))) := HB.out.alloc hz _
      by_cases hlt : 1 < kk
      · have hnm : (([111, 112, 101, 110] : List UInt8) == s.toList) = false := by
          have := HNE.out 1 hlt
          rw [ByteArray.toList_eq, beq_eq_false_iff_ne]
          exact this
        go_wp2_with fail
        go_roundg (8 - (1 + 1))
        case measure => omega
        case rel => exact ⟨1 + 1, by go_num, by omega, Nat.le_refl _, HB2⟩
      · have hke : kk = 1 := by omega
        have hnm : (([111, 112, 101, 110] : List UInt8) == s.toList) = true := by
          have := HEQ.out (by omega)
          rw [hke] at this
          rw [ByteArray.toList_eq, beq_iff_eq]
          exact this
        have HKE := hide hke
        clear hke
        go_wp2_with fail
        go_ret
        exact ⟨by rw [HKE.out]; rfl, HB2.out⟩
    · have HB2 : Hid (Below w.heap.size w (wr.alloc (.cells #[.string ⟨#[102, 101, 101, 100]⟩, .bool true, .bool true, .bool true, .bool false] 94))) := HB.out.alloc hz _
      by_cases hlt : 2 < kk
      · have hnm : (([102, 101, 101, 100] : List UInt8) == s.toList) = false := by
          have := HNE.out 2 hlt
          rw [ByteArray.toList_eq, beq_eq_false_iff_ne]
          exact this
        go_wp2_with fail
        go_roundg (8 - (2 + 1))
        case measure => omega
        case rel => exact ⟨2 + 1, by go_num, by omega, Nat.le_refl _, HB2⟩
      · have hke : kk = 2 := by omega
        have hnm : (([102, 101, 101, 100] : List UInt8) == s.toList) = true := by
          have := HEQ.out (by omega)
          rw [hke] at this
          rw [ByteArray.toList_eq, beq_iff_eq]
          exact this
        have HKE := hide hke
        clear hke
        go_wp2_with fail
        go_ret
        exact ⟨by rw [HKE.out]; rfl, HB2.out⟩
    · have HB2 : Hid (Below w.heap.size w (wr.alloc (.cells #[.string ⟨#[104, 97, 110, 103]⟩, .bool true, .bool false, .bool true, .bool false] 94))) := HB.out.alloc hz _
      by_cases hlt : 3 < kk
      · have hnm : (([104, 97, 110, 103] : List UInt8) == s.toList) = false := by
          have := HNE.out 3 hlt
          rw [ByteArray.toList_eq, beq_eq_false_iff_ne]
          exact this
        go_wp2_with fail
        go_roundg (8 - (3 + 1))
        case measure => omega
        case rel => exact ⟨3 + 1, by go_num, by omega, Nat.le_refl _, HB2⟩
      · have hke : kk = 3 := by omega
        have hnm : (([104, 97, 110, 103] : List UInt8) == s.toList) = true := by
          have := HEQ.out (by omega)
          rw [hke] at this
          rw [ByteArray.toList_eq, beq_iff_eq]
          exact this
        have HKE := hide hke
        clear hke
        go_wp2_with fail
        go_ret
        exact ⟨by rw [HKE.out]; rfl, HB2.out⟩
    · have HB2 : Hid (Below w.heap.size w (wr.alloc (.cells #[.string ⟨#[116, 105, 99, 107]⟩, .bool false, .bool false, .bool true, .bool false] 94))) := HB.out.alloc hz _
      by_cases hlt : 4 < kk
      · have hnm : (([116, 105, 99, 107] : List UInt8) == s.toList) = false := by
          have := HNE.out 4 hlt
          rw [ByteArray.toList_eq, beq_eq_false_iff_ne]
          exact this
        go_wp2_with fail
        go_roundg (8 - (4 + 1))
        case measure => omega
        case rel => exact ⟨4 + 1, by go_num, by omega, Nat.le_refl _, HB2⟩
      · have hke : kk = 4 := by omega
        have hnm : (([116, 105, 99, 107] : List UInt8) == s.toList) = true := by
          have := HEQ.out (by omega)
          rw [hke] at this
          rw [ByteArray.toList_eq, beq_iff_eq]
          exact this
        have HKE := hide hke
        clear hke
        go_wp2_with fail
        go_ret
        exact ⟨by rw [HKE.out]; rfl, HB2.out⟩
    · have HB2 : Hid (Below w.heap.size w (wr.alloc (.cells #[.string ⟨#[100, 114, 97, 105, 110]⟩, .bool false, .bool false, .bool false, .bool false] 94))) := HB.out.alloc hz _
      by_cases hlt : 5 < kk
      · have hnm : (([100, 114, 97, 105, 110] : List UInt8) == s.toList) = false := by
          have := HNE.out 5 hlt
          rw [ByteArray.toList_eq, beq_eq_false_iff_ne]
          exact this
        go_wp2_with fail
        go_roundg (8 - (5 + 1))
        case measure => omega
        case rel => exact ⟨5 + 1, by go_num, by omega, Nat.le_refl _, HB2⟩
      · have hke : kk = 5 := by omega
        have hnm : (([100, 114, 97, 105, 110] : List UInt8) == s.toList) = true := by
          have := HEQ.out (by omega)
          rw [hke] at this
          rw [ByteArray.toList_eq, beq_iff_eq]
          exact this
        have HKE := hide hke
        clear hke
        go_wp2_with fail
        go_ret
        exact ⟨by rw [HKE.out]; rfl, HB2.out⟩
    · have HB2 : Hid (Below w.heap.size w (wr.alloc (.cells #[.string ⟨#[99, 114, 97, 115, 104]⟩, .bool false, .bool false, .bool false, .bool true] 94))) := HB.out.alloc hz _
      by_cases hlt : 6 < kk
      · have hnm : (([99, 114, 97, 115, 104] : List UInt8) == s.toList) = false := by
          have := HNE.out 6 hlt
          rw [ByteArray.toList_eq, beq_eq_false_iff_ne]
          exact this
        go_wp2_with fail
        go_roundg (8 - (6 + 1))
        case measure => omega
        case rel => exact ⟨6 + 1, by go_num, by omega, Nat.le_refl _, HB2⟩
      · have hke : kk = 6 := by omega
        have hnm : (([99, 114, 97, 115, 104] : List UInt8) == s.toList) = true := by
          have := HEQ.out (by omega)
          rw [hke] at this
          rw [ByteArray.toList_eq, beq_iff_eq]
          exact this
        have HKE := hide hke
        clear hke
        go_wp2_with fail
        go_ret
        exact ⟨by rw [HKE.out]; rfl, HB2.out⟩
    · have HB2 : Hid (Below w.heap.size w (wr.alloc (.cells #[.string ⟨#[115, 116, 97, 114, 116]⟩, .bool false, .bool false, .bool true, .bool false] 94))) := HB.out.alloc hz _
      by_cases hlt : 7 < kk
      · have hnm : (([115, 116, 97, 114, 116] : List UInt8) == s.toList) = false := by
          have := HNE.out 7 hlt
          rw [ByteArray.toList_eq, beq_eq_false_iff_ne]
          exact this
        go_wp2_with fail
        go_roundg (8 - (7 + 1))
        case measure => omega
        case rel => exact ⟨7 + 1, by go_num, by omega, Nat.le_refl _, HB2⟩
      · have hke : kk = 7 := by omega
        have hnm : (([115, 116, 97, 114, 116] : List UInt8) == s.toList) = true := by
          have := HEQ.out (by omega)
          rw [hke] at this
          rw [ByteArray.toList_eq, beq_iff_eq]
          exact this
        have HKE := hide hke
        clear hke
        go_wp2_with fail
        go_ret
        exact ⟨by rw [HKE.out]; rfl, HB2.out⟩
    · have hk8 : kk = 8 := by omega
      have HKE := hide hk8
      clear hk8
      go_wp2_with fail
      go_ret
      exact ⟨by first | rfl | (rw [HKE.out]; rfl), HB.out⟩

theorem first_word (l : Tx) : ∃ kk, kk ≤ 8 ∧ (∀ j, j < kk → wordP j ≠ l) ∧ (kk < 8 → wordP kk = l) ∧ kindP l = (if kk < 8 then (kk : Int) else 0) := by
  by_cases h0 : wordP 0 = l
  · exact ⟨0, by omega, fun j hj => by omega, fun _ => h0, by rw [← h0]; rfl⟩
  by_cases h1 : wordP 1 = l
  · exact ⟨1, by omega, fun j hj => by rcases (show j = 0 by omega) with rfl <;> assumption, fun _ => h1, by rw [← h1]; rfl⟩
  by_cases h2 : wordP 2 = l
  · exact ⟨2, by omega, fun j hj => by rcases (show j = 0 ∨ j = 1 by omega) with rfl | rfl <;> assumption, fun _ => h2, by rw [← h2]; rfl⟩
  by_cases h3 : wordP 3 = l
  · exact ⟨3, by omega, fun j hj => by rcases (show j = 0 ∨ j = 1 ∨ j = 2 by omega) with rfl | rfl | rfl <;> assumption, fun _ => h3, by rw [← h3]; rfl⟩
  by_cases h4 : wordP 4 = l
  · exact ⟨4, by omega, fun j hj => by rcases (show j = 0 ∨ j = 1 ∨ j = 2 ∨ j = 3 by omega) with rfl | rfl | rfl | rfl <;> assumption, fun _ => h4, by rw [← h4]; rfl⟩
  by_cases h5 : wordP 5 = l
  · exact ⟨5, by omega, fun j hj => by rcases (show j = 0 ∨ j = 1 ∨ j = 2 ∨ j = 3 ∨ j = 4 by omega) with rfl | rfl | rfl | rfl | rfl <;> assumption, fun _ => h5, by rw [← h5]; rfl⟩
  by_cases h6 : wordP 6 = l
  · exact ⟨6, by omega, fun j hj => by rcases (show j = 0 ∨ j = 1 ∨ j = 2 ∨ j = 3 ∨ j = 4 ∨ j = 5 by omega) with rfl | rfl | rfl | rfl | rfl | rfl <;> assumption, fun _ => h6, by rw [← h6]; rfl⟩
  by_cases h7 : wordP 7 = l
  · exact ⟨7, by omega, fun j hj => by rcases (show j = 0 ∨ j = 1 ∨ j = 2 ∨ j = 3 ∨ j = 4 ∨ j = 5 ∨ j = 6 by omega) with rfl | rfl | rfl | rfl | rfl | rfl | rfl <;> assumption, fun _ => h7, by rw [← h7]; rfl⟩
  refine ⟨8, by omega, fun j hj => ?_, fun h => by omega, ?_⟩
  · rcases (show j = 0 ∨ j = 1 ∨ j = 2 ∨ j = 3 ∨ j = 4 ∨ j = 5 ∨ j = 6 ∨ j = 7 by omega) with rfl | rfl | rfl | rfl | rfl | rfl | rfl | rfl <;> assumption
  · unfold kindP
    rw [if_neg (fun e => h1 e.symm), if_neg (fun e => h2 e.symm), if_neg (fun e => h3 e.symm), if_neg (fun e => h4 e.symm), if_neg (fun e => h5 e.symm), if_neg (fun e => h6 e.symm), if_neg (fun e => h7 e.symm)]
    rfl
theorem kindOf_any (s : ByteArray) (w : World) (T : Tabs w) :
    Calls Tryd.prog 63 #[.string s] w fun e w' => e = .returned (.int .i64 (kindP s.data.toList)) ∧ Below w.heap.size w w' := by
  obtain ⟨kk, h1, h2, h3, h4⟩ := first_word s.data.toList
  rw [h4]
  exact kind_table s kk w T h1 h2 h3
end Go.Proofs.YteecmbpabkndlaaDoor
