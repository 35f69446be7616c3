/-
  DataW, KindW, KeepW.
-/
import Derived.Test.YteaccpolmmkclaaDoorByM
import Derived.Test.YteaccpolmmkclaaDoorPanA
namespace Go.Proofs.YteaccpolmmkclaaDoor
open Go.RowKit

theorem prefix_yes (r : List UInt8) : Lib.hasPrefix (61 :: r) [61] = true ∧ Lib.trimPrefix (61 :: r) [61] = r := by
  simp [Lib.hasPrefix, Lib.trimPrefix]
theorem prefix_no {l : List UInt8} (h : ∀ r, l ≠ 61 :: r) : Lib.hasPrefix l [61] = false ∧ dataP l = none := by
  cases l with
  | nil => simp [Lib.hasPrefix, dataP]
  | cons c r =>
    have hc : c ≠ 61 := fun e => h r (by rw [e])
    refine ⟨by simp [Lib.hasPrefix, List.isPrefixOf]; exact fun e => hc e.symm, ?_⟩
    unfold dataP
    split
    · rename_i h2
      simp only [List.cons.injEq] at h2
      exact absurd h2.1 hc
    · rfl
theorem drop_text (t : ByteArray) (n : Nat) : (t.extract n t.size).data.toList = t.data.toList.drop n := by
  rw [extract_list, List.take_of_length_le (by rw [Lib.size_eq t]; exact Nat.le_refl _)]

set_option maxHeartbeats 2000000 in
set_option maxRecDepth 1000000 in
theorem data_any (s : ByteArray) (w : World) (T : Tabs w) (hs : s.size ≤ 1073741823) :
    Calls Tryd.prog 60 #[.string s] w (DataPost s.data.toList w) := by
  have CP := hide (Tryd.strings_CutPrefix s ⟨#[61]⟩)
  rw [show (⟨#[61]⟩ : ByteArray).data.toList = [61] from rfl] at CP
  by_cases hp : ∃ r, s.data.toList = 61 :: r
  · obtain ⟨r, hr⟩ := hp
    rw [hr, (prefix_yes r).1, (prefix_yes r).2] at CP
    have HT := hide T
    have hrl : r.length ≤ 1073741822 := by have := size_of hr; simp at this; omega
    have HD : Hid (dataP s.data.toList = dataR r.length r) := by rw [hr]; rfl
    obtain ⟨i8, hi8, hz0, hz1, hz2⟩ := info_parts info_u8
    clear T hr
    go_enter Tryd.func60, Tryd.ntmps60
    go_wp2_with (go_at_call 68
                 refine (CP.out _).mono ?_
                 rintro e w1 ⟨rfl, rfl⟩)
    go_loopg [3, 5] r.length (fun gk s3 s5 wr => ∃ (t : ByteArray) (done : List UInt8), s3 = .string t ∧ t.data.toList.length ≤ gk ∧ Hid (Below w1.heap.size w1 wr) ∧ Hid (Own wr w1.heap.size s5 done) ∧ Hid (dataP s.data.toList = (dataR t.data.toList.length t.data.toList).map (done ++ ·)) ∧ Hid (done.length + t.data.toList.length ≤ r.length))
    case atStart => exact ⟨⟨r.toArray⟩, [], rfl, by simp, Below.refl _ _, Own.nil _ _, by show dataP s.data.toList = _; rw [HD.out]; show _ = (dataR r.length r).map ([] ++ ·); cases dataR r.length r <;> rfl, by show _ ≤ _; simp⟩
    case round =>
      obtain ⟨t, done, rfl, hgk, HB, HO, HQ, HN⟩ := hrel
      by_cases ht : t.data.toList = []
      · have te : t = ⟨#[]⟩ := by
          rcases t with ⟨⟨l⟩⟩
          simp at ht
          rw [ht]
        subst te
        go_wp2_with fail
        go_ret
        refine ⟨HB.out, .inl ⟨done, _, ?_, rfl, HO.out⟩⟩
        rw [HQ.out]
        simp [dataR]
      · have CB := hide (byte_any t wr (HT.out.below HB.out) ht)
        have te : (t.toList == []) = false := by rw [ByteArray.toList_eq]; simpa using ht
        have td : t.data.isEmpty = false := by
          rcases t with ⟨⟨l⟩⟩
          simpa using ht
        have hz := HB.out.size
        have HTL : Hid (0 < t.data.toList.length) := by show 0 < _; exact List.length_pos_iff.2 ht
        cases hb : byteP t.data.toList with
        | none =>
          have HF : Hid (dataP s.data.toList = none) := by
            show dataP s.data.toList = none
            rw [HQ.out]
            obtain ⟨k, hk⟩ : ∃ k, t.data.toList.length = k + 1 := ⟨t.data.toList.length - 1, by have := HTL.out; omega⟩
            rw [hk]
            simp only [dataR, if_neg ht, hb]
            rfl
          have HBN := hide hb
          clear hb ht
          go_wp2_with (go_at_call 69
                       refine CB.out.mono ?_
                       rintro e w2 ⟨b2, h2⟩
                       rcases h2 with ⟨c, n, h3, _⟩ | ⟨_, rfl⟩
                       · exact absurd (HBN.out.symm.trans h3) (by simp)
                       unfold pan
                       have B2 := hide (HB.out.trans (b2.mono hz))
                       clear b2)
          exact ⟨rfl, B2.out, .inr ⟨HF.out, rfl⟩⟩
        | some p =>
          obtain ⟨c, n⟩ := p
          have hpn := byteP_pos hb
          have hnz : (n : Int) ≤ (t.size : Int) := by have := Lib.size_eq t; omega
          have HF : Hid (dataP s.data.toList = (dataR (t.extract n t.size).data.toList.length (t.extract n t.size).data.toList).map ((done ++ [c]) ++ ·)) := by
            show dataP s.data.toList = _
            rw [HQ.out, drop_text]
            obtain ⟨k, hk⟩ : ∃ k, t.data.toList.length = k + 1 := ⟨t.data.toList.length - 1, by have := HTL.out; omega⟩
            rw [hk]
            simp only [dataR, if_neg ht, hb]
            rw [dataR_more k (t.data.toList.drop n).length (t.data.toList.drop n) (by rw [List.length_drop]; omega) (Nat.le_refl _)]
            cases dataR (t.data.toList.drop n).length (t.data.toList.drop n) <;> simp
          have HL : Hid ((t.extract n t.size).data.toList.length = t.data.toList.length - n ∧ 0 < n ∧ n ≤ t.data.toList.length) := ⟨by rw [drop_text]; simp, hpn.1, hpn.2⟩
          have HBN := hide hb
          have hdl : done.length ≤ 1073741822 := by have := HN.out; omega
          clear hb ht hpn
          go_wp2_with (first
            | (go_at_call 69
               refine CB.out.mono ?_
               rintro e w2 ⟨b2, h2⟩
               rcases h2 with ⟨c', n', h3, rfl⟩ | ⟨h3, _⟩
               rotate_left
               · exact absurd (HBN.out.symm.trans h3) (by simp)
               obtain ⟨rfl, rfl⟩ : c' = c ∧ n' = n := by have := HBN.out.symm.trans h3; simp at this; exact ⟨this.1.symm, this.2.symm⟩
               have al : Below w2.heap.size w2 (w2.alloc (.cells #[.int .u8 (c'.toNat : Int)] 5)) := (Below.refl _ w2).alloc (Nat.le_refl _) _
               have O2 := hide ((HO.out.below b2).below al)
               have B2 := hide ((HB.out.trans (b2.mono hz)).trans (al.mono (Nat.le_trans hz b2.size)))
               have hz2 := b2.size
               clear b2 al h3)
            | (refine wpList_append8 rfl (.tmp 23) (.tmp 25) rfl w1.heap.size u5 done rfl O2.out (some ⟨w2.heap.size, 0, none⟩) 1 [c'] rfl (Own8.one w2 c') (by simp; omega) (by simp; omega) ?_
               intro v5 w5 ho5 hg5 _ _ _
               have O5 := hide ho5
               have B5 : Hid (Below w1.heap.size w1 w5) := B2.out.grown hg5 B2.out.size (fun g e => (O2.out.lt g e).1)
               clear ho5 hg5))
          go_roundg (gk - n')
          case measure => have := HL.out; omega
          case rel => exact ⟨t.extract n' t.size, done ++ [c'], rfl, by have := HL.out; omega, B5, O5, HF, by show _ ≤ _; have h1 := HN.out; have h2 := HL.out; simp only [List.length_append, List.length_cons, List.length_nil]; omega⟩
  · have hn : ∀ r, s.data.toList ≠ 61 :: r := fun r e => hp ⟨r, e⟩
    rw [(prefix_no hn).1] at CP
    have HD := hide (prefix_no hn).2
    obtain ⟨z, hz⟩ : ∃ z : ByteArray, (⟨(Lib.trimPrefix s.data.toList [61]).toArray⟩ : ByteArray) = z := ⟨_, rfl⟩
    rw [hz] at CP
    clear hp hn hz
    go_enter Tryd.func60, Tryd.ntmps60
    go_wp2_with (go_at_call 68
                 refine (CP.out _).mono ?_
                 rintro e w1 ⟨rfl, rfl⟩)
    exact ⟨rfl, Below.refl _ _, .inr ⟨HD.out, rfl⟩⟩
end Go.Proofs.YteaccpolmmkclaaDoor

namespace Go.Proofs.YteaccpolmmkclaaDoor
open Go.RowKit

def formV (k : Nat) : Array Value := match k with
  | 0 => #[.string ⟨#[]⟩, .bool false, .bool false, .bool false, .bool false]
  | 1 => #[.string ⟨#[111, 112, 101, 110]⟩, .bool true, .bool false, .bool false, .bool false]
  | 2 => #[.string ⟨#[102, 101, 101, 100]⟩, .bool true, .bool true, .bool true, .bool false]
  | 3 => #[.string ⟨#[104, 97, 110, 103]⟩, .bool true, .bool false, .bool true, .bool false]
  | 4 => #[.string ⟨#[116, 105, 99, 107]⟩, .bool false, .bool false, .bool true, .bool false]
  | 5 => #[.string ⟨#[100, 114, 97, 105, 110]⟩, .bool false, .bool false, .bool false, .bool false]
  | 6 => #[.string ⟨#[99, 114, 97, 115, 104]⟩, .bool false, .bool false, .bool false, .bool true]
  | 7 => #[.string ⟨#[115, 116, 97, 114, 116]⟩, .bool false, .bool false, .bool true, .bool false]
  | _ => #[]
theorem ixF0 (w : World) : (Instr.index 88 (.agg formsA) (.int .i64 0)).run Tryd.prog w = .ok (.agg #[.string ⟨#[]⟩, .bool false, .bool false, .bool false, .bool false]) w := by kernel_rfl
theorem ixF1 (w : World) : (Instr.index 88 (.agg formsA) (.int .i64 1)).run Tryd.prog w = .ok (.agg #[.string ⟨#[111, 112, 101, 110]⟩, .bool true, .bool false, .bool false, .bool false]) w := by kernel_rfl
theorem ixF2 (w : World) : (Instr.index 88 (.agg formsA) (.int .i64 2)).run Tryd.prog w = .ok (.agg #[.string ⟨#[102, 101, 101, 100]⟩, .bool true, .bool true, .bool true, .bool false]) w := by kernel_rfl
theorem ixF3 (w : World) : (Instr.index 88 (.agg formsA) (.int .i64 3)).run Tryd.prog w = .ok (.agg #[.string ⟨#[104, 97, 110, 103]⟩, .bool true, .bool false, .bool true, .bool false]) w := by kernel_rfl
theorem ixF4 (w : World) : (Instr.index 88 (.agg formsA) (.int .i64 4)).run Tryd.prog w = .ok (.agg #[.string ⟨#[116, 105, 99, 107]⟩, .bool false, .bool false, .bool true, .bool false]) w := by kernel_rfl
theorem ixF5 (w : World) : (Instr.index 88 (.agg formsA) (.int .i64 5)).run Tryd.prog w = .ok (.agg #[.string ⟨#[100, 114, 97, 105, 110]⟩, .bool false, .bool false, .bool false, .bool false]) w := by kernel_rfl
theorem ixF6 (w : World) : (Instr.index 88 (.agg formsA) (.int .i64 6)).run Tryd.prog w = .ok (.agg #[.string ⟨#[99, 114, 97, 115, 104]⟩, .bool false, .bool false, .bool false, .bool true]) w := by kernel_rfl
theorem ixF7 (w : World) : (Instr.index 88 (.agg formsA) (.int .i64 7)).run Tryd.prog w = .ok (.agg #[.string ⟨#[115, 116, 97, 114, 116]⟩, .bool false, .bool false, .bool true, .bool false]) w := by kernel_rfl

set_option maxHeartbeats 4000000 in
set_option maxRecDepth 1000000 in
theorem kind_table (s : ByteArray) (kk : Nat) (w : World) (T : Tabs w) (hk : kk ≤ 8) (hne : ∀ j, j < kk → wordP j ≠ s.data.toList) (heq : kk < 8 → wordP kk = s.data.toList) :
    Calls Tryd.prog 49 #[.string s] w fun e w' => e = .returned (.int .i64 (if kk < 8 then (kk : Int) else 0)) ∧ Below w.heap.size w w' := by
  obtain ⟨t0, fz0, hf⟩ := T.forms
  have HNE := hide hne
  have HEQ := hide heq
  obtain ⟨FA, hFA⟩ : ∃ FA, formsA = FA := ⟨_, rfl⟩
  have ix0 := ixF0
  rw [hFA] at ix0
  have ix1 := ixF1
  rw [hFA] at ix1
  have ix2 := ixF2
  rw [hFA] at ix2
  have ix3 := ixF3
  rw [hFA] at ix3
  have ix4 := ixF4
  rw [hFA] at ix4
  have ix5 := ixF5
  rw [hFA] at ix5
  have ix6 := ixF6
  rw [hFA] at ix6
  have ix7 := ixF7
  rw [hFA] at ix7
  have hfs : (Tryd.prog.info? 88).map (·.size) = some FA.size := by rw [← hFA]; kernel_rfl
  rw [hFA] at hf
  clear T hne heq hFA
  go_enter Tryd.func49, Tryd.ntmps49
  go_wp2_with (refine wpList_load_row rfl 88 (.global 0) rfl 0 rfl t0 FA fz0 _ hf Tryd.underlying88 rfl hfs ?_)
  go_loopg [6] 8 (fun gk i wr => ∃ k : Nat, i = .int .i64 (k : Int) ∧ k ≤ kk ∧ 8 - k ≤ gk ∧ Hid (Below w.heap.size w wr))
  case atStart => exact ⟨0, rfl, Nat.zero_le _, by omega, Below.refl _ _⟩
  case round =>
    obtain ⟨k, rfl, hkk, hgk, HB⟩ := hrel
    have hz := HB.out.size
    clear hf
    rcases (show k = 0 ∨ k = 1 ∨ k = 2 ∨ k = 3 ∨ k = 4 ∨ k = 5 ∨ k = 6 ∨ k = 7 ∨ k = 8 by omega) with rfl | rfl | rfl | rfl | rfl | rfl | rfl | rfl | rfl
    · have HB2 : Hid (Below w.heap.size w (wr.alloc (.cells #[.string ⟨#[]⟩, .bool false, .bool false, .bool false, .bool false] 87))) := HB.out.alloc hz _
      by_cases hlt : 0 < kk
      · have hnm : (([] : List UInt8) == s.toList) = false := by
          have := HNE.out 0 hlt
          rw [ByteArray.toList_eq, beq_eq_false_iff_ne]
          exact this
        go_wp2_with fail
        go_roundg (8 - (0 + 1))
        case measure => omega
        case rel => exact ⟨0 + 1, by go_num, by omega, Nat.le_refl _, HB2⟩
      · have hke : kk = 0 := by omega
        have hnm : (([] : List UInt8) == s.toList) = true := by
          have := HEQ.out (by omega)
          rw [hke] at this
          rw [ByteArray.toList_eq, beq_iff_eq]
          exact this
        have HKE := hide hke
        clear hke
        go_wp2_with fail
        go_ret
        exact ⟨by rw [HKE.out]; rfl, HB2.out⟩
    · have HB2 : Hid (Below w.heap.size w (wr.alloc (.cells #[.string ⟨#[111, 112, 101, 110]⟩, .bool true, .bool false, .bool false, .bool false] 87))) := HB.out.alloc hz _
      by_cases hlt : 1 < kk
      · have hnm : (([111, 112, 101, 110] : List UInt8) == s.toList) = false := by
          have := HNE.out 1 hlt
          rw [ByteArray.toList_eq, beq_eq_false_iff_ne]
          exact this
        go_wp2_with fail
        go_roundg (8 - (1 + 1))
        case measure => omega
        case rel => exact ⟨1 + 1, by go_num, by omega, Nat.le_refl _, HB2⟩
      · have hke : kk = 1 := by omega
        have hnm : (([111, 112, 101, 110] : List UInt8) == s.toList) = true := by
          have := HEQ.out (by omega)
          rw [hke] at this
          rw [ByteArray.toList_eq, beq_iff_eq]
          exact this
        have HKE := hide hke
        clear hke
        go_wp2_with fail
        go_ret
        exact ⟨by rw [HKE.out]; rfl, HB2.out⟩
    · have HB2 : Hid (Below w.heap.size w (wr.alloc (.cells #[.string ⟨#[102, 101, 101, 100]⟩, .bool true, .bool true, .bool true, .bool false] 87))) := HB.out.alloc hz _
      by_cases hlt : 2 < kk
      · have hnm : (([102, 101, 101, 100] : List UInt8) == s.toList) = false := by
          have := HNE.out 2 hlt
          rw [ByteArray.toList_eq, beq_eq_false_iff_ne]
          exact this
        go_wp2_with fail
        go_roundg (8 - (2 + 1))
        case measure => omega
        case rel => exact ⟨2 + 1, by go_num, by omega, Nat.le_refl _, HB2⟩
      · have hke : kk = 2 := by omega
        have hnm : (([102, 101, 101, 100] : List UInt8) == s.toList) = true := by
          have := HEQ.out (by omega)
          rw [hke] at this
          rw [ByteArray.toList_eq, beq_iff_eq]
          exact this
        have HKE := hide hke
        clear hke
        go_wp2_with fail
        go_ret
        exact ⟨by rw [HKE.out]; rfl, HB2.out⟩
    · have HB2 : Hid (Below w.heap.size w (wr.alloc (.cells #[.string ⟨#[104, 97, 110, 103]⟩, .bool true, .bool false, .bool true, .bool false] 87))) := HB.out.alloc hz _
      by_cases hlt : 3 < kk
      · have hnm : (([104, 97, 110, 103] : List UInt8) == s.toList) = false := by
          have := HNE.out 3 hlt
          rw [ByteArray.toList_eq, beq_eq_false_iff_ne]
          exact this
        go_wp2_with fail
        go_roundg (8 - (3 + 1))
        case measure => omega
        case rel => exact ⟨3 + 1, by go_num, by omega, Nat.le_refl _, HB2⟩
      · have hke : kk = 3 := by omega
        have hnm : (([104, 97, 110, 103] : List UInt8) == s.toList) = true := by
          have := HEQ.out (by omega)
          rw [hke] at this
          rw [ByteArray.toList_eq, beq_iff_eq]
          exact this
        have HKE := hide hke
        clear hke
        go_wp2_with fail
        go_ret
        exact ⟨by rw [HKE.out]; rfl, HB2.out⟩
    · have HB2 : Hid (Below w.heap.size w (wr.alloc (.cells #[.string ⟨#[116, 105, 99, 107]⟩, .bool false, .bool false, .bool true, .bool false] 87))) := HB.out.alloc hz _
      by_cases hlt : 4 < kk
      · have hnm : (([116, 105, 99, 107] : List UInt8) == s.toList) = false := by
          have := HNE.out 4 hlt
          rw [ByteArray.toList_eq, beq_eq_false_iff_ne]
          exact this
        go_wp2_with fail
        go_roundg (8 - (4 + 1))
        case measure => omega
        case rel => exact ⟨4 + 1, by go_num, by omega, Nat.le_refl _, HB2⟩
      · have hke : kk = 4 := by omega
        have hnm : (([116, 105, 99, 107] : List UInt8) == s.toList) = true := by
          have := HEQ.out (by omega)
          rw [hke] at this
          rw [ByteArray.toList_eq, beq_iff_eq]
          exact this
        have HKE := hide hke
        clear hke
        go_wp2_with fail
        go_ret
        exact ⟨by rw [HKE.out]; rfl, HB2.out⟩
    · have HB2 : Hid (Below w.heap.size w (wr.alloc (.cells #[.string ⟨#[100, 114, 97, 105, 110]⟩, .bool false, .bool false, .bool false, .bool false] 87))) := HB.out.alloc hz _
      by_cases hlt : 5 < kk
      · have hnm : (([100, 114, 97, 105, 110] : List UInt8) == s.toList) = false := by
          have := HNE.out 5 hlt
          rw [ByteArray.toList_eq, beq_eq_false_iff_ne]
          exact this
        go_wp2_with fail
        go_roundg (8 - (5 + 1))
        case measure => omega
        case rel => exact ⟨5 + 1, by go_num, by omega, Nat.le_refl _, HB2⟩
      · have hke : kk = 5 := by omega
        have hnm : (([100, 114, 97, 105, 110] : List UInt8) == s.toList) = true := by
          have := HEQ.out (by omega)
          rw [hke] at this
          rw [ByteArray.toList_eq, beq_iff_eq]
          exact this
        have HKE := hide hke
        clear hke
        go_wp2_with fail
        go_ret
        exact ⟨by rw [HKE.out]; rfl, HB2.out⟩
    · have HB2 : Hid (Below w.heap.size w (wr.alloc (.cells #[.string ⟨#[99, 114, 97, 115, 104]⟩, .bool false, .bool false, .bool false, .bool true] 87))) := HB.out.alloc hz _
      by_cases hlt : 6 < kk
      · have hnm : (([99, 114, 97, 115, 104] : List UInt8) == s.toList) = false := by
          have := HNE.out 6 hlt
          rw [ByteArray.toList_eq, beq_eq_false_iff_ne]
          exact this
        go_wp2_with fail
        go_roundg (8 - (6 + 1))
        case measure => omega
        case rel => exact ⟨6 + 1, by go_num, by omega, Nat.le_refl _, HB2⟩
      · have hke : kk = 6 := by omega
        have hnm : (([99, 114, 97, 115, 104] : List UInt8) == s.toList) = true := by
          have := HEQ.out (by omega)
          rw [hke] at this
          rw [ByteArray.toList_eq, beq_iff_eq]
          exact this
        have HKE := hide hke
        clear hke
        go_wp2_with fail
        go_ret
        exact ⟨by rw [HKE.out]; rfl, HB2.out⟩
    · have HB2 : Hid (Below w.heap.size w (wr.alloc (.cells #[.string ⟨#[115, 116, 97, 114, 116]⟩, .bool false, .bool false, .bool true, .bool false] 87))) := HB.out.alloc hz _
      by_cases hlt : 7 < kk
      · have hnm : (([115, 116, 97, 114, 116] : List UInt8) == s.toList) = false := by
          have := HNE.out 7 hlt
          rw [ByteArray.toList_eq, beq_eq_false_iff_ne]
          exact this
        go_wp2_with fail
        go_roundg (8 - (7 + 1))
        case measure => omega
        case rel => exact ⟨7 + 1, by go_num, by omega, Nat.le_refl _, HB2⟩
      · have hke : kk = 7 := by omega
        have hnm : (([115, 116, 97, 114, 116] : List UInt8) == s.toList) = true := by
          have := HEQ.out (by omega)
          rw [hke] at this
          rw [ByteArray.toList_eq, beq_iff_eq]
          exact this
        have HKE := hide hke
        clear hke
        go_wp2_with fail
        go_ret
        exact ⟨by rw [HKE.out]; rfl, HB2.out⟩
    · have hk8 : kk = 8 := by omega
      have HKE := hide hk8
      clear hk8
      go_wp2_with fail
      go_ret
      exact ⟨by first | rfl | (rw [HKE.out]; rfl), HB.out⟩

theorem first_word (l : Tx) : ∃ kk, kk ≤ 8 ∧ (∀ j, j < kk → wordP j ≠ l) ∧ (kk < 8 → wordP kk = l) ∧ kindP l = (if kk < 8 then (kk : Int) else 0) := by
  by_cases h0 : wordP 0 = l
  · exact ⟨0, by omega, fun j hj => by omega, fun _ => h0, by rw [← h0]; rfl⟩
  by_cases h1 : wordP 1 = l
  · exact ⟨1, by omega, fun j hj => by rcases (show j = 0 by omega) with rfl <;> assumption, fun _ => h1, by rw [← h1]; rfl⟩
  by_cases h2 : wordP 2 = l
  · exact ⟨2, by omega, fun j hj => by rcases (show j = 0 ∨ j = 1 by omega) with rfl | rfl <;> assumption, fun _ => h2, by rw [← h2]; rfl⟩
  by_cases h3 : wordP 3 = l
  · exact ⟨3, by omega, fun j hj => by rcases (show j = 0 ∨ j = 1 ∨ j = 2 by omega) with rfl | rfl | rfl <;> assumption, fun _ => h3, by rw [← h3]; rfl⟩
  by_cases h4 : wordP 4 = l
  · exact ⟨4, by omega, fun j hj => by rcases (show j = 0 ∨ j = 1 ∨ j = 2 ∨ j = 3 by omega) with rfl | rfl | rfl | rfl <;> assumption, fun _ => h4, by rw [← h4]; rfl⟩
  by_cases h5 : wordP 5 = l
  · exact ⟨5, by omega, fun j hj => by rcases (show j = 0 ∨ j = 1 ∨ j = 2 ∨ j = 3 ∨ j = 4 by omega) with rfl | rfl | rfl | rfl | rfl <;> assumption, fun _ => h5, by rw [← h5]; rfl⟩
  by_cases h6 : wordP 6 = l
  · exact ⟨6, by omega, fun j hj => by rcases (show j = 0 ∨ j = 1 ∨ j = 2 ∨ j = 3 ∨ j = 4 ∨ j = 5 by omega) with rfl | rfl | rfl | rfl | rfl | rfl <;> assumption, fun _ => h6, by rw [← h6]; rfl⟩
  by_cases h7 : wordP 7 = l
  · exact ⟨7, by omega, fun j hj => by rcases (show j = 0 ∨ j = 1 ∨ j = 2 ∨ j = 3 ∨ j = 4 ∨ j = 5 ∨ j = 6 by omega) with rfl | rfl | rfl | rfl | rfl | rfl | rfl <;> assumption, fun _ => h7, by rw [← h7]; rfl⟩
  refine ⟨8, by omega, fun j hj => ?_, fun h => by omega, ?_⟩
  · rcases (show j = 0 ∨ j = 1 ∨ j = 2 ∨ j = 3 ∨ j = 4 ∨ j = 5 ∨ j = 6 ∨ j = 7 by omega) with rfl | rfl | rfl | rfl | rfl | rfl | rfl | rfl <;> assumption
  · unfold kindP
    rw [if_neg (fun e => h1 e.symm), if_neg (fun e => h2 e.symm), if_neg (fun e => h3 e.symm), if_neg (fun e => h4 e.symm), if_neg (fun e => h5 e.symm), if_neg (fun e => h6 e.symm), if_neg (fun e => h7 e.symm)]
    rfl
theorem kindOf_any (s : ByteArray) (w : World) (T : Tabs w) :
    Calls Tryd.prog 49 #[.string s] w fun e w' => e = .returned (.int .i64 (kindP s.data.toList)) ∧ Below w.heap.size w w' := by
  obtain ⟨kk, h1, h2, h3, h4⟩ := first_word s.data.toList
  rw [h4]
  exact kind_table s kk w T h1 h2 h3
end Go.Proofs.YteaccpolmmkclaaDoor

namespace Go.Proofs.YteaccpolmmkclaaDoor
open Go.RowKit

def keepT : ByteArray := ⟨#[107, 101, 101, 112]⟩
def breakT : ByteArray := ⟨#[98, 114, 101, 97, 107]⟩
theorem numsP_append : ∀ (a b : List Tx), numsP (a ++ b) = (numsP a).bind fun x => (numsP b).map fun y => x ++ y
  | [], b => by
    cases h : numsP b <;> simp [numsP, h]
  | x :: a, b => by
    simp only [List.cons_append, numsP, numsP_append a b]
    split
    · cases numsP a <;> cases numsP b <;> simp
    · rfl
theorem OwnI.one (w : World) (B : Nat) (x : Int) (hB : B ≤ w.heap.size) : OwnI (w.alloc (.cells #[.int .i64 x] 3)) B (.slice (some ⟨w.heap.size, 0, none⟩) 1 1) [x] :=
  ⟨by simp, .inr ⟨w.heap.size, 1, #[.int .i64 x], rfl, hB, heap_alloc_new w _, by simp, by simp [maxLen], by simp, by simp⟩⟩
theorem OwnI.keptN {P : Nat → Prop} {w w1 : World} {B : Nat} {v : Value} {l : List Int} (h : Kept P w w1) (ho : OwnI w B v l) (hP : ∀ g, v.ownBlock = some g → ¬ P g) : OwnI w1 B v l := Kept.own h ho hP
theorem OwnI.noStr {W : World} {B : Nat} {v : Value} {l : List Int} (ho : OwnI W B v l) {g : Nat} (hg : v.ownBlock = some g) {cur : Array Value} (hs : W.heap[g]? = some (.cells cur 9 (0, 0))) : False := by
  rcases ho.2 with ⟨rfl, _⟩ | ⟨g', cap, cur', rfl, _, hc, _⟩
  · cases hg
  · simp only [Value.ownBlock, Option.some.injEq] at hg
    rw [hg, hs] at hc
    simp at hc
/-- A row of numbers is not the words' box. -/
theorem WordsAt.ne {W : World} {wb B : Nat} {ss : List ByteArray} {v : Value} {l : List Int} (h : WordsAt W wb ss) (ho : OwnI W B v l) : ∀ g, v.ownBlock = some g → ¬ g = wb := by
  intro g hg e
  obtain ⟨a, c, h1, _⟩ := h
  rcases ho.2 with ⟨rfl, _⟩ | ⟨g', cap, cur, rfl, _, hc, _⟩
  · cases hg
  · cases hg
    have e2 : g' = wb := e
    rw [e2, h1] at hc
    simp only [Option.some.injEq, Obj.cells.injEq] at hc
    have := hc.2.1
    simp at this

set_option maxHeartbeats 1000000 in
set_option maxRecDepth 1000000 in
theorem keep_none (W : World) (wb : Nat) (ss : List ByteArray) (h : WordsAt W wb ss) (hn : hasP keepW (tl ss) = false) :
    Calls Tryd.prog 63 #[.pointer (some ⟨wb, 0, none⟩)] W fun e w' => e = .returned (.slice none 0 0) ∧ w' = W := by
  have CH := hide (has_no W wb keepT ss h (fun x r e hx => by subst e; simp [hasP, hx, keepW, keepT] at hn))
  unfold keepT at CH
  clear h hn
  go_enter Tryd.func63, Tryd.ntmps63
  go_wp2_with (go_at_call 62
               refine CH.out.mono ?_
               rintro e w1 ⟨rfl, rfl⟩)
  go_ret
  exact ⟨rfl, rfl⟩
/-- What a keep with its word answers. -/
def KeepPost (W : World) (wb : Nat) (r : List ByteArray) (e : Ending) (w' : World) : Prop :=
  Kept (fun j => j = wb) W w' ∧ ((∃ l v, l ≠ [] ∧ numsP (tl r) = some l ∧ e = .returned v ∧ OwnI w' W.heap.size v l ∧ WordsAt w' wb []) ∨ ((∀ l, numsP (tl r) = some l → l = []) ∧ e = pan 192))

set_option maxHeartbeats 2000000 in
set_option maxRecDepth 1000000 in
theorem keep_any (W : World) (wb : Nat) (k : ByteArray) (r : List ByteArray) (hk : k = keepT) (h : WordsAt W wb (k :: r)) (hl : r.length ≤ 1048576) :
    Calls Tryd.prog 63 #[.pointer (some ⟨wb, 0, none⟩)] W (KeepPost W wb r) := by
  subst hk
  have CH := hide (has_yes W wb keepT r h)
  have hlw := h.lt
  unfold keepT at CH
  clear h
  cases r with
  | nil =>
    go_enter Tryd.func63, Tryd.ntmps63
    go_wp2_with (first
      | (go_at_call 62
         refine CH.out.mono ?_
         rintro e w1 ⟨rfl, h1, k1⟩
         have CN := hide (number_none w1 wb h1)
         unfold pan at CN
         have K1 := hide k1
         clear h1 k1)
      | (go_at_call 51
         refine CN.out.mono ?_
         rintro e w2 ⟨rfl, rfl⟩))
    exact ⟨rfl, K1.out, .inr ⟨fun l hl => by simp [numsP] at hl; exact hl, rfl⟩⟩
  | cons x r =>
    cases hpx : parseB x.data.toList maxWord
    · have HP : Hid (numsP (tl (x :: r)) = none) := by simp [Hid, numsP, hpx]
      go_enter Tryd.func63, Tryd.ntmps63
      go_wp2_with (first
        | (go_at_call 62
           refine CH.out.mono ?_
           rintro e w1 ⟨rfl, h1, k1⟩
           have CN := hide (number_any w1 wb x r h1)
           rw [hpx] at CN
           unfold pan at CN
           simp only [Bool.false_eq_true, if_false] at CN
           have K1 := hide k1
           clear h1 k1)
        | (go_at_call 51
           refine CN.out.mono ?_
           rintro e w2 ⟨rfl, h2, k2⟩
           have K2 := hide (K1.out.trans k2)
           clear h2 k2))
      exact ⟨rfl, K2.out, .inr ⟨fun l hl => absurd (HP.out.symm.trans hl) (by simp), rfl⟩⟩
    · obtain ⟨n0, hn0⟩ : ∃ n0, parseV x.data.toList maxWord = n0 := ⟨_, rfl⟩
      have HX : Hid (parseB x.data.toList maxWord = true ∧ parseV x.data.toList maxWord = n0) := ⟨hpx, hn0⟩
      go_enter Tryd.func63, Tryd.ntmps63
      go_wp2_with (first
        | (go_at_call 62
           refine CH.out.mono ?_
           rintro e w1 ⟨rfl, h1, k1⟩
           have CN := hide (number_any w1 wb x r h1)
           rw [hpx, hn0] at CN
           simp only [if_true] at CN
           have K1 := hide k1
           clear h1 k1)
        | (go_at_call 51
           refine CN.out.mono ?_
           rintro e w2 ⟨rfl, h2, k2⟩
           have K2 := hide (K1.out.trans k2)
           have H2 := hide h2
           clear h2 k2))
      have hz := K2.out.size
      have al : Below w2.heap.size w2 (w2.alloc (.cells #[.int .i64 n0] 3)) := (Below.refl _ w2).alloc (Nat.le_refl _) _
      have O3 : Hid (OwnI (w2.alloc (.cells #[.int .i64 n0] 3)) W.heap.size (.slice (some ⟨w2.heap.size, 0, none⟩) 1 1) [n0]) := OwnI.one w2 W.heap.size n0 hz
      have H3 := hide (H2.out.later al)
      have K3 : Hid (Kept (fun j => j = wb) W (w2.alloc (.cells #[.int .i64 n0] 3))) := K2.out.trans (Kept.ofBelow al)
      clear al hpx hn0
      go_loopg [3] r.length (fun gk s3 wr => ∃ (done rest : List ByteArray) (l : List Int), r = done ++ rest ∧ rest.length ≤ gk ∧ Hid (numsP (tl (x :: done)) = some l ∧ l ≠ [] ∧ l.length = done.length + 1) ∧ Hid (OwnI wr W.heap.size s3 l) ∧ Hid (WordsAt wr wb rest) ∧ Hid (Kept (fun j => j = wb) W wr))
      case atStart => exact ⟨[], r, [n0], rfl, Nat.le_refl _, ⟨by simp [numsP, HX.out.1, HX.out.2], by simp, rfl⟩, O3, H3, K3⟩
      case round =>
        obtain ⟨done, rest, l, hr, hgk, HL, HO, HW, HK⟩ := hrel
        have HR := hide hr
        have hrl : r.length = done.length + rest.length := by rw [hr]; simp
        have hll : l.length ≤ 1048577 := by have := HL.out.2.2; simp at hl; omega
        obtain ⟨a1, d1, b0, f0, i0⟩ := HW.out.box
        have hz3 := HK.out.size
        clear hr hrl
        cases rest with
        | nil =>
          go_wp2_with fail
          go_ret
          have hd : r = done := by have := HR.out; simpa using this
          exact ⟨HK.out, .inl ⟨l, _, HL.out.2.1, by rw [hd]; exact HL.out.1, rfl, HO.out, HW.out⟩⟩
        | cons y rest =>
          simp only [List.length_cons] at b0 hgk
          have hpos : (0 : Int) < (rest.length : Int) + 1 := by omega
          cases hpy : parseB y.data.toList maxWord
          · have CN := hide (number_any wr wb y rest HW.out)
            rw [hpy] at CN
            unfold pan at CN
            simp only [Bool.false_eq_true, if_false] at CN
            have HP : Hid (numsP (tl (x :: r)) = none) := by
              show numsP (tl (x :: r)) = none
              rw [HR.out]
              have e : tl (x :: (done ++ y :: rest)) = tl (x :: done) ++ tl (y :: rest) := by simp [tl]
              rw [e, numsP_append, HL.out.1]
              simp [numsP, hpy]
            clear hpy
            go_wp2_with (go_at_call 51
                         refine CN.out.mono ?_
                         rintro e w4 ⟨rfl, h4, k4⟩
                         have K4 := hide (HK.out.trans k4)
                         clear h4 k4)
            exact ⟨rfl, K4.out, .inr ⟨fun l hl => absurd (HP.out.symm.trans hl) (by simp), rfl⟩⟩
          · obtain ⟨n1, hn1⟩ : ∃ n1, parseV y.data.toList maxWord = n1 := ⟨_, rfl⟩
            have CN := hide (number_any wr wb y rest HW.out)
            rw [hpy, hn1] at CN
            simp only [if_true] at CN
            have HP : Hid (numsP (tl (x :: (done ++ [y]))) = some (l ++ [n1])) := by
              show numsP (tl (x :: (done ++ [y]))) = some (l ++ [n1])
              have e : tl (x :: (done ++ [y])) = tl (x :: done) ++ tl [y] := by simp [tl]
              rw [e, numsP_append, HL.out.1]
              simp [numsP, hpy, hn1]
            clear hpy hn1
            go_wp2_with (first
              | (go_at_call 51
                 refine CN.out.mono ?_
                 rintro e w4 ⟨rfl, h4, k4⟩
                 have al : Below w4.heap.size w4 (w4.alloc (.cells #[.int .i64 n1] 3)) := (Below.refl _ w4).alloc (Nat.le_refl _) _
                 have O4 : Hid (OwnI (w4.alloc (.cells #[.int .i64 n1] 3)) W.heap.size u3 l) := (HO.out.keptN k4 (HW.out.ne HO.out)).below al
                 have H4 := hide (h4.later al)
                 have K4 : Hid (Kept (fun j => j = wb) W (w4.alloc (.cells #[.int .i64 n1] 3))) := (HK.out.trans k4).trans (Kept.ofBelow al)
                 have hz4 := k4.size
                 clear h4 k4 al)
              | (refine wpList_appendS rfl (.tmp 15) (.tmp 18) rfl W.heap.size u3 l rfl O4.out (some ⟨w4.heap.size, 0, none⟩) 1 [n1] rfl (IsInts.ofNew w4 n1) (by simp; omega) (by simp; omega) ?_
                 intro v5 w5 ho5 hg5 _ _ _
                 have k5 : Kept (fun j => some j = u3.ownBlock) (w4.alloc (.cells #[.int .i64 n1] 3)) w5 := Kept.ofGrown hg5 (fun g e => e.symm)
                 have W5 : Hid (WordsAt w5 wb rest) := H4.out.kept2 k5 (fun e => H4.out.ne O4.out wb e.symm rfl) (fun b cur he e => O4.out.noStr e.symm he)
                 have K5 : Hid (Kept (fun j => j = wb) W w5) := K4.out.step k5 (fun j hj e => by have := (O4.out.lt j e.symm).1; omega)
                 have O5 := hide ho5
                 clear ho5 hg5 k5))
            go_roundg (gk - 1)
            case measure => omega
            case rel => exact ⟨done ++ [y], rest, l ++ [n1], by rw [HR.out]; simp, by omega, ⟨HP.out, by simp, by simp [HL.out.2.2]⟩, O5, W5, K5⟩
end Go.Proofs.YteaccpolmmkclaaDoor
