/-
  The walk of readData.
-/
import Derived.Test.YteecmbpabkndlaaDoorByM
namespace Go.Proofs.YteecmbpabkndlaaDoor
open Go.RowKit

theorem prefix_yes (r : List UInt8) : Lib.hasPrefix (61 :: r) [61] = true ∧ Lib.trimPrefix (61 :: r) [61] = r := by
  simp [Lib.hasPrefix, Lib.trimPrefix]
theorem prefix_no {l : List UInt8} (h : ∀ r, l ≠ 61 :: r) : Lib.hasPrefix l [61] = false ∧ dataP l = none := by
  cases l with
  | nil => simp [Lib.hasPrefix, dataP]
  | cons c r =>
    have hc : c ≠ 61 := fun e => h r (by rw [e])
    refine ⟨by simp [Lib.hasPrefix, List.isPrefixOf]; exact fun e => hc e.symm, ?_⟩
    unfold dataP
    split
    · rename_i h2
      simp only [List.cons.injEq] at h2
      exact absurd h2.1 hc
    · rfl
theorem drop_text (t : ByteArray) (n : Nat) : (t.extract n t.size).data.toList = t.data.toList.drop n := by
  rw [extract_list, List.take_of_length_le (by rw [Lib.size_eq t]; exact Nat.le_refl _)]

set_option maxHeartbeats 2000000 in
set_option maxRecDepth 1000000 in
theorem data_any (s : ByteArray) (w : World) (T : Tabs w) (hs : s.size ≤ 1073741823) :
    Calls Tryd.prog 73 #[.string s] w (DataPost s.data.toList w) := by
  have CP := hide (Tryd.strings_CutPrefix s ⟨#[61]⟩)
  rw [show (⟨#[61]⟩ : ByteArray).data.toList = [61] from rfl] at CP
  by_cases hp : ∃ r, s.data.toList = 61 :: r
  · obtain ⟨r, hr⟩ := hp
    rw [hr, (prefix_yes r).1, (prefix_yes r).2] at CP
    have HT := hide T
    have hrl : r.length ≤ 1073741822 := by have := size_of hr; simp at this; omega
    have HD : Hid (dataP s.data.toList = dataR r.length r) := by rw [hr]; rfl
    obtain ⟨i8, hi8, hz0, hz1, hz2⟩ := info_parts info_u8
    clear T hr
    go_enter Tryd.func73, Tryd.ntmps73
    go_wp2_with (go_at_call 81
                 refine (CP.out _).mono ?_
                 rintro e w1 ⟨rfl, rfl⟩)
    go_loopg [3, 5] r.length (fun gk s3 s5 wr => ∃ (t : ByteArray) (done : List UInt8), s3 = .string t ∧ t.data.toList.length ≤ gk ∧ Hid (Below w1.heap.size w1 wr) ∧ Hid (Own wr w1.heap.size s5 done) ∧ Hid (dataP s.data.toList = (dataR t.data.toList.length t.data.toList).map (done ++ ·)) ∧ Hid (done.length + t.data.toList.length ≤ r.length))
    case atStart => exact ⟨⟨r.toArray⟩, [], rfl, by simp, Below.refl _ _, Own.nil _ _, by show dataP s.data.toList = _; rw [HD.out]; show _ = (dataR r.length r).map ([] ++ ·); cases dataR r.length r <;> rfl, by show _ ≤ _; simp⟩
    case round =>
      obtain ⟨t, done, rfl, hgk, HB, HO, HQ, HN⟩ := hrel
      by_cases ht : t.data.toList = []
      · have te : t = ⟨#[]⟩ := by
          rcases t with ⟨⟨l⟩⟩
          simp at ht
          rw [ht]
        subst te
        go_wp2_with fail
        go_ret
        refine ⟨HB.out, .inl ⟨done, _, ?_, rfl, HO.out⟩⟩
        rw [HQ.out]
        simp [dataR]
      · have CB := hide (byte_any t wr (HT.out.below HB.out) ht)
        have te : (t.toList == []) = false := by rw [ByteArray.toList_eq]; simpa using ht
        have td : t.data.isEmpty = false := by
          rcases t with ⟨⟨l⟩⟩
          simpa using ht
        have hz := HB.out.size
        have HTL : Hid (0 < t.data.toList.length) := by show 0 < _; exact List.length_pos_iff.2 ht
        cases hb : byteP t.data.toList with
        | none =>
          have HF : Hid (dataP s.data.toList = none) := by
            show dataP s.data.toList = none
            rw [HQ.out]
            obtain ⟨k, hk⟩ : ∃ k, t.data.toList.length = k + 1 := ⟨t.data.toList.length - 1, by have := HTL.out; omega⟩
            rw [hk]
            simp only [dataR, if_neg ht, hb]
            rfl
          have HBN := hide hb
          clear hb ht
          go_wp2_with (go_at_call 82
                       refine CB.out.mono ?_
                       rintro e w2 ⟨b2, h2⟩
                       rcases h2 with ⟨c, n, h3, _⟩ | ⟨_, rfl⟩
                       · exact absurd (HBN.out.symm.trans h3) (by simp)
                       unfold pan
                       have B2 := hide (HB.out.trans (b2.mono hz))
                       clear b2)
          exact ⟨rfl, B2.out, .inr ⟨HF.out, rfl⟩⟩
        | some p =>
          obtain ⟨c, n⟩ := p
          have hpn := byteP_pos hb
          have hnz : (n : Int) ≤ (t.size : Int) := by have := Lib.size_eq t; omega
          have HF : Hid (dataP s.data.toList = (dataR (t.extract n t.size).data.toList.length (t.extract n t.size).data.toList).map ((done ++ [c]) ++ ·)) := by
            show dataP s.data.toList = _
            rw [HQ.out, drop_text]
            obtain ⟨k, hk⟩ : ∃ k, t.data.toList.length = k + 1 := ⟨t.data.toList.length - 1, by have := HTL.out; omega⟩
            rw [hk]
            simp only [dataR, if_neg ht, hb]
            rw [dataR_more k (t.data.toList.drop n).length (t.data.toList.drop n) (by rw [List.length_drop]; omega) (Nat.le_refl _)]
            cases dataR (t.data.toList.drop n).length (t.data.toList.drop n) <;> simp
          have HL : Hid ((t.extract n t.size).data.toList.length = t.data.toList.length - n ∧ 0 < n ∧ n ≤ t.data.toList.length) := ⟨by rw [drop_text]; simp, hpn.1, hpn.2⟩
          have HBN := hide hb
          have hdl : done.length ≤ 1073741822 := by have := HN.out; omega
          clear hb ht hpn
          go_wp2_with (first
            | (go_at_call 82
               refine CB.out.mono ?_
               rintro e w2 ⟨b2, h2⟩
               rcases h2 with ⟨c', n', h3, rfl⟩ | ⟨h3, _⟩
               rotate_left
               · exact absurd (HBN.out.symm.trans h3) (by simp)
               obtain ⟨rfl, rfl⟩ : c' = c ∧ n' = n := by have := HBN.out.symm.trans h3; simp at this; exact ⟨this.1.symm, this.2.symm⟩
               have al : Below w2.heap.size w2 (w2.alloc (.cells #[.int .u8 (c'.toNat : Int)] 5)) := (Below.refl _ w2).alloc (Nat.le_refl _) _
               have O2 := hide ((HO.out.below b2).below al)
               have B2 := hide ((HB.out.trans (b2.mono hz)).trans (al.mono (Nat.le_trans hz b2.size)))
               have hz2 := b2.size
               clear b2 al h3)
            | (refine wpList_append8 rfl (.tmp 23) (.tmp 25) rfl w1.heap.size u5 done rfl O2.out (some ⟨w2.heap.size, 0, none⟩) 1 [c'] rfl (Own8.one w2 c') (by simp; omega) (by simp; omega) ?_
               intro v5 w5 ho5 hg5 _ _ _
               have O5 := hide ho5
               have B5 : Hid (Below w1.heap.size w1 w5) := B2.out.grown hg5 B2.out.size (fun g e => (O2.out.lt g e).1)
               clear ho5 hg5))
          go_roundg (gk - n')
          case measure => have := HL.out; omega
          case rel => exact ⟨t.extract n' t.size, done ++ [c'], rfl, by have := HL.out; omega, B5, O5, HF, by show _ ≤ _; have h1 := HN.out; have h2 := HL.out; simp only [List.length_append, List.length_cons, List.length_nil]; omega⟩
  · have hn : ∀ r, s.data.toList ≠ 61 :: r := fun r e => hp ⟨r, e⟩
    rw [(prefix_no hn).1] at CP
    have HD := hide (prefix_no hn).2
    obtain ⟨z, hz⟩ : ∃ z : ByteArray, (⟨(Lib.trimPrefix s.data.toList [61]).toArray⟩ : ByteArray) = z := ⟨_, rfl⟩
    rw [hz] at CP
    clear hp hn hz
    go_enter Tryd.func73, Tryd.ntmps73
    go_wp2_with (go_at_call 81
                 refine (CP.out _).mono ?_
                 rintro e w1 ⟨rfl, rfl⟩)
    exact ⟨rfl, Below.refl _ _, .inr ⟨HD.out, rfl⟩⟩
end Go.Proofs.YteecmbpabkndlaaDoor
