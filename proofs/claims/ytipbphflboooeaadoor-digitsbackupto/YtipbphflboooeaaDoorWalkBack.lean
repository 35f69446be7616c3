/-
  The walk of the statement on joining and splitting.
-/
import Derived.Test.YtipbphflboooeaaDoorShown
import Derived.Test.YtipbphflboooeaaDoorPlainBack
import Derived.Test.YtipbphflboooeaaDoorJoinStrs
namespace Go.Proofs.YtipbphflboooeaaDoor.digitsBack
open Go.RowKit

/-- What stands behind the first half of the law: the line is split, and what is split is joined. -/
theorem joined_size (ss : List ByteArray) (h : ss.length + (ss.map ByteArray.size).sum ≤ 1048576) : (Lib.join (ss.map (·.data.toList)) [32]).length ≤ 1048576 := by
  have := lineTo_length ss ss.length
  rw [lineTo_all ss ss.length (Nat.le_refl _)] at this
  omega

theorem joined_fits (ss : List ByteArray) (h : ss.length + (ss.map ByteArray.size).sum ≤ 1048576) : (⟨(Lib.join (ss.map (·.data.toList)) [32]).toArray⟩ : ByteArray).size ≤ 4398046511104 := by
  have h1 := joined_size ss h
  have h2 : (⟨(Lib.join (ss.map (·.data.toList)) [32]).toArray⟩ : ByteArray).size = (Lib.join (ss.map (·.data.toList)) [32]).length := List.size_toArray
  omega

set_option maxHeartbeats 1000000 in
set_option maxRecDepth 1000000 in
theorem walk (a : Option Addr) (len cap : Nat) (ss : List ByteArray) (line : ByteArray) (w : World) (hi : IsStrs w a cap ss ∧ ss.length = len ∧ ∀ x ∈ ss, x.size ≤ maxLen) (_hs : line.size ≤ maxLen)
    (htab : Lib.TabIs Tryd.prog w "internal/strconv.uint64pow10" .u64 Lib.pow10Tab) (hb1 : ss.length + (ss.map ByteArray.size).sum ≤ 1048576) (hb2 : line.size ≤ 1048576) :
    Calls Tryd.prog 8 #[.slice a len cap, .string line] w fun e w' => e = .returned (.bool true) ∧ Below w.heap.size w w' := by
  obtain ⟨hi, rfl, hz⟩ := hi
  have HT : Hid (Lib.TabIs Tryd.prog w "internal/strconv.uint64pow10" .u64 Lib.pow10Tab) := htab
  have HI : Hid (IsStrs w a cap ss) := hi
  have HZ : Hid (∀ x ∈ ss, x.size ≤ maxLen) := hz
  have HB : Hid (ss.length + (ss.map ByteArray.size).sum ≤ 1048576) := hb1
  have hlen : ss.length ≤ 1048576 := by omega
  clear htab hi hz _hs hb1
  go_enter Tryd.func8, Tryd.ntmps8
  go_wp2_with fail
  refine (beyond_any a cap ss w HI.out HZ.out).mono ?_
  rintro e w1 ⟨rfl, hw⟩
  have hw := hw.symm
  subst hw
  rw [beyond_not ss 0 (by omega) (by have := HB.out; unfold lim; omega)]
  go_wp2_with fail
  refine (shown_any _ HT.out).mono ?_
  rintro e w1 ⟨rfl, hb1⟩
  go_wp2
  go_loopw [6, 7] (fun v i wr => ∃ k : Nat, k ≤ ss.length ∧ v = .bool (rightTo ss k) ∧ i = .int .i64 k ∧ Below w.heap.size w wr) (fun _ i _ => ss.length - (intOf i).toNat)
  case atStart => exact ⟨0, Nat.zero_le _, by rw [rightTo_zero], rfl, hb1⟩
  case round =>
    clear hb1
    obtain ⟨k, hk, rfl, rfl, hb⟩ := hrel
    by_cases hlt : k < ss.length
    · obtain ⟨x, hx⟩ : ∃ x, ss[k]? = some x := ⟨_, List.getElem?_eq_getElem hlt⟩
      have hsucc := rightTo_succ ss k x hx
      have HS : Hid (rightTo ss (k + 1) = (rightTo ss k && wordB x.data.toList)) := hsucc
      clear hsucc
      obtain ⟨b, o, rfl, hbk, hc⟩ : ∃ b o, a = some ⟨b, o, none⟩ ∧ b < w.heap.size ∧ ∀ (j : Nat) x, ss[j]? = some x → w.cell? ⟨b, o + j, none⟩ = some (.string x) := by
        rcases HI.out.2.2 with h | h
        · subst h; simp at hlt
        · exact h
      have hcx : wr.cell? ⟨b, o + k, none⟩ = some (.string x) := (hb.cell (p := ⟨b, o + k, none⟩) hbk).trans (hc k x hx)
      clear hc hx
      cases hr : rightTo ss k
      · have HS2 : Hid (rightTo ss (k + 1) = false) := by have := HS.out; rw [hr] at this; exact this
        clear HS hr
        go_wp2
        go_roundw
        case rel => exact ⟨k + 1, by omega, by rw [HS2.out], by go_num, hb⟩
        case measure => simp [intOf]; omega
      · have HS2 : Hid (rightTo ss (k + 1) = wordB x.data.toList) := by have := HS.out; rw [hr] at this; exact this
        clear HS hr
        go_wp2_with (go_at_call 14; refine (word_any _ _).mono ?_; rintro e W' ⟨rfl, p, rfl⟩)
        go_roundw
        case rel => exact ⟨k + 1, by omega, by rw [HS2.out], by go_num, hb.alloc hb.size _⟩
        case measure => simp [intOf]; omega
    · rw [rightTo_all ss k (by omega)]
      have HIr : Hid (IsStrs wr a cap ss) := HI.out.below hb
      go_wp2_with fail
      refine (join_strs a cap ss wr HIr.out (by have := HB.out; omega)).mono ?_
      rintro e w2 ⟨rfl, hb2'⟩
      have hB2 := hb.trans (hb2'.mono hb.size)
      clear hb2' hb
      cases hj : joinB (ss.map (·.data.toList))
      · clear hj
        go_wp2_with fail
        refine (split_any line _ (by omega)).mono ?_
        rintro e w5 ⟨hb5, ⟨hn, rfl⟩ | ⟨ws, g, c5, hw, rfl, hg, hown⟩⟩
        · clear hn
          go_wp2
          go_ret
          exact ⟨rfl, hB2.trans (hb5.mono hB2.size)⟩
        · obtain ⟨j1, j2⟩ := join_split _ _ hw
          have hwl := words_le ws
          rw [j2] at hwl
          have hll : line.data.toList.length = line.size := by simp
          have hI5 : IsStrs w5 (some ⟨g, 0, none⟩) c5 ws := IsStrs.own hown (by unfold maxLen; omega)
          have HI5 : Hid (IsStrs w5 (some ⟨g, 0, none⟩) c5 ws) := hI5
          have HW5 : Hid (ws.length + (ws.map ByteArray.size).sum ≤ 2147483647) := by show ws.length + (ws.map ByteArray.size).sum ≤ 2147483647; omega
          have HJ5 : Hid (joinB (ws.map (·.data.toList)) = true ∧ Lib.join (ws.map (·.data.toList)) [32] = line.data.toList) := ⟨j1, j2⟩
          have B5 := hB2.trans (hb5.mono hB2.size)
          clear hw hown hwl hll hI5 j1 j2 hb5 hg
          go_wp2_with fail
          refine (join_strs _ c5 ws w5 HI5.out HW5.out).mono ?_
          rintro e w6 ⟨rfl, hb6⟩
          rw [joinV, HJ5.out.1, if_pos rfl, HJ5.out.2]
          have hll : (line.toList == line.toList) = true := by simp
          go_wp2
          go_ret
          exact ⟨rfl, B5.trans (hb6.mono B5.size)⟩
      · have HJ : Hid (joinB (ss.map (·.data.toList)) = true) := hj
        rw [joinV, hj, if_pos rfl]
        clear hj
        have HJS : Hid ((⟨(Lib.join (ss.map (·.data.toList)) [32]).toArray⟩ : ByteArray).size ≤ 4398046511104) := joined_fits ss HB.out
        go_wp2_with fail
        refine (split_any _ _ HJS.out).mono ?_
        rintro e w3 ⟨hb3, ⟨hn, _⟩ | ⟨ws, g, c3, hw, rfl, hg, hown⟩⟩
        · rw [List.toList_toArray, split_joined _ HJ.out] at hn
          cases hn
        rw [List.toList_toArray, split_joined _ HJ.out] at hw
        obtain rfl := map_data_inj _ _ (Option.some.inj hw)
        have HI3 : Hid (IsStrs w3 (some ⟨g, 0, none⟩) c3 ss) := IsStrs.own hown (by unfold maxLen; omega)
        have B3 := hB2.trans (hb3.mono hB2.size)
        have HI4 : Hid (IsStrs w3 a cap ss) := HI.out.below B3
        clear hb3 hB2 hw hown hg
        go_wp2_with fail
        refine (same_any _ _ _ _ ss ss _ HI3.out HI4.out).mono ?_
        rintro e w4 ⟨rfl, n4, rfl⟩
        rw [decide_eq_true rfl]
        have B4 := below_drewN B3 n4
        clear B3
        go_wp2_with fail
        refine (split_any line _ (by omega)).mono ?_
        rintro e w5 ⟨hb5, ⟨hn, rfl⟩ | ⟨ws, g, c5, hw, rfl, hg, hown⟩⟩
        · clear hn
          go_wp2
          go_ret
          exact ⟨rfl, B4.trans (hb5.mono B4.size)⟩
        · obtain ⟨j1, j2⟩ := join_split _ _ hw
          have hwl := words_le ws
          rw [j2] at hwl
          have hll : line.data.toList.length = line.size := by simp
          have hI5 : IsStrs w5 (some ⟨g, 0, none⟩) c5 ws := IsStrs.own hown (by unfold maxLen; omega)
          have HI5 : Hid (IsStrs w5 (some ⟨g, 0, none⟩) c5 ws) := hI5
          have HW5 : Hid (ws.length + (ws.map ByteArray.size).sum ≤ 2147483647) := by show ws.length + (ws.map ByteArray.size).sum ≤ 2147483647; omega
          have HJ5 : Hid (joinB (ws.map (·.data.toList)) = true ∧ Lib.join (ws.map (·.data.toList)) [32] = line.data.toList) := ⟨j1, j2⟩
          have B5 := B4.trans (hb5.mono B4.size)
          clear hw hown hwl hll hI5 j1 j2 hb5 hg
          go_wp2_with fail
          refine (join_strs _ c5 ws w5 HI5.out HW5.out).mono ?_
          rintro e w6 ⟨rfl, hb6⟩
          rw [joinV, HJ5.out.1, if_pos rfl, HJ5.out.2]
          have hll : (line.toList == line.toList) = true := by simp
          go_wp2
          go_ret
          exact ⟨rfl, B5.trans (hb6.mono B5.size)⟩
end Go.Proofs.YtipbphflboooeaaDoor.digitsBack
