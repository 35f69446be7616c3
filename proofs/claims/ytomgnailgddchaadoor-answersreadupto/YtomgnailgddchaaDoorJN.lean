/-
  RefValid, RefParse, RefPrint.
-/
import Derived.Test.YtomgnailgddchaaDoorJD
import Derived.Deep.LoopGhost
import Derived.Deep.Cut
import Derived.Deep.CutRange
import Derived.Test.YtomgnailgddchaaDoorProg
import Derived.Test.YtomgnailgddchaaDoorJB
import Derived.WalkKit
import Derived.WalkSpells
import Derived.WalkLawsBesides
namespace Go.Proofs.YtomgnailgddchaaDoor
open Go.RowKit

theorem int_beq (a b : Nat) : ((a : Int) == (b : Int)) = decide (a = b) := by
  by_cases h : a = b
  · simp [h]
  · rw [decide_eq_false h]
    exact beq_eq_false_iff_ne.2 (by omega)

set_option maxHeartbeats 400000 in
set_option maxRecDepth 1000000 in
theorem refValid_any (s : ByteArray) (w : World) :
    Calls Tryd.prog 72 #[.string s] w fun e w' => e = .returned (.bool (validB s.data.toList)) ∧ w' = w := by
  by_cases h1 : s.size < 1
  · go_enter Tryd.func72, Tryd.ntmps72
    go_wp2_with fail
    go_ret
    exact ⟨by rw [valid_short s h1]; rfl, rfl⟩
  by_cases h2 : 200 < s.size
  · go_enter Tryd.func72, Tryd.ntmps72
    go_wp2_with fail
    go_ret
    exact ⟨by rw [valid_long s h2]; rfl, rfl⟩
  by_cases h3 : s[0].toNat = 45
  · go_enter Tryd.func72, Tryd.ntmps72
    go_wp2_with fail
    go_ret
    exact ⟨by rw [valid_dash s (by omega) h3]; rfl, rfl⟩
  go_enter Tryd.func72, Tryd.ntmps72
  go_wp2_with fail
  · rename_i hbad
    exact absurd hbad (no_bad (show 1 ≤ s.size by omega) h2 h3)
  rename_i hgood _ _
  have H3 : Hid (¬ s[0].toNat = 45) := h3
  clear h3 hgood
  go_loopg [4] s.size (fun gk i wr => ∃ k : Nat, i = .int .i64 k ∧ k ≤ s.size ∧ s.size - k ≤ gk ∧ wr = w ∧ Hid ((s.data.toList.take k).all okn = true))
  case atStart => exact ⟨0, rfl, Nat.zero_le _, Nat.le_refl _, rfl, rfl⟩
  case round =>
    obtain ⟨k, rfl, hk, hgk, hwr, HA⟩ := hrel
    subst hwr
    by_cases hp : k < s.size
    · go_upto_region 8 with fail
      go_cut [6] from 21 to 67 (fun b wx => b = .bool (alnum s[k]) ∧ wx = wr)
      case first =>
        go_wp2_with fail
        all_goals go_meet
        all_goals refine ⟨?_, rfl⟩
        all_goals by_cases hq : s[k].toNat ≤ 57
        all_goals first
          | (rw [alnum_in (c := s[k]) (by omega)]; done)
          | (rw [alnum_in (c := s[k]) (by omega)]; simp <;> omega)
          | (rw [alnum_out (c := s[k]) (by omega) (by omega) (by omega)]; done)
          | (rw [alnum_out (c := s[k]) (by omega) (by omega) (by omega)]; simp <;> omega)
      case rest =>
        obtain ⟨rfl, rfl⟩ := hcut
        go_wp2_with fail
        go_loopg [6, 7] 9 (fun gj b i wx => ∃ j : Nat, i = .int .i64 j ∧ j ≤ 9 ∧ 9 - j ≤ gj ∧ wx = wc ∧ b = .bool (alnum s[k] || (others.take j).contains s[k]))
        case atStart => exact ⟨0, rfl, Nat.zero_le _, Nat.le_refl _, rfl, by simp⟩
        case round =>
          obtain ⟨j, rfl, hj, hgj, hwx, rfl⟩ := hrel
          subst hwx
          by_cases hj9 : j < otherB.size
          · have HS : Hid ((others.take (j + 1)).contains s[k] = ((others.take j).contains s[k] || decide (s[k].toNat = otherB[j].toNat))) := others_step hj9
            have hj8 : (j : Int) < 9 := by have : otherB.size = 9 := rfl; omega
            have hob : ∀ x : Bool, (alnum s[k] || (others.take j).contains s[k]) = x → (alnum s[k] || (others.take (j + 1)).contains s[k]) = (x || decide (s[k].toNat = otherB[j].toNat)) := by
              rintro x rfl
              rw [HS.out, Bool.or_assoc]
            have HO : Hid (∀ x : Bool, (alnum s[k] || (others.take j).contains s[k]) = x → (alnum s[k] || (others.take (j + 1)).contains s[k]) = (x || decide (s[k].toNat = otherB[j].toNat))) := hob
            clear hob
            generalize hx : (alnum s[k] || (others.take j).contains s[k]) = x
            have HX := HO.out x hx
            clear HO hx HS
            have HX2 : Hid ((alnum s[k] || (others.take (j + 1)).contains s[k]) = (x || decide (s[k].toNat = otherB[j].toNat))) := HX
            clear HX
            cases x
            · go_wp2_with fail
              go_roundg (9 - (j + 1))
              case measure => omega
              case rel => exact ⟨j + 1, by go_num, by omega, Nat.le_refl _, rfl, by rw [HX2.out, Bool.false_or, ← int_beq]; rfl⟩
            · go_wp2_with fail
              go_roundg (9 - (j + 1))
              case measure => omega
              case rel => exact ⟨j + 1, by go_num, by omega, Nat.le_refl _, rfl, by rw [HX2.out]; rfl⟩
          · obtain rfl : j = 9 := by have : otherB.size = 9 := rfl; omega
            have hok : (alnum s[k] || (others.take 9).contains s[k]) = okn s[k] := rfl
            rw [hok]
            cases hb : okn s[k]
            · go_wp2_with fail
              go_ret
              exact ⟨by rw [valid_no s k hp hb]; rfl, rfl⟩
            · go_wp2_with fail
              go_roundg (s.size - (k + 1))
              case measure => omega
              case rel => exact ⟨k + 1, by go_num, by omega, Nat.le_refl _, rfl, valid_step s k hp HA.out hb⟩
    · go_wp2_with fail
      go_ret
      exact ⟨by rw [valid_end s k hp (by omega) (by omega) H3.out HA.out]; rfl, rfl⟩
end Go.Proofs.YtomgnailgddchaaDoor

namespace Go.Proofs.YtomgnailgddchaaDoor
open Go.RowKit

set_option maxHeartbeats 400000 in
set_option maxRecDepth 1000000 in
theorem refParse_any (s : ByteArray) (most : Int) (w : World) (hs : s.size ≤ maxLen) (hm0 : -9223372036854775808 ≤ most) (hm1 : most ≤ 9223372036854775807) :
    Calls Tryd.prog 58 #[.string s, .int .i64 most] w fun e w' => e = .returned (.tuple #[.int .i64 (parseV s.data.toList most), .bool (parseB s.data.toList most)]) ∧ w' = w := by
  unfold maxLen at hs
  by_cases hneg : s.size = 0 ∨ most < 0
  · have hv := parse_neg s most (by
      rcases hneg with h | h
      · left; have := pos_empty s; simp [h] at this; simpa using this
      · exact .inr h)
    have HV : Hid (parseV s.data.toList most = 0 ∧ parseB s.data.toList most = false) := hv
    clear hv
    by_cases h0 : s.size = 0
    · have h0' : ((s.size : Int) == 0) = true := by simp [h0]
      clear h0 hneg
      go_enter Tryd.func58, Tryd.ntmps58
      go_wp2
      go_ret2
      exact ⟨by rw [HV.out.1, HV.out.2]; rfl, rfl⟩
    · have h0' : ((s.size : Int) == 0) = false := by simp [h0]
      have h1 : most < 0 := by omega
      clear h0 hneg
      go_enter Tryd.func58, Tryd.ntmps58
      go_wp2
      go_ret2
      exact ⟨by rw [HV.out.1, HV.out.2]; rfl, rfl⟩
  · have h0' : ((s.size : Int) == 0) = false := beq_zero (by omega)
    have h1 : 0 ≤ most := by omega
    have hsz : 0 < s.size := by omega
    clear hneg
    go_enter Tryd.func58, Tryd.ntmps58
    go_wp2
    go_loop [6, 7] (fun v i => ∃ (k : Nat) (n : Int), i = .int .i64 k ∧ v = .int .i64 n ∧ 0 ≤ n ∧ n ≤ most ∧ k ≤ s.size ∧ parseFrom most (s.data.toList.drop k) n = parseFrom most s.data.toList 0) (fun _ i => s.size - (intOf i).toNat)
    case atStart => exact ⟨0, 0, rfl, rfl, by omega, by omega, Nat.zero_le _, by rw [List.drop_zero]⟩
    case round =>
      obtain ⟨k, n, rfl, rfl, hn0, hn1, hk, ha⟩ := hrel
      have HA : Hid (parseFrom most (s.data.toList.drop k) n = parseFrom most s.data.toList 0) := ha
      clear ha
      by_cases hp : k < s.size
      · go_wp2
        · go_ret2
          obtain ⟨e1, e2⟩ := parse_none s most (by rw [← HA.out]; exact parse_no s k hp most n (by omega))
          exact ⟨by rw [e1, e2]; rfl, rfl⟩
        · go_ret2
          obtain ⟨e1, e2⟩ := parse_none s most (by rw [← HA.out]; exact parse_much s k hp most n (by assumption))
          exact ⟨by rw [e1, e2]; rfl, rfl⟩
        · have hb : (s[k].toNat : Int) - 48 ≤ most ∧ n ≤ (most - ((s[k].toNat : Int) - 48)) / 10 := by assumption
          have hd : (48 : Int) ≤ (s[k].toNat : Int) ∧ (s[k].toNat : Int) ≤ 57 := by assumption
          go_round
          case rel => exact ⟨k + 1, _, by go_num, rfl, by omega, by omega, by omega, by rw [Int.mul_comm 10 n, ← parse_step s k hp most n hd.1 hd.2 hb.1 hb.2]; exact HA.out⟩
          case measure => simp [intOf]; omega
        · go_ret2
          obtain ⟨e1, e2⟩ := parse_none s most (by rw [← HA.out]; exact parse_much s k hp most n (.inl (by omega)))
          exact ⟨by rw [e1, e2]; rfl, rfl⟩
        · go_ret2
          obtain ⟨e1, e2⟩ := parse_none s most (by rw [← HA.out]; exact parse_no s k hp most n (by omega))
          exact ⟨by rw [e1, e2]; rfl, rfl⟩
      · go_wp2
        go_ret2
        obtain ⟨e1, e2⟩ := parse_some s most n (by rw [← HA.out]; exact parse_end s k hp most n) (fun he => by have := size_zero s he; omega)
        refine ⟨?_, rfl⟩
        rw [e1, e2, ← pos_empty]
        simp [hsz]
end Go.Proofs.YtomgnailgddchaaDoor

namespace Go.Proofs.YtomgnailgddchaaDoor
open Go.RowKit Go.Lib Go.Sort

/-- 'string([]byte{x})', the byte in the newest block. -/
theorem conv_one (w : World) (x : Int) : (convert 34 9 (.slice (some ⟨w.heap.size, 0, none⟩) 1 1)).run Tryd.prog (w.alloc (.cells #[.int .u8 x] 5)) = .ok (.string ⟨[UInt8.ofNat x.toNat].toArray⟩) (w.alloc (.cells #[.int .u8 x] 5)) := by
  rw [run_convert_bytes_string _ _ _ 5 _ _ _ Tryd.underlying34 Tryd.underlying5 Tryd.underlying9,
    run_bytesToString _ _ 1 1 [x] (run_loadCells_list _ _ [.int .u8 x] (cell_one_new _ _ _))]
  rfl

set_option maxHeartbeats 1000000 in
set_option maxRecDepth 1000000 in
theorem refPrint_any (n : Int) (w : World) (h0 : -9223372036854775808 ≤ n) (h1 : n ≤ 9223372036854775807) :
    Calls Tryd.prog 75 #[.int .i64 n] w fun e w' => e = .returned (.string ⟨(printL n).toArray⟩) ∧ Below w.heap.size w w' := by
  by_cases hn : n < 0
  · go_enter Tryd.func75, Tryd.ntmps75
    go_wp2
    go_ret
    exact ⟨by rw [printL, if_pos hn]; rfl, Below.refl _ _⟩
  · obtain ⟨u, rfl⟩ := Int.eq_ofNat_of_zero_le (show 0 ≤ n by omega)
    go_enter Tryd.func75, Tryd.ntmps75
    have hconv := conv_one
    go_wp2
    go_loopw [0, 3] (fun a b wr => ∃ (m : Nat) (l : List UInt8), a = .int .i64 m ∧ b = .string ⟨l.toArray⟩ ∧ m ≤ u ∧ Below w.heap.size w wr ∧ Lib.decDigits u = ahead m ++ l) (fun a _ _ => (RowKit.intOf a).toNat)
    case atStart => exact ⟨u, [UInt8.ofNat (48 + u % 10)], rfl, by simp, Nat.le_refl _, (Below.refl _ _).alloc (Nat.le_refl _) _, dec_ahead u⟩
    case round =>
      obtain ⟨m, l, rfl, rfl, hm, hb, hd⟩ := hrel
      have HD : Hid (Lib.decDigits u = ahead m ++ l) := hd
      have hl : l.length ≤ 20 := by
        have e := congrArg List.length hd
        rw [List.length_append, Lib.decDigits_length] at e
        have := Lib.nDigits_le20 u (by omega)
        omega
      clear hd
      by_cases hlt : m < 10
      · go_wp2
        go_ret
        refine ⟨?_, hb⟩
        have := HD.out
        rw [ahead, if_pos hlt, List.nil_append] at this
        rw [printL, if_neg (by omega), Lib.itoa_nonneg, this]
        rfl
      · go_wp2
        go_roundw
        case rel =>
          refine ⟨m / 10, UInt8.ofNat (48 + m / 10 % 10) :: l, by go_num, ?_, by omega, hb.alloc hb.size _, ?_⟩
          · exact congrArg Value.string (ByteArray.ext (by simp))
          · rw [HD.out, ahead, if_neg hlt, dec_ahead (m / 10)]
            simp
        case measure => simp [RowKit.intOf]; omega
end Go.Proofs.YtomgnailgddchaaDoor
