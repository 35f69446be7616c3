/-
  The walk of the document's Parse.
-/
import Derived.Test.YthapbnlcodkalaaDoorProg
import Derived.Test.YthapbnlcodkalaaDoorPlainParse
import Derived.WalkKit
import Derived.WalkSpells
import Derived.WalkLawsBesides
namespace Go.Proofs.YthapbnlcodkalaaDoor
open Go.RowKit

set_option maxHeartbeats 400000 in
set_option maxRecDepth 1000000 in
theorem refParse_any (s : ByteArray) (most : Int) (w : World) (hs : s.size ≤ maxLen) (hm0 : -9223372036854775808 ≤ most) (hm1 : most ≤ 9223372036854775807) :
    Calls Tryd.prog 37 #[.string s, .int .i64 most] w fun e w' => e = .returned (.tuple #[.int .i64 (parseV s.data.toList most), .bool (parseB s.data.toList most)]) ∧ w' = w := by
  unfold maxLen at hs
  by_cases hneg : s.size = 0 ∨ most < 0
  · have hv := parse_neg s most (by
      rcases hneg with h | h
      · left; have := pos_empty s; simp [h] at this; simpa using this
      · exact .inr h)
    have HV : Hid (parseV s.data.toList most = 0 ∧ parseB s.data.toList most = false) := hv
    clear hv
    by_cases h0 : s.size = 0
    · have h0' : ((s.size : Int) == 0) = true := by simp [h0]
      clear h0 hneg
      go_enter Tryd.func37, Tryd.ntmps37
      go_wp2
      go_ret2
      exact ⟨by rw [HV.out.1, HV.out.2]; rfl, rfl⟩
    · have h0' : ((s.size : Int) == 0) = false := by simp [h0]
      have h1 : most < 0 := by omega
      clear h0 hneg
      go_enter Tryd.func37, Tryd.ntmps37
      go_wp2
      go_ret2
      exact ⟨by rw [HV.out.1, HV.out.2]; rfl, rfl⟩
  · have h0' : ((s.size : Int) == 0) = false := beq_zero (by omega)
    have h1 : 0 ≤ most := by omega
    have hsz : 0 < s.size := by omega
    clear hneg
    go_enter Tryd.func37, Tryd.ntmps37
    go_wp2
    go_loop [6, 7] (fun v i => ∃ (k : Nat) (n : Int), i = .int .i64 k ∧ v = .int .i64 n ∧ 0 ≤ n ∧ n ≤ most ∧ k ≤ s.size ∧ parseFrom most (s.data.toList.drop k) n = parseFrom most s.data.toList 0) (fun _ i => s.size - (intOf i).toNat)
    case atStart => exact ⟨0, 0, rfl, rfl, by omega, by omega, Nat.zero_le _, by rw [List.drop_zero]⟩
    case round =>
      obtain ⟨k, n, rfl, rfl, hn0, hn1, hk, ha⟩ := hrel
      have HA : Hid (parseFrom most (s.data.toList.drop k) n = parseFrom most s.data.toList 0) := ha
      clear ha
      by_cases hp : k < s.size
      · go_wp2
        · go_ret2
          obtain ⟨e1, e2⟩ := parse_none s most (by rw [← HA.out]; exact parse_no s k hp most n (by omega))
          exact ⟨by rw [e1, e2]; rfl, rfl⟩
        · go_ret2
          obtain ⟨e1, e2⟩ := parse_none s most (by rw [← HA.out]; exact parse_much s k hp most n (by assumption))
          exact ⟨by rw [e1, e2]; rfl, rfl⟩
        · have hb : (s[k].toNat : Int) - 48 ≤ most ∧ n ≤ (most - ((s[k].toNat : Int) - 48)) / 10 := by assumption
          have hd : (48 : Int) ≤ (s[k].toNat : Int) ∧ (s[k].toNat : Int) ≤ 57 := by assumption
          go_round
          case rel => exact ⟨k + 1, _, by go_num, rfl, by omega, by omega, by omega, by rw [Int.mul_comm 10 n, ← parse_step s k hp most n hd.1 hd.2 hb.1 hb.2]; exact HA.out⟩
          case measure => simp [intOf]; omega
        · go_ret2
          obtain ⟨e1, e2⟩ := parse_none s most (by rw [← HA.out]; exact parse_much s k hp most n (.inl (by omega)))
          exact ⟨by rw [e1, e2]; rfl, rfl⟩
        · go_ret2
          obtain ⟨e1, e2⟩ := parse_none s most (by rw [← HA.out]; exact parse_no s k hp most n (by omega))
          exact ⟨by rw [e1, e2]; rfl, rfl⟩
      · go_wp2
        go_ret2
        obtain ⟨e1, e2⟩ := parse_some s most n (by rw [← HA.out]; exact parse_end s k hp most n) (fun he => by have := size_zero s he; omega)
        refine ⟨?_, rfl⟩
        rw [e1, e2, ← pos_empty]
        simp [hsz]
end Go.Proofs.YthapbnlcodkalaaDoor
