/-
  The walk of the document's Valid.
-/
import Derived.Test.YthjaehibndmehaaValid
import Derived.Deep.LoopGhost
import Derived.Deep.Cut
import Derived.Deep.CutRange
namespace Go.Proofs.Ythjaehibndmehaa
open Go.RowKit

theorem int_beq (a b : Nat) : ((a : Int) == (b : Int)) = decide (a = b) := by
  by_cases h : a = b
  · simp [h]
  · rw [decide_eq_false h]
    exact beq_eq_false_iff_ne.2 (by omega)

set_option maxHeartbeats 400000 in
set_option maxRecDepth 1000000 in
theorem refValid_any (s : ByteArray) (w : World) :
    Calls Try.prog 10 #[.string s] w fun e w' => e = .returned (.bool (validB s.data.toList)) ∧ w' = w := by
  by_cases h1 : s.size < 1
  · go_enter Try.func10, Try.ntmps10
    go_wp2_with fail
    go_ret
    exact ⟨by rw [valid_short s h1]; rfl, rfl⟩
  by_cases h2 : 200 < s.size
  · go_enter Try.func10, Try.ntmps10
    go_wp2_with fail
    go_ret
    exact ⟨by rw [valid_long s h2]; rfl, rfl⟩
  by_cases h3 : s[0].toNat = 45
  · go_enter Try.func10, Try.ntmps10
    go_wp2_with fail
    go_ret
    exact ⟨by rw [valid_dash s (by omega) h3]; rfl, rfl⟩
  go_enter Try.func10, Try.ntmps10
  go_wp2_with fail
  · rename_i hbad
    exact absurd hbad (no_bad (show 1 ≤ s.size by omega) h2 h3)
  rename_i hgood _ _
  have H3 : Hid (¬ s[0].toNat = 45) := h3
  clear h3 hgood
  go_loopg [4] s.size (fun gk i wr => ∃ k : Nat, i = .int .i64 k ∧ k ≤ s.size ∧ s.size - k ≤ gk ∧ wr = w ∧ Hid ((s.data.toList.take k).all okn = true))
  case atStart => exact ⟨0, rfl, Nat.zero_le _, Nat.le_refl _, rfl, rfl⟩
  case round =>
    obtain ⟨k, rfl, hk, hgk, hwr, HA⟩ := hrel
    subst hwr
    by_cases hp : k < s.size
    · go_upto_region 8 with fail
      go_cut [6] from 21 to 67 (fun b wx => b = .bool (alnum s[k]) ∧ wx = wr)
      case first =>
        go_wp2_with fail
        all_goals go_meet
        all_goals refine ⟨?_, rfl⟩
        all_goals by_cases hq : s[k].toNat ≤ 57
        all_goals first
          | (rw [alnum_in (c := s[k]) (by omega)]; done)
          | (rw [alnum_in (c := s[k]) (by omega)]; simp <;> omega)
          | (rw [alnum_out (c := s[k]) (by omega) (by omega) (by omega)]; done)
          | (rw [alnum_out (c := s[k]) (by omega) (by omega) (by omega)]; simp <;> omega)
      case rest =>
        obtain ⟨rfl, rfl⟩ := hcut
        go_wp2_with fail
        go_loopg [6, 7] 9 (fun gj b i wx => ∃ j : Nat, i = .int .i64 j ∧ j ≤ 9 ∧ 9 - j ≤ gj ∧ wx = wc ∧ b = .bool (alnum s[k] || (others.take j).contains s[k]))
        case atStart => exact ⟨0, rfl, Nat.zero_le _, Nat.le_refl _, rfl, by simp⟩
        case round =>
          obtain ⟨j, rfl, hj, hgj, hwx, rfl⟩ := hrel
          subst hwx
          by_cases hj9 : j < otherB.size
          · have HS : Hid ((others.take (j + 1)).contains s[k] = ((others.take j).contains s[k] || decide (s[k].toNat = otherB[j].toNat))) := others_step hj9
            have hj8 : (j : Int) < 9 := by have : otherB.size = 9 := rfl; omega
            have hob : ∀ x : Bool, (alnum s[k] || (others.take j).contains s[k]) = x → (alnum s[k] || (others.take (j + 1)).contains s[k]) = (x || decide (s[k].toNat = otherB[j].toNat)) := by
              rintro x rfl
              rw [HS.out, Bool.or_assoc]
            have HO : Hid (∀ x : Bool, (alnum s[k] || (others.take j).contains s[k]) = x → (alnum s[k] || (others.take (j + 1)).contains s[k]) = (x || decide (s[k].toNat = otherB[j].toNat))) := hob
            clear hob
            generalize hx : (alnum s[k] || (others.take j).contains s[k]) = x
            have HX := HO.out x hx
            clear HO hx HS
            have HX2 : Hid ((alnum s[k] || (others.take (j + 1)).contains s[k]) = (x || decide (s[k].toNat = otherB[j].toNat))) := HX
            clear HX
            cases x
            · go_wp2_with fail
              go_roundg (9 - (j + 1))
              case measure => omega
              case rel => exact ⟨j + 1, by go_num, by omega, Nat.le_refl _, rfl, by rw [HX2.out, Bool.false_or, ← int_beq]; rfl⟩
            · go_wp2_with fail
              go_roundg (9 - (j + 1))
              case measure => omega
              case rel => exact ⟨j + 1, by go_num, by omega, Nat.le_refl _, rfl, by rw [HX2.out]; rfl⟩
          · obtain rfl : j = 9 := by have : otherB.size = 9 := rfl; omega
            have hok : (alnum s[k] || (others.take 9).contains s[k]) = okn s[k] := rfl
            rw [hok]
            cases hb : okn s[k]
            · go_wp2_with fail
              go_ret
              exact ⟨by rw [valid_no s k hp hb]; rfl, rfl⟩
            · go_wp2_with fail
              go_roundg (s.size - (k + 1))
              case measure => omega
              case rel => exact ⟨k + 1, by go_num, by omega, Nat.le_refl _, rfl, valid_step s k hp HA.out hb⟩
    · go_wp2_with fail
      go_ret
      exact ⟨by rw [valid_end s k hp (by omega) (by omega) H3.out HA.out]; rfl, rfl⟩
end Go.Proofs.Ythjaehibndmehaa
