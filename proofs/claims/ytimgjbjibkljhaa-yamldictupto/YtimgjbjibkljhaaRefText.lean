/-
  The document's plain texts and keys; List.
-/
import Derived.Test.YtimgjbjibkljhaaListW
import Derived.Test.YtimgjbjibkljhaaReadL
namespace Go.Proofs.Ytimgjbjibkljhaa
open Go.RowKit

theorem textB_eq (s : ByteArray) (h : s.data.toList.all inT = true) : textB s.data.toList = (decide ((1 : Int) ≤ (s.size : Int)) && decide ((s.size : Int) ≤ 4096)) := by
  have e : s.data.toList.length = s.size := by simp
  unfold textB
  rw [h, e, Bool.and_true]
  congr 1 <;> (rw [decide_eq_decide]; omega)
theorem keyB_eq (s : ByteArray) (h : s.data.toList.all inK = true) : keyB s.data.toList = (decide ((1 : Int) ≤ (s.size : Int)) && decide ((s.size : Int) ≤ 64)) := by
  have e : s.data.toList.length = s.size := by simp
  unfold keyB
  rw [h, e, Bool.and_true]
  congr 1 <;> (rw [decide_eq_decide]; omega)
set_option maxHeartbeats 400000 in
set_option maxRecDepth 1000000 in
theorem plain_any (s : ByteArray) (w : World) (hs : s.size ≤ 4611686018427387904) :
    Calls Try.prog 33 #[.string s] w fun e w' => e = .returned (.bool (textB s.data.toList)) ∧ w' = w := by
  go_enter Try.func33, Try.ntmps33
  go_wp2_with fail
  go_loopg [3] s.size (fun gk i wr => ∃ k : Nat, i = .int .i64 k ∧ k ≤ s.size ∧ s.size - k ≤ gk ∧ wr = w ∧ Hid ((s.data.toList.take k).all inT = true))
  case atStart => exact ⟨0, rfl, Nat.zero_le _, Nat.le_refl _, rfl, rfl⟩
  case round =>
    obtain ⟨k, rfl, hk, hgk, hwr, HA⟩ := hrel
    obtain rfl := hwr.symm
    by_cases hp : k < s.size
    · by_cases hq1 : (s[k].toNat : Int) < 33
      · go_wp2_with fail
        go_ret
        exact ⟨by rw [text_no s k hp (inT_no (.inl hq1))]; rfl, rfl⟩
      by_cases hq2 : (126 : Int) < (s[k].toNat : Int)
      · go_wp2_with fail
        go_ret
        exact ⟨by rw [text_no s k hp (inT_no (.inr hq2))]; rfl, rfl⟩
      · go_wp2_with fail
        go_roundg (s.size - (k + 1))
        case measure => omega
        case rel => exact ⟨k + 1, by go_num, by omega, Nat.le_refl _, rfl, take_step s inT k hp HA.out (inT_yes (by omega) (by omega))⟩
    · have HALL : Hid (s.data.toList.all inT = true) := by
        have := HA.out
        rwa [List.take_of_length_le (by simp; omega)] at this
      obtain ⟨x, hx⟩ : ∃ x, decide ((1 : Int) ≤ (s.size : Int)) = x := ⟨_, rfl⟩
      obtain ⟨y, hy⟩ : ∃ y, decide ((s.size : Int) ≤ 4096) = y := ⟨_, rfl⟩
      have HE : Hid (textB s.data.toList = (x && y)) := by show textB _ = _; rw [textB_eq s HALL.out, hx, hy]
      cases x <;> cases y <;> (
        go_wp2_with fail
        go_ret
        exact ⟨by rw [HE.out]; rfl, rfl⟩)
set_option maxHeartbeats 1000000 in
set_option maxRecDepth 1000000 in
theorem key_any (s : ByteArray) (w : World) (hs : s.size ≤ 4611686018427387904) :
    Calls Try.prog 37 #[.string s] w fun e w' => e = .returned (.bool (keyB s.data.toList)) ∧ w' = w := by
  go_enter Try.func37, Try.ntmps37
  go_wp2_with fail
  go_loopg [3] s.size (fun gk i wr => ∃ k : Nat, i = .int .i64 k ∧ k ≤ s.size ∧ s.size - k ≤ gk ∧ wr = w ∧ Hid ((s.data.toList.take k).all inK = true))
  case atStart => exact ⟨0, rfl, Nat.zero_le _, Nat.le_refl _, rfl, rfl⟩
  case round =>
    obtain ⟨k, rfl, hk, hgk, hwr, HA⟩ := hrel
    obtain rfl := hwr.symm
    by_cases hp : k < s.size
    · obtain ⟨a, ha⟩ : ∃ a, decide ((97 : Int) ≤ (s[k].toNat : Int)) = a := ⟨_, rfl⟩
      obtain ⟨b, hb⟩ : ∃ a, decide ((s[k].toNat : Int) ≤ 122) = a := ⟨_, rfl⟩
      obtain ⟨d, hd⟩ : ∃ a, decide ((48 : Int) ≤ (s[k].toNat : Int)) = a := ⟨_, rfl⟩
      obtain ⟨e, he⟩ : ∃ a, decide ((s[k].toNat : Int) ≤ 57) = a := ⟨_, rfl⟩
      obtain ⟨f, hf⟩ : ∃ a, ((s[k].toNat : Int) == 45) = a := ⟨_, rfl⟩
      have HK : Hid (inK s[k] = (a && b || d && e || f)) := inK_of a b d e f ha hb hd he hf
      cases a <;> cases b <;> cases d <;> cases e <;> cases f <;> (
        go_wp2_with fail
        first
        | (go_ret
           exact ⟨by rw [key_no s k hp (by rw [HK.out]; rfl)]; rfl, rfl⟩)
        | (go_roundg (s.size - (k + 1))
           case measure => omega
           case rel => exact ⟨k + 1, by go_num, by omega, Nat.le_refl _, rfl, take_step s inK k hp HA.out (by rw [HK.out]; rfl)⟩))
    · have HALL : Hid (s.data.toList.all inK = true) := by
        have := HA.out
        rwa [List.take_of_length_le (by simp; omega)] at this
      obtain ⟨x, hx⟩ : ∃ x, decide ((1 : Int) ≤ (s.size : Int)) = x := ⟨_, rfl⟩
      obtain ⟨y, hy⟩ : ∃ y, decide ((s.size : Int) ≤ 64) = y := ⟨_, rfl⟩
      have HE : Hid (keyB s.data.toList = (x && y)) := by show keyB _ = _; rw [keyB_eq s HALL.out, hx, hy]
      cases x <;> cases y <;> (
        go_wp2_with fail
        go_ret
        exact ⟨by rw [HE.out]; rfl, rfl⟩)
end Go.Proofs.Ytimgjbjibkljhaa
