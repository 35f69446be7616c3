/-
  The walks of isText, inKey, isKey.
-/
import Derived.Test.YtimgjbjibkljhaaKit
import Derived.Test.YtimgjbjibkljhaaPlainYaml
namespace Go.Proofs.Ytimgjbjibkljhaa
open Go.RowKit

theorem text_short (s : ByteArray) (h : s.size < 1) : textB s.data.toList = false := by
  have : s.data.toList.length = s.size := by simp
  unfold textB; simp only [this]
  simp; omega
theorem text_long (s : ByteArray) (h : 4096 < s.size) : textB s.data.toList = false := by
  have : s.data.toList.length = s.size := by simp
  unfold textB; simp only [this]
  simp; omega
theorem at_list (s : ByteArray) (k : Nat) (hk : k < s.size) : s.data.toList[k]? = some s[k] := by
  rw [Array.getElem?_toList]
  exact Array.getElem?_eq_getElem hk
theorem take_step (s : ByteArray) (p : UInt8 → Bool) (k : Nat) (hk : k < s.size) (h : (s.data.toList.take k).all p = true) (hc : p s[k] = true) : (s.data.toList.take (k + 1)).all p = true := by
  rw [List.take_add_one, at_list s k hk]
  simp [h, hc]
theorem all_no (s : ByteArray) (p : UInt8 → Bool) (k : Nat) (hk : k < s.size) (hc : p s[k] = false) : s.data.toList.all p = false := by
  rw [Bool.eq_false_iff]
  intro h
  rw [List.all_eq_true] at h
  have := h s[k] (List.mem_of_getElem? (at_list s k hk))
  rw [hc] at this
  cases this
theorem text_no (s : ByteArray) (k : Nat) (hk : k < s.size) (hc : inT s[k] = false) : textB s.data.toList = false := by
  unfold textB; rw [all_no s inT k hk hc]; simp
theorem text_end (s : ByteArray) (k : Nat) (hk : s.size ≤ k) (h1 : 1 ≤ s.size) (h2 : s.size ≤ 4096) (h : (s.data.toList.take k).all inT = true) : textB s.data.toList = true := by
  have e : s.data.toList.length = s.size := by simp
  rw [List.take_of_length_le (by omega)] at h
  unfold textB
  simp only [e, h]
  simp; omega
theorem inT_yes {c : UInt8} (h1 : ¬ (c.toNat : Int) < 33) (h2 : ¬ (126 : Int) < (c.toNat : Int)) : inT c = true := by
  simp [inT]; omega
theorem inT_no {c : UInt8} (h : (c.toNat : Int) < 33 ∨ (126 : Int) < (c.toNat : Int)) : inT c = false := by
  simp only [inT, Bool.and_eq_false_iff, decide_eq_false_iff_not]
  omega

set_option maxHeartbeats 400000 in
set_option maxRecDepth 1000000 in
theorem isText_any (s : ByteArray) (w : World) :
    Calls Try.prog 35 #[.string s] w fun e w' => e = .returned (.bool (textB s.data.toList)) ∧ w' = w := by
  by_cases h1 : s.size < 1
  · go_enter Try.func35, Try.ntmps35
    go_wp2_with fail
    go_ret
    exact ⟨by rw [text_short s h1]; rfl, rfl⟩
  by_cases h2 : 4096 < s.size
  · go_enter Try.func35, Try.ntmps35
    go_wp2_with fail
    go_ret
    exact ⟨by rw [text_long s h2]; rfl, rfl⟩
  go_enter Try.func35, Try.ntmps35
  go_wp2_with fail
  go_loopg [14] s.size (fun gk i wr => ∃ k : Nat, i = .int .i64 k ∧ k ≤ s.size ∧ s.size - k ≤ gk ∧ wr = w ∧ Hid ((s.data.toList.take k).all inT = true))
  case atStart => exact ⟨0, rfl, Nat.zero_le _, Nat.le_refl _, rfl, rfl⟩
  case round =>
    obtain ⟨k, rfl, hk, hgk, hwr, HA⟩ := hrel
    subst hwr
    by_cases hp : k < s.size
    · by_cases hq1 : (s[k].toNat : Int) < 33
      · go_wp2_with fail
        go_ret
        exact ⟨by rw [text_no s k hp (inT_no (.inl hq1))]; rfl, rfl⟩
      by_cases hq2 : (126 : Int) < (s[k].toNat : Int)
      · go_wp2_with fail
        go_ret
        exact ⟨by rw [text_no s k hp (inT_no (.inr hq2))]; rfl, rfl⟩
      · go_wp2_with fail
        go_roundg (s.size - (k + 1))
        case measure => omega
        case rel => exact ⟨k + 1, by go_num, by omega, Nat.le_refl _, rfl, take_step s inT k hp HA.out (inT_yes (by omega) (by omega))⟩
    · go_wp2_with fail
      go_ret
      exact ⟨by rw [text_end s k (by omega) (by omega) (by omega) HA.out]; rfl, rfl⟩

theorem inK_of {c : UInt8} (a b d e f : Bool) (ha : decide ((97 : Int) ≤ (c.toNat : Int)) = a) (hb : decide ((c.toNat : Int) ≤ 122) = b) (hd : decide ((48 : Int) ≤ (c.toNat : Int)) = d) (he : decide ((c.toNat : Int) ≤ 57) = e) (hf : ((c.toNat : Int) == 45) = f) : inK c = (a && b || d && e || f) := by
  subst ha hb hd he hf
  unfold inK
  congr 1
  · congr 1
    · congr 1 <;> (rw [decide_eq_decide]; omega)
    · congr 1 <;> (rw [decide_eq_decide]; omega)
  · rw [Bool.eq_iff_iff]; simp only [decide_eq_true_eq, beq_iff_eq]; omega
set_option maxHeartbeats 400000 in
set_option maxRecDepth 1000000 in
theorem inKey_any (c : UInt8) (w : World) :
    Calls Try.prog 53 #[.int .u8 c.toNat] w fun e w' => e = .returned (.bool (inK c)) ∧ w' = w := by
  obtain ⟨a, ha⟩ : ∃ a, decide ((97 : Int) ≤ (c.toNat : Int)) = a := ⟨_, rfl⟩
  obtain ⟨b, hb⟩ : ∃ a, decide ((c.toNat : Int) ≤ 122) = a := ⟨_, rfl⟩
  obtain ⟨d, hd⟩ : ∃ a, decide ((48 : Int) ≤ (c.toNat : Int)) = a := ⟨_, rfl⟩
  obtain ⟨e, he⟩ : ∃ a, decide ((c.toNat : Int) ≤ 57) = a := ⟨_, rfl⟩
  obtain ⟨f, hf⟩ : ∃ a, ((c.toNat : Int) == 45) = a := ⟨_, rfl⟩
  have HK : Hid (inK c = (a && b || d && e || f)) := inK_of a b d e f ha hb hd he hf
  cases a <;> cases b <;> cases d <;> cases e <;> cases f <;> (
    go_enter Try.func53, Try.ntmps53
    go_wp2_with fail
    go_ret
    exact ⟨by rw [HK.out]; rfl, rfl⟩)

theorem key_short (s : ByteArray) (h : s.size < 1) : keyB s.data.toList = false := by
  have : s.data.toList.length = s.size := by simp
  unfold keyB; simp only [this]
  simp; omega
theorem key_long (s : ByteArray) (h : 64 < s.size) : keyB s.data.toList = false := by
  have : s.data.toList.length = s.size := by simp
  unfold keyB; simp only [this]
  simp; omega
theorem key_no (s : ByteArray) (k : Nat) (hk : k < s.size) (hc : inK s[k] = false) : keyB s.data.toList = false := by
  unfold keyB; rw [all_no s inK k hk hc]; simp
theorem key_end (s : ByteArray) (k : Nat) (hk : s.size ≤ k) (h1 : 1 ≤ s.size) (h2 : s.size ≤ 64) (h : (s.data.toList.take k).all inK = true) : keyB s.data.toList = true := by
  have e : s.data.toList.length = s.size := by simp
  rw [List.take_of_length_le (by omega)] at h
  unfold keyB
  simp only [e, h]
  simp; omega
set_option maxHeartbeats 400000 in
set_option maxRecDepth 1000000 in
theorem isKey_any (s : ByteArray) (w : World) :
    Calls Try.prog 46 #[.string s] w fun e w' => e = .returned (.bool (keyB s.data.toList)) ∧ w' = w := by
  by_cases h1 : s.size < 1
  · go_enter Try.func46, Try.ntmps46
    go_wp2_with fail
    go_ret
    exact ⟨by rw [key_short s h1]; rfl, rfl⟩
  by_cases h2 : 64 < s.size
  · go_enter Try.func46, Try.ntmps46
    go_wp2_with fail
    go_ret
    exact ⟨by rw [key_long s h2]; rfl, rfl⟩
  go_enter Try.func46, Try.ntmps46
  go_wp2_with fail
  go_loopg [14] s.size (fun gk i wr => ∃ k : Nat, i = .int .i64 k ∧ k ≤ s.size ∧ s.size - k ≤ gk ∧ wr = w ∧ Hid ((s.data.toList.take k).all inK = true))
  case atStart => exact ⟨0, rfl, Nat.zero_le _, Nat.le_refl _, rfl, rfl⟩
  case round =>
    obtain ⟨k, rfl, hk, hgk, hwr, HA⟩ := hrel
    subst hwr
    by_cases hp : k < s.size
    · go_wp2_with (first
        | (go_at_call 53; refine (inKey_any s[k] _).mono ?_; rintro e w' ⟨rfl, hw'⟩; obtain rfl := hw'.symm))
      · go_ret
        exact ⟨by rw [key_no s k hp (by rename_i hq; simpa using hq)]; rfl, rfl⟩
      · rename_i hq
        go_roundg (s.size - (k + 1))
        case measure => omega
        case rel => exact ⟨k + 1, by go_num, by omega, Nat.le_refl _, rfl, take_step s inK k hp HA.out (by simpa using hq)⟩
    · go_wp2_with fail
      go_ret
      exact ⟨by rw [key_end s k (by omega) (by omega) (by omega) HA.out]; rfl, rfl⟩
end Go.Proofs.Ytimgjbjibkljhaa
