/-
  The walks of Valid, the program's and the document's.
-/
import Derived.Test.YthjaehibndmehaaProg
import Derived.Test.YthjaehibndmehaaPlain
import Derived.Test.YthjaehibndmehaaShelf
import Derived.WalkKit
import Derived.WalkSpells
import Derived.WalkLawsBesides
import Derived.Deep.LoopGhost
namespace Go.Proofs.Ythjaehibndmehaa
open Go.RowKit

theorem u8_of {c : UInt8} : UInt8.ofNat c.toNat = c := by simp
set_option maxHeartbeats 400000 in
set_option maxRecDepth 1000000 in
theorem mayStand_any (c : UInt8) (w : World) :
    Calls Try.prog 27 #[.int .u8 c.toNat] w fun e w' => e = .returned (.bool (okn c)) ∧ w' = w := by
  go_enter Try.func27, Try.ntmps27
  go_wp2_with (first
    | (go_at_call 41; refine (Try.strings_IndexByte _ _ _).mono ?_; rintro e w' ⟨rfl, rfl⟩))
  all_goals go_ret
  all_goals refine ⟨?_, rfl⟩
  all_goals first
    | (rw [okn_in (c := c) (by omega)]; rfl)
    | (rw [okn_out (c := c) (by omega) (by omega) (by omega), ← index_others]; rfl)

theorem no_bad {s : ByteArray} (h1 : 1 ≤ s.size) (h2 : ¬ 200 < s.size) (h3 : ¬ s[0].toNat = 45) : ¬ (((s.size : Int) < 1 ∨ 200 < (s.size : Int)) ∨ ((s[0].toNat : Int) == 45) = true) := by
  simp only [beq_iff_eq]
  omega
set_option maxHeartbeats 400000 in
set_option maxRecDepth 1000000 in
theorem valid_any (s : ByteArray) (w : World) :
    Calls Try.prog 9 #[.string s] w fun e w' => e = .returned (.bool (validB s.data.toList)) ∧ w' = w := by
  by_cases h1 : s.size < 1
  · go_enter Try.func9, Try.ntmps9
    go_wp2_with fail
    go_ret
    exact ⟨by rw [valid_short s h1]; rfl, rfl⟩
  by_cases h2 : 200 < s.size
  · go_enter Try.func9, Try.ntmps9
    go_wp2_with fail
    go_ret
    exact ⟨by rw [valid_long s h2]; rfl, rfl⟩
  by_cases h3 : s[0].toNat = 45
  · go_enter Try.func9, Try.ntmps9
    go_wp2_with fail
    go_ret
    exact ⟨by rw [valid_dash s (by omega) h3]; rfl, rfl⟩
  go_enter Try.func9, Try.ntmps9
  go_wp2_with fail
  · rename_i hbad
    exact absurd hbad (no_bad (show 1 ≤ s.size by omega) h2 h3)
  rename_i hgood _ _
  have H3 : Hid (¬ s[0].toNat = 45) := h3
  clear h3 hgood
  go_loopg [19] s.size (fun gk i wr => ∃ k : Nat, i = .int .i64 k ∧ k ≤ s.size ∧ s.size - k ≤ gk ∧ wr = w ∧ Hid ((s.data.toList.take k).all okn = true))
  case atStart => exact ⟨0, rfl, Nat.zero_le _, Nat.le_refl _, rfl, rfl⟩
  case round =>
    obtain ⟨k, rfl, hk, hgk, hwr, HA⟩ := hrel
    subst hwr
    by_cases hp : k < s.size
    · go_wp2_with (first
        | (go_at_call 27; refine (mayStand_any s[k] _).mono ?_; rintro e w' ⟨rfl, hw'⟩; obtain rfl := hw'.symm))
      · go_ret
        exact ⟨by rw [valid_no s k hp (by rename_i hq; simpa using hq)]; rfl, rfl⟩
      · rename_i hq
        go_roundg (s.size - (k + 1))
        case measure => omega
        case rel => exact ⟨k + 1, by go_num, by omega, Nat.le_refl _, rfl, valid_step s k hp HA.out (by simpa using hq)⟩
    · go_wp2_with fail
      go_ret
      exact ⟨by rw [valid_end s k hp (by omega) (by omega) H3.out HA.out]; rfl, rfl⟩
end Go.Proofs.Ythjaehibndmehaa
