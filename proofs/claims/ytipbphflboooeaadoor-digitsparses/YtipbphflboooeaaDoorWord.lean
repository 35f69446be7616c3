/-
  The walks of Word, the program's and the document's.
-/
import Derived.Test.YtipbphflboooeaaDoorProg
import Derived.Test.YtipbphflboooeaaDoorPlain
import Derived.WalkKit
import Derived.WalkSpells
import Derived.WalkLawsBesides
namespace Go.Proofs.YtipbphflboooeaaDoor
open Go.RowKit

set_option maxHeartbeats 400000 in
set_option maxRecDepth 1000000 in
theorem word_any (s : ByteArray) (w : World) :
    Calls Tryd.prog 14 #[.string s] w fun e w' => e = .returned (.bool (wordB s.data.toList)) ∧ ∃ pos, w' = w.iter s pos := by
  go_enter Tryd.func14, Tryd.ntmps14
  go_wp2
  go_loopw [4] (fun _ w' => ∃ pos, w' = w.iter s pos ∧ (s.data.toList.take pos).all okc = true) (fun _ w' => s.size - w'.iterPos w.heap.size)
  case atStart => exact ⟨0, rfl, rfl⟩
  case round =>
    obtain ⟨pos, rfl, ha⟩ := hrel
    have HA : Hid ((s.data.toList.take pos).all okc = true) := ha
    clear ha
    by_cases hp : pos < s.size
    · have hnx : ∀ ty, (Instr.next (.pointer (some ⟨w.heap.size, 0, none⟩)) true ty).run Tryd.prog (w.iter s pos) = _ := fun ty => run_next_any w s pos ty hp
      have hwd := width_pos s pos hp
      rcases rune_byte s pos hp with ⟨h1, h2, h3⟩ | ⟨h1, h2⟩
      · rw [h2, h3] at hnx
        rw [h2] at h1
        clear h2 h3 hwd
        go_wp2
        · go_ret
          exact ⟨by rw [word_no s pos hp (by omega)]; rfl, _, rfl⟩
        · go_roundw
          case rel => exact ⟨pos + 1, rfl, word_step s pos hp HA.out (by omega) (by omega)⟩
          case measure => simp; omega
        · go_ret
          exact ⟨by rw [word_no s pos hp (by omega)]; rfl, _, rfl⟩
      · go_wp2
        go_ret
        exact ⟨by rw [word_no s pos hp (by omega)]; rfl, _, rfl⟩
    · have hnx : ∀ ty, (Instr.next (.pointer (some ⟨w.heap.size, 0, none⟩)) true ty).run Tryd.prog (w.iter s pos) = _ := fun ty => run_next_end w s pos ty hp
      go_wp2
      go_ret
      refine ⟨?_, _, rfl⟩
      rw [word_end s pos hp HA.out, ← ByteArray.toList_eq]
      simp

set_option maxHeartbeats 400000 in
set_option maxRecDepth 1000000 in
theorem refWord_any (s : ByteArray) (w : World) (hs : s.size ≤ maxLen) :
    Calls Tryd.prog 15 #[.string s] w fun e w' => e = .returned (.bool (wordB s.data.toList)) ∧ w' = w := by
  unfold maxLen at hs
  go_enter Tryd.func15, Tryd.ntmps15
  go_wp2
  go_loop [3] (fun i => ∃ k : Nat, k ≤ s.size ∧ i = .int .i64 k ∧ (s.data.toList.take k).all okc = true) (fun i => s.size - (intOf i).toNat)
  case atStart => exact ⟨0, Nat.zero_le _, rfl, rfl⟩
  case round =>
    obtain ⟨k, hk, rfl, ha⟩ := hrel
    have HA : Hid ((s.data.toList.take k).all okc = true) := ha
    clear ha
    by_cases hp : k < s.size
    · go_wp2
      · go_ret
        exact ⟨by rw [word_no s k hp (by omega)]; rfl, rfl⟩
      · go_round
        case rel => exact ⟨k + 1, by omega, by go_num, word_step s k hp HA.out (by omega) (by omega)⟩
        case measure => simp [intOf]; omega
      · go_ret
        exact ⟨by rw [word_no s k hp (by omega)]; rfl, rfl⟩
    · go_wp2
      go_ret
      refine ⟨?_, rfl⟩
      rw [word_end s k hp HA.out]
      simp [pos_empty]
end Go.Proofs.YtipbphflboooeaaDoor
