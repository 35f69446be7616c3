/-
  The walks of Word, the program's and the document's.
-/
import Derived.Test.YtienggblpmkjjaaDoorProg
import Derived.Test.YtienggblpmkjjaaDoorPlainAns
import Derived.WalkKit
import Derived.WalkSpells
import Derived.WalkLawsBesides
namespace Go.Proofs.YtienggblpmkjjaaDoor
open Go.RowKit

set_option maxHeartbeats 400000 in
set_option maxRecDepth 1000000 in
theorem word_any (s : ByteArray) (w : World) :
    Calls Tryd.prog 52 #[.string s] w fun e w' => e = .returned (.bool (wordB s.data.toList)) ∧ ∃ pos, w' = w.iter s pos := by
  go_enter Tryd.func52, Tryd.ntmps52
  go_wp2
  go_loopw [4] (fun _ w' => ∃ pos, w' = w.iter s pos ∧ (s.data.toList.take pos).all okc = true) (fun _ w' => s.size - w'.iterPos w.heap.size)
  case atStart => exact ⟨0, rfl, rfl⟩
  case round =>
    obtain ⟨pos, rfl, ha⟩ := hrel
    have HA : Hid ((s.data.toList.take pos).all okc = true) := ha
    clear ha
    by_cases hp : pos < s.size
    · have hnx : ∀ ty, (Instr.next (.pointer (some ⟨w.heap.size, 0, none⟩)) true ty).run Tryd.prog (w.iter s pos) = _ := fun ty => run_next_any w s pos ty hp
      have hwd := width_pos s pos hp
      rcases rune_byte s pos hp with ⟨h1, h2, h3⟩ | ⟨h1, h2⟩
      · rw [h2, h3] at hnx
        rw [h2] at h1
        clear h2 h3 hwd
        go_wp2
        · go_ret
          exact ⟨by rw [word_no s pos hp (by omega)]; rfl, _, rfl⟩
        · go_roundw
          case rel => exact ⟨pos + 1, rfl, word_step s pos hp HA.out (by omega) (by omega)⟩
          case measure => simp; omega
        · go_ret
          exact ⟨by rw [word_no s pos hp (by omega)]; rfl, _, rfl⟩
      · go_wp2
        go_ret
        exact ⟨by rw [word_no s pos hp (by omega)]; rfl, _, rfl⟩
    · have hnx : ∀ ty, (Instr.next (.pointer (some ⟨w.heap.size, 0, none⟩)) true ty).run Tryd.prog (w.iter s pos) = _ := fun ty => run_next_end w s pos ty hp
      go_wp2
      go_ret
      refine ⟨?_, _, rfl⟩
      rw [word_end s pos hp HA.out, ← ByteArray.toList_eq]
      simp
end Go.Proofs.YtienggblpmkjjaaDoor
