/-
  The walk of copied.
-/
import Derived.Test.YtibcfbajjnpbfaaClone
namespace Go.Proofs.Ytibcfbajjnpbfaa
open Go.RowKit Go.Lib

set_option maxHeartbeats 1000000 in
set_option maxRecDepth 1000000 in
theorem copied_any (a : Option Addr) (c : Nat) (l : List UInt8) (w : World) (hl : IsBytes w a c l) (hb : l.length ≤ 140737488355328) :
    Calls Try.prog 14 #[.slice a l.length c] w fun e w' => ∃ v, e = .returned v ∧ Own w' w.heap.size v l ∧ Below w.heap.size w w' ∧ v ≠ .slice none 0 0 := by
  have HL : Hid (IsBytes w a c l) := hl
  clear hl
  go_enter Try.func14, Try.ntmps14
  go_wp2_with (at_builtin; go_must (refine wpList_append8 rfl (.tmp 5) (.tmp 6) rfl w.heap.size (.slice (some ⟨w.heap.size, 0, none⟩) 0 0) [] rfl (Own.lit w _ (Nat.le_refl _)) a c l rfl (HL.out.below ((Below.refl _ w).alloc (Nat.le_refl _) _)) (by simp; omega) (by simp) ?_; intro v1 w1 hown1 hgr1 _ _ hnil1))
  go_ret
  refine ⟨v1, rfl, hown1, ((Below.refl _ w).alloc (Nat.le_refl _) _).grown hgr1 (by simp) (fun k hk => by simp [Value.ownBlock] at hk; omega), fun h => by simpa using hnil1.1 h⟩
end Go.Proofs.Ytibcfbajjnpbfaa
