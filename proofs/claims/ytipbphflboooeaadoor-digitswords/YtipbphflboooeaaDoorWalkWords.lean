/-
  The walk of the statement on words.
-/
import Derived.Test.YtipbphflboooeaaDoorShown
import Derived.Test.YtipbphflboooeaaDoorRefWord
namespace Go.Proofs.YtipbphflboooeaaDoor.digitsWords
open Go.RowKit

set_option maxHeartbeats 400000 in
theorem walk (s : ByteArray) (w : World) (hs : s.size ≤ maxLen) (htab : Lib.TabIs Tryd.prog w "internal/strconv.uint64pow10" .u64 Lib.pow10Tab) :
    Calls Tryd.prog 5 #[.string s] w fun e w' => e = .returned (.bool true) ∧ Below w.heap.size w w' := by
  have HT : Hid (Lib.TabIs Tryd.prog w "internal/strconv.uint64pow10" .u64 Lib.pow10Tab) := htab
  clear htab
  have HS : Hid (s.size ≤ maxLen) := hs
  clear hs
  go_enter Tryd.func5, Tryd.ntmps5
  go_wp2_with fail
  refine (shown_any _ HT.out).mono ?_
  rintro e w1 ⟨rfl, hb1⟩
  go_wp2_with fail
  refine (word_any _ _).mono ?_
  rintro e w2 ⟨rfl, p, rfl⟩
  go_wp2_with fail
  refine (refWord_any _ _ HS.out).mono ?_
  rintro e w3 ⟨rfl, rfl⟩
  go_wp2
  go_ret
  exact ⟨by simp, hb1.alloc hb1.size _⟩
end Go.Proofs.YtipbphflboooeaaDoor.digitsWords
