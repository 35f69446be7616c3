/-
  The walks of Print, the program's and the document's.
-/
import Derived.Test.YteaccpolmmkclaaDoorShelf
import Derived.Test.YteaccpolmmkclaaDoorPow
import Derived.Test.YteaccpolmmkclaaDoorPlB
import Derived.WalkKit
import Derived.WalkSpells
import Derived.WalkLawsBesides
import Derived.WalkSmall
import Derived.Lib.LaidTab
import Derived.Lib.ItoaLen
namespace Go.Proofs.YteaccpolmmkclaaDoor
open Go.RowKit Go.Lib Go.Sort

set_option maxHeartbeats 400000 in
theorem print_any (n : Int) (w : World) (h0 : -9223372036854775808 ≤ n) (h1 : n ≤ 9223372036854775807) (htab : Lib.TabIs Tryd.prog w "internal/strconv.uint64pow10" .u64 Lib.pow10Tab) :
    Calls Tryd.prog 55 #[.int .i64 n] w fun e w' => e = .returned (.string ⟨(printL n).toArray⟩) ∧ Below w.heap.size w w' := by
  by_cases hn : n < 0
  · go_enter Tryd.func55, Tryd.ntmps55
    go_wp2
    go_ret
    exact ⟨by rw [printL, if_pos hn]; rfl, Below.refl _ _⟩
  · go_enter Tryd.func55, Tryd.ntmps55
    have HT : Hid (Lib.TabIs Tryd.prog w "internal/strconv.uint64pow10" .u64 Lib.pow10Tab) := htab
    clear htab
    go_wp2_with (go_at_call 65; refine (Tryd.strconv_Itoa n h0 h1 _ HT.out).mono ?_; rintro e w' ⟨rfl, k, os, rfl⟩)
    go_ret
    exact ⟨by rw [printL, if_neg (by omega)]; rfl, below_grow _ _ (Nat.le_refl _) _ _⟩

end Go.Proofs.YteaccpolmmkclaaDoor
