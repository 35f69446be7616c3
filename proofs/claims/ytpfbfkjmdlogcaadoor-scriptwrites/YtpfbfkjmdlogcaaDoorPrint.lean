/-
  The walks of Print, the program's and the document's.
-/
import Derived.Test.YtpfbfkjmdlogcaaDoorShelf
import Derived.Test.YtpfbfkjmdlogcaaDoorPow
import Derived.Test.YtpfbfkjmdlogcaaDoorPlB
import Derived.WalkKit
import Derived.WalkSpells
import Derived.WalkLawsBesides
import Derived.WalkSmall
import Derived.Lib.LaidTab
import Derived.Lib.ItoaLen
namespace Go.Proofs.YtpfbfkjmdlogcaaDoor
open Go.RowKit Go.Lib Go.Sort

set_option maxHeartbeats 400000 in
theorem print_any (n : Int) (w : World) (h0 : -9223372036854775808 ≤ n) (h1 : n ≤ 9223372036854775807) (htab : Lib.TabIs Tryd.prog w "internal/strconv.uint64pow10" .u64 Lib.pow10Tab) :
    Calls Tryd.prog 68 #[.int .i64 n] w fun e w' => e = .returned (.string ⟨(printL n).toArray⟩) ∧ Below w.heap.size w w' := by
  by_cases hn : n < 0
  · go_enter Tryd.func68, Tryd.ntmps68
    go_wp2
    go_ret
    exact ⟨by rw [printL, if_pos hn]; rfl, Below.refl _ _⟩
  · go_enter Tryd.func68, Tryd.ntmps68
    have HT : Hid (Lib.TabIs Tryd.prog w "internal/strconv.uint64pow10" .u64 Lib.pow10Tab) := htab
    clear htab
    go_wp2_with (go_at_call 78; refine (Tryd.strconv_Itoa n h0 h1 _ HT.out).mono ?_; rintro e w' ⟨rfl, k, os, rfl⟩)
    go_ret
    exact ⟨by rw [printL, if_neg (by omega)]; rfl, below_grow _ _ (Nat.le_refl _) _ _⟩

end Go.Proofs.YtpfbfkjmdlogcaaDoor
