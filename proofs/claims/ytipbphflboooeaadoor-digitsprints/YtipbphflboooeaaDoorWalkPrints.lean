/-
  The walk of the statement on printing.
-/
import Derived.Test.YtipbphflboooeaaDoorShown
import Derived.Test.YtipbphflboooeaaDoorRefPrint
namespace Go.Proofs.YtipbphflboooeaaDoor.digitsPrints
open Go.RowKit

set_option maxHeartbeats 400000 in
theorem walk (n : Int) (w : World) (hn : -9223372036854775808 ≤ n ∧ n ≤ 9223372036854775807) (htab : Lib.TabIs Tryd.prog w "internal/strconv.uint64pow10" .u64 Lib.pow10Tab) :
    Calls Tryd.prog 4 #[.int .i64 n] w fun e w' => e = .returned (.bool true) ∧ Below w.heap.size w w' := by
  have HT : Hid (Lib.TabIs Tryd.prog w "internal/strconv.uint64pow10" .u64 Lib.pow10Tab) := htab
  clear htab
  obtain ⟨hn0, hn1⟩ := hn
  go_enter Tryd.func4, Tryd.ntmps4
  go_wp2_with fail
  refine (shown_any _ HT.out).mono ?_
  rintro e w1 ⟨rfl, hb1⟩
  go_wp2_with fail
  refine (print_any n _ hn0 hn1 (tab_below hb1 HT.out)).mono ?_
  rintro e w2 ⟨rfl, hb2⟩
  go_wp2_with fail
  refine (refPrint_any n _ hn0 hn1).mono ?_
  rintro e w3 ⟨rfl, hb3⟩
  go_wp2
  go_ret
  exact ⟨by simp, hb1.trans ((hb2.trans (hb3.mono hb2.size)).mono hb1.size)⟩
end Go.Proofs.YtipbphflboooeaaDoor.digitsPrints
