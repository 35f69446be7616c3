/-
  The walk of the statement on parsing.
-/
import Derived.Test.YtipbphflboooeaaDoorShown
import Derived.Test.YtipbphflboooeaaDoorRefParse
namespace Go.Proofs.YtipbphflboooeaaDoor.digitsParses
open Go.RowKit

set_option maxHeartbeats 400000 in
theorem walk (s : ByteArray) (most : Int) (w : World) (hs : s.size ≤ maxLen) (hm : -9223372036854775808 ≤ most ∧ most ≤ 9223372036854775807) (htab : Lib.TabIs Tryd.prog w "internal/strconv.uint64pow10" .u64 Lib.pow10Tab) :
    Calls Tryd.prog 3 #[.string s, .int .i64 most] w fun e w' => e = .returned (.bool true) ∧ Below w.heap.size w w' := by
  have HT : Hid (Lib.TabIs Tryd.prog w "internal/strconv.uint64pow10" .u64 Lib.pow10Tab) := htab
  clear htab
  have HS : Hid (s.size ≤ maxLen) := hs
  clear hs
  obtain ⟨hm0, hm1⟩ := hm
  go_enter Tryd.func3, Tryd.ntmps3
  go_wp2_with fail
  refine (shown_any _ HT.out).mono ?_
  rintro e w1 ⟨rfl, hb1⟩
  go_wp2_with fail
  refine (parse_any s most _ hm0 hm1).mono ?_
  rintro e w2 ⟨rfl, p, rfl⟩
  go_wp2_with fail
  refine (refParse_any s most _ HS.out hm0 hm1).mono ?_
  rintro e w3 ⟨rfl, rfl⟩
  generalize parseV s.data.toList most = pv
  generalize parseB s.data.toList most = pb
  have e1 : (pv == pv) = true := by simp
  have e2 : (pb == pb) = true := by simp
  go_wp2
  go_ret
  exact ⟨rfl, hb1.alloc hb1.size _⟩
end Go.Proofs.YtipbphflboooeaaDoor.digitsParses
