/-
  The walks of Print, the program's and the document's.
-/
import Derived.Test.YthapbnlcodkalaaDoorShelf
import Derived.Test.YthapbnlcodkalaaDoorPow
import Derived.Test.YthapbnlcodkalaaDoorPlain
import Derived.WalkKit
import Derived.WalkSpells
import Derived.WalkLawsBesides
import Derived.WalkSmall
import Derived.Lib.LaidTab
import Derived.Lib.ItoaLen
namespace Go.Proofs.YthapbnlcodkalaaDoor
open Go.RowKit Go.Lib Go.Sort

/-- What Print writes. -/
def printL (n : Int) : List UInt8 := if n < 0 then [] else Lib.itoa n

set_option maxHeartbeats 400000 in
theorem print_any (n : Int) (w : World) (h0 : -9223372036854775808 ≤ n) (h1 : n ≤ 9223372036854775807) (htab : Lib.TabIs Tryd.prog w "internal/strconv.uint64pow10" .u64 Lib.pow10Tab) :
    Calls Tryd.prog 41 #[.int .i64 n] w fun e w' => e = .returned (.string ⟨(printL n).toArray⟩) ∧ Below w.heap.size w w' := by
  by_cases hn : n < 0
  · go_enter Tryd.func41, Tryd.ntmps41
    go_wp2
    go_ret
    exact ⟨by rw [printL, if_pos hn]; rfl, Below.refl _ _⟩
  · go_enter Tryd.func41, Tryd.ntmps41
    have HT : Hid (Lib.TabIs Tryd.prog w "internal/strconv.uint64pow10" .u64 Lib.pow10Tab) := htab
    clear htab
    go_wp2_with (go_at_call 47; refine (Tryd.strconv_Itoa n h0 h1 _ HT.out).mono ?_; rintro e w' ⟨rfl, k, os, rfl⟩)
    go_ret
    exact ⟨by rw [printL, if_neg (by omega)]; rfl, below_grow _ _ (Nat.le_refl _) _ _⟩

theorem dec_small {u : Nat} (h : u < 10) : Lib.decDigits u = [UInt8.ofNat (48 + u)] := Lib.decDigits_one h
theorem dec_big {u : Nat} (h : ¬ u < 10) : Lib.decDigits u = Lib.decDigits (u / 10) ++ [UInt8.ofNat (48 + u % 10)] := by rw [Lib.decDigits, dif_neg h]
/-- The digits that are still to be written ahead of the last one of m. -/
def ahead (m : Nat) : List UInt8 := if m < 10 then [] else Lib.decDigits (m / 10)
theorem dec_ahead (m : Nat) : Lib.decDigits m = ahead m ++ [UInt8.ofNat (48 + m % 10)] := by
  unfold ahead
  split
  · rename_i h; rw [dec_small h, Nat.mod_eq_of_lt h]; rfl
  · rename_i h; rw [dec_big h]
end Go.Proofs.YthapbnlcodkalaaDoor
