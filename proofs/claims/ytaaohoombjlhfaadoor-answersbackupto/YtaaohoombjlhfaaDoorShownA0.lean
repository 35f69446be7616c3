/-
  The document's examples: no memory.
-/
import Derived.Test.YtaaohoombjlhfaaDoorPlainPut
import Derived.Test.YtaaohoombjlhfaaDoorPlainRd
namespace Go.Proofs.YtaaohoombjlhfaaDoor
open Go.RowKit
def r3 : Rp := ⟨3, 7, 0, [], [97, 98]⟩
def r14 : Rp := ⟨14, 0, 0, [], []⟩
def kix : List UInt8 := [75, 73, 67, 75, 69, 68, 32, 49, 50, 13, 10, 75, 73, 88]
theorem dec7 : decL 7 = [55] := dec_small (u := 7) (by decide)
theorem dec2 : decL 2 = [50] := dec_small (u := 2) (by decide)
theorem r3_ok : checkE r3 = 0 := by decide
theorem r14_ok : checkE r14 = 0 := by decide
theorem r3_put : putL r3 = [82, 69, 83, 69, 82, 86, 69, 68, 32, 55, 32, 50, 13, 10, 97, 98, 13, 10] := by
  show wordOf 3 ++ (((32 :: decL 7) ++ [] ++ []) ++ (32 :: decL 2)) ++ [13, 10] ++ ([97, 98] ++ [13, 10]) = _
  rw [dec7, dec2]
  rfl
theorem r14_put : putL r14 = [75, 73, 67, 75, 69, 68, 13, 10] := by rfl
theorem kix_read : readP kix = (⟨13, 0, 12, [], []⟩, 11, 0) := by kernel_rfl
theorem kix_scan : scan kix = (11, 3) := by decide +kernel
theorem kix_held : ((heldN kix 11 : Nat) : Int) = 3 := by decide +kernel
end Go.Proofs.YtaaohoombjlhfaaDoor
