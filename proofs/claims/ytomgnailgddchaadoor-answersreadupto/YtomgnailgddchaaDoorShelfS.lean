import Derived.Shelf.SlSorted.Search
import Derived.Ground.SlsoProg
import Derived.Test.YtomgnailgddchaaDoorProg
namespace Go.Proofs
open Go.Shelf
def Tryd.searchRow_ren : Go.Shelf.Ren := ⟨fun | 16 => 65 | n => n, fun | 3 => 3 | 35 => 103 | 4 => 4 | 38 => 108 | n => n, fun | n => n⟩
theorem Tryd.searchRow : Go.Proofs.SlLaysO.n16 Tryd.prog Tryd.searchRow_ren := {
  mixed := by kernel_rfl
  f16 := Tryd.func65.trans (congrArg some (by kernel_rfl))
  t3 := Tryd.underlying3
  a3 := Tryd.isAgg3
  z3 := Tryd.sizeOf3
  v3 := Tryd.zeroValue3
  t4 := Tryd.underlying4
  a4 := Tryd.isAgg4
  z4 := Tryd.sizeOf4
  v4 := Tryd.zeroValue4
  t35 := Tryd.underlying103
  a35 := Tryd.isAgg103
  z35 := Tryd.sizeOf103
  v35 := Tryd.zeroValue103
  t38 := Tryd.underlying108
  a38 := Tryd.isAgg108
  z38 := Tryd.sizeOf108
  v38 := Tryd.zeroValue108 }
end Go.Proofs
