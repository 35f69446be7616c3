import Derived.Shelf.SlSorted.Search
import Derived.Ground.SlsoProg
import Derived.Test.YtienggblpmkjjaaDoorProg
namespace Go.Proofs
open Go.Shelf
def Tryd.searchRow_ren : Go.Shelf.Ren := ⟨fun | 16 => 82 | n => n, fun | 3 => 3 | 35 => 115 | 4 => 4 | 38 => 120 | n => n, fun | n => n⟩
theorem Tryd.searchRow : Go.Proofs.SlLaysO.n16 Tryd.prog Tryd.searchRow_ren := {
  mixed := by kernel_rfl
  f16 := Tryd.func82.trans (congrArg some (by kernel_rfl))
  t3 := Tryd.underlying3
  a3 := Tryd.isAgg3
  z3 := Tryd.sizeOf3
  v3 := Tryd.zeroValue3
  t4 := Tryd.underlying4
  a4 := Tryd.isAgg4
  z4 := Tryd.sizeOf4
  v4 := Tryd.zeroValue4
  t35 := Tryd.underlying115
  a35 := Tryd.isAgg115
  z35 := Tryd.sizeOf115
  v35 := Tryd.zeroValue115
  t38 := Tryd.underlying120
  a38 := Tryd.isAgg120
  z38 := Tryd.sizeOf120
  v38 := Tryd.zeroValue120 }
end Go.Proofs
