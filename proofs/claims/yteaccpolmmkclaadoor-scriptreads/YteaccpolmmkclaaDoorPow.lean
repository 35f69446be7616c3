/-
  The table of powers of ten.
-/
import Derived.Test.YteaccpolmmkclaaDoorProg
import Derived.WalkKit
import Derived.WalkSpells
import Derived.WalkLawsBesides
import Derived.WalkSmall
import Derived.Lib.LaidTab
import Derived.Lib.ItoaLen
namespace Go.Proofs.YteaccpolmmkclaaDoor
open Go.RowKit Go.Lib Go.Sort

theorem gPow : Tryd.prog.globalNamed "internal/strconv.uint64pow10" = some 3 := by kernel_rfl
theorem below_grow (B : Nat) (w : World) (hB : B ≤ w.heap.size) (k : Nat) (os : Array Obj) : Below B w (grow (w.drewN k) os) :=
  ⟨rfl, rfl, rfl, by show w.heap.size ≤ (w.heap ++ os).size; rw [Array.size_append]; omega, fun j hj => by
    show (w.heap ++ os)[j]? = _
    rw [Array.getElem?_append_left (by omega)]⟩
theorem tab_lt {W : World} (h : Lib.TabIs Tryd.prog W "internal/strconv.uint64pow10" .u64 Lib.pow10Tab) : 3 < W.heap.size := by
  unfold Lib.TabIs World.var? at h
  simp only [gPow, Option.bind_some] at h
  rcases hx : W.heap[3]? with _ | o
  · simp [hx] at h
  · exact (Array.getElem?_eq_some_iff.1 hx).1
theorem tab_below {W W' : World} (hb : Below W.heap.size W W') (h : Lib.TabIs Tryd.prog W "internal/strconv.uint64pow10" .u64 Lib.pow10Tab) :
    Lib.TabIs Tryd.prog W' "internal/strconv.uint64pow10" .u64 Lib.pow10Tab := var?_below hb gPow (tab_lt h) h
end Go.Proofs.YteaccpolmmkclaaDoor
