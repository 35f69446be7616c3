/-
  The blocks of a heap.
-/
import Derived.Test.YtonfdmbcbfpgdaaKit
namespace Go.Proofs.Ytonfdmbcbfpgdaa
/-- The blocks of a heap. -/
def Mine (hb : Nat) (v : Value) (mb : Nat) (k : Nat) : Prop := k = hb ∨ v.ownBlock = some k ∨ k = mb

end Go.Proofs.Ytonfdmbcbfpgdaa
