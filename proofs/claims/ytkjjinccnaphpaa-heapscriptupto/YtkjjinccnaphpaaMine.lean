/-
  The blocks of a heap.
-/
import Derived.Test.YtkjjinccnaphpaaKit
namespace Go.Proofs.Ytkjjinccnaphpaa
/-- The blocks of a heap. -/
def Mine (hb : Nat) (v : Value) (mb : Nat) (k : Nat) : Prop := k = hb ∨ v.ownBlock = some k ∨ k = mb

end Go.Proofs.Ytkjjinccnaphpaa
