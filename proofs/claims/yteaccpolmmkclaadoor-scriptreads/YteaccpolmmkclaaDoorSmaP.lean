/-
  Plays that are not too great.
-/
import Derived.Test.YteaccpolmmkclaaDoorHeaA
namespace Go.Proofs.YteaccpolmmkclaaDoor
open Go.RowKit

def SmallP (l : List Sq) : Prop := l.length ≤ 2147483647 ∧ ∀ x ∈ l, x.p.data.length ≤ 2147483647 ∧ x.p.keep.length ≤ 2147483647
end Go.Proofs.YteaccpolmmkclaaDoor
