/-
  Whose blocks.
-/
import Derived.Test.YtcgpfhkndbggiaaKit
namespace Go.Proofs.Ytcgpfhkndbggiaa
open Go.RowKit

theorem hide {p : Prop} (h : p) : Hid p := h
/-- Its blocks. -/
def Mine (ib : Nat) (v : Value) (k : Nat) : Prop := k = ib ∨ v.ownBlock = some k
end Go.Proofs.Ytcgpfhkndbggiaa
