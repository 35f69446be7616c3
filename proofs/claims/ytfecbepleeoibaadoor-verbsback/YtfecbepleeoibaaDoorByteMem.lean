/-
  Bytes in memory.
-/
import Derived.Test.YtfecbepleeoibaaDoorProg
import Derived.WalkKit
import Derived.WalkSpells
import Derived.WalkLawsBesides
import Derived.WalkSmall
import Derived.Laws.CopyOwn
import Derived.Lib.OthersKept
namespace Go.Proofs.YtfecbepleeoibaaDoor
open Go.RowKit

/-- The slice at 'a', of capacity c, has the bytes l. -/
def IsBytes (w : World) (a : Option Addr) (c : Nat) (l : List UInt8) : Prop :=
  l.length ≤ c ∧ c ≤ maxLen ∧ (l = [] ∨ ∃ b o, a = some ⟨b, o, none⟩ ∧ b < w.heap.size ∧ ∀ (j : Nat) x, l[j]? = some x → w.cell? ⟨b, o + j, none⟩ = some (.int .u8 (x.toNat : Int)))

theorem IsBytes.below {w w' : World} {a : Option Addr} {c : Nat} {l : List UInt8} (h : IsBytes w a c l) (hb : Below w.heap.size w w') : IsBytes w' a c l := by
  obtain ⟨h1, h2, h3⟩ := h
  refine ⟨h1, h2, ?_⟩
  rcases h3 with h | ⟨b, o, ha, hbk, hc⟩
  · exact .inl h
  · exact .inr ⟨b, o, ha, Nat.lt_of_lt_of_le hbk hb.size, fun j x hj => (hb.cell (p := ⟨b, o + j, none⟩) hbk).trans (hc j x hj)⟩
end Go.Proofs.YtfecbepleeoibaaDoor
