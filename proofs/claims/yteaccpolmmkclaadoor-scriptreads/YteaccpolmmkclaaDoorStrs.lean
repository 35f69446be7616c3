/-
  Lists of texts in memory; the walk of 'same'.
-/
import Derived.Test.YteaccpolmmkclaaDoorProg
import Derived.WalkKit
import Derived.WalkSpells
import Derived.WalkLawsBesides
import Derived.WalkSmall
namespace Go.Proofs.YteaccpolmmkclaaDoor
open Go.RowKit

/-- The slice at 'a', of capacity c, has the texts ss. -/
def IsStrs (w : World) (a : Option Addr) (c : Nat) (ss : List ByteArray) : Prop :=
  ss.length ≤ c ∧ ss.length ≤ maxLen ∧ (ss = [] ∨ ∃ b o, a = some ⟨b, o, none⟩ ∧ b < w.heap.size ∧ ∀ (j : Nat) x, ss[j]? = some x → w.cell? ⟨b, o + j, none⟩ = some (.string x))

theorem IsStrs.below {w w' : World} {a : Option Addr} {c : Nat} {ss : List ByteArray} (h : IsStrs w a c ss) (hb : Below w.heap.size w w') : IsStrs w' a c ss := by
  obtain ⟨h1, h2, h3⟩ := h
  refine ⟨h1, h2, ?_⟩
  rcases h3 with h | ⟨b, o, ha, hbk, hc⟩
  · exact .inl h
  · exact .inr ⟨b, o, ha, Nat.lt_of_lt_of_le hbk hb.size, fun j x hj => (hb.cell (p := ⟨b, o + j, none⟩) hbk).trans (hc j x hj)⟩

theorem IsStrs.own {w : World} {B e g cap : Nat} {ss : List ByteArray} (h : w.ownsRow B e 1 (.slice (some ⟨g, 0, none⟩) ss.length cap) ss.length (ss.map Value.string)) (hm : ss.length ≤ maxLen) : IsStrs w (some ⟨g, 0, none⟩) cap ss := by
  refine ⟨?_, hm, .inr ⟨g, 0, rfl, (h.lt g rfl).2, fun j x hj => ?_⟩⟩
  · rcases h.2 with ⟨hv, _⟩ | ⟨g', cap', cur, hv, _, _, hx⟩
    · cases hv
    · cases hv; exact hx.1
  · have := h.cells rfl j (.string x) (by simp [hj])
    rw [Nat.zero_add]
    cases j with
    | zero => simpa [Addr.add] using this
    | succ j => simpa [Addr.add] using this
end Go.Proofs.YteaccpolmmkclaaDoor
