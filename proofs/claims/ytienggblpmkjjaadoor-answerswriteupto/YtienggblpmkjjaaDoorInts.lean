/-
  Numbers that are handed in.
-/
import Derived.Test.YtienggblpmkjjaaDoorKit
namespace Go.Proofs.YtienggblpmkjjaaDoor
open Go.RowKit

/-- The slice at 'a', of capacity c, has the numbers l. -/
def IsInts (w : World) (a : Option Addr) (c : Nat) (l : List Int) : Prop :=
  l.length ≤ c ∧ c ≤ maxLen ∧ (∀ x ∈ l, -9223372036854775808 ≤ x ∧ x ≤ 9223372036854775807) ∧ (l = [] ∨ ∃ b o, a = some ⟨b, o, none⟩ ∧ b < w.heap.size ∧ ∀ (j : Nat) x, l[j]? = some x → w.cell? ⟨b, o + j, none⟩ = some (.int .i64 x))
theorem IsInts.cell {w : World} {a : Option Addr} {c : Nat} {l : List Int} (h : IsInts w a c l) {j : Nat} {x : Int} (hx : l[j]? = some x) : ∃ b o, a = some ⟨b, o, none⟩ ∧ w.cell? ⟨b, o + j, none⟩ = some (.int .i64 x) := by
  rcases h.2.2.2 with rfl | ⟨b, o, ha, _, hc⟩
  · simp at hx
  · exact ⟨b, o, ha, hc j x hx⟩
theorem IsInts.block {w w' : World} {a : Option Addr} {c : Nat} {l : List Int} (h : IsInts w a c l) (hs : w.heap.size ≤ w'.heap.size) (hb : ∀ b o, a = some ⟨b, o, none⟩ → b < w.heap.size → l ≠ [] → w'.heap[b]? = w.heap[b]?) : IsInts w' a c l := by
  obtain ⟨h1, h2, h3, h4⟩ := h
  refine ⟨h1, h2, h3, ?_⟩
  by_cases hl : l = []
  · exact .inl hl
  rcases h4 with h | ⟨b, o, ha, hbk, hc⟩
  · exact .inl h
  · exact .inr ⟨b, o, ha, by omega, fun j x hj => (World.cell?_of_block (hb b o ha hbk hl)).trans (hc j x hj)⟩
theorem IsInts.below {w w' : World} {a : Option Addr} {c : Nat} {l : List Int} (h : IsInts w a c l) (hb : Below w.heap.size w w') : IsInts w' a c l := h.block hb.size (fun b _ _ hlt _ => hb.block b hlt)
end Go.Proofs.YtienggblpmkjjaaDoor
