/-
  What a step of the desk has behind its first region.
-/
import Derived.Test.YtccpaapbgdpghaaDrawQ
import Derived.Test.YtccpaapbgdpghaaPick
namespace Go.Proofs.Ytccpaapbgdpghaa
open Go.RowKit

/-- One of the pairs lies in a box of its own. -/
def Picked (W1 : World) (P : List Pq) (bp : Nat) (W : World) : Prop := Below W1.heap.size W1 W ∧ ∃ (i : Nat) (p : Pq), P[i]? = some p ∧ W.heap[bp]? = some (.cells #[.pointer (some ⟨p.qb, 0, none⟩), .pointer (some ⟨p.rb, 0, none⟩)] 36 (0, 0))
theorem Picked.mk' {W1 W : World} {P : List Pq} {bp : Nat} {y : Ref3} (hb : Below W1.heap.size W1 W) (hy : LIn P y) (hx : W.heap[bp]? = some (.cells #[.pointer (some ⟨y.1, 0, none⟩), .pointer (some ⟨y.2.1, 0, none⟩)] 36 (0, 0))) : Picked W1 P bp W := by
  obtain ⟨p, h1, h2, h3⟩ := hy
  exact ⟨hb, y.2.2, p, h1, by rw [h2, h3]; exact hx⟩
theorem drawnQ (w : World) : Below w.heap.size w w.drew := ⟨rfl, rfl, rfl, Nat.le_refl _, fun _ _ => rfl⟩
end Go.Proofs.Ytccpaapbgdpghaa
