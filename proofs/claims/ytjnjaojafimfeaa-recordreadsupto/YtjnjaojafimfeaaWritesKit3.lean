/-
  What the walk of RecordWrites holds on to behind its loop.
-/
import Derived.Test.YtjnjaojafimfeaaWritesKit2
import Derived.Test.YtjnjaojafimfeaaBSpoil
namespace Go.Proofs.Ytjnjaojafimfeaa
open Go.RowKit

section
variable {w W W' : World} {lab lab' : Nat → Tag} {Hb : Nat} {es : List Ent} {b2 b3 ib ob nb : Nat} {r s : Rec} {v2 v3 vi u : Value} {row : List UInt8} {M : Nat}
/-- What comes from now on is nobody's. -/
theorem Wr.fresh (h : Wr w lab Hb es b2 b3 ib ob r s v2 v3 vi row M W) : Wr w (fun k => if k < W.heap.size then lab k else .user 0) Hb es b2 b3 ib ob r s v2 v3 vi row M W := by
  refine ⟨h.held.relabel (fun k hk => if_pos hk), h.below, h.h2, h.h3, h.hi, h.hrow, fun k hk => ?_, h.len, h.most⟩
  by_cases e : k < W.heap.size
  · rw [if_pos e]
    exact h.usr k hk
  · exact if_neg e
theorem RecAt.set18 (h : RecAt W nb r u) (v : Value) : RecAt (W.setCell ⟨nb, 18, none⟩ v) nb r v ∧ Kept (fun k => k = nb) W (W.setCell ⟨nb, 18, none⟩ v) := by
  have h' : W.heap[nb]? = some (.cells (recA r u) 34 (0, 0)) := h
  obtain ⟨s1, s2⟩ := set_cells h' 18 v
  refine ⟨?_, Kept.ofGrown s2 (fun g e => by cases e; rfl)⟩
  unfold RecAt
  rw [s1]
  rfl
theorem Wr.poke (h : Wr w lab Hb es b2 b3 ib ob r s v2 v3 vi row M W) (K : Kept (fun k => k = nb) W W') (hu : lab nb = .user 0) (hne : nb ≠ b2 ∧ nb ≠ b3 ∧ nb ≠ ib ∧ nb ≠ ob ∧ w.heap.size ≤ nb) : Wr w lab Hb es b2 b3 ib ob r s v2 v3 vi row M W' := by
  obtain ⟨n2, n3, ni, no, nw⟩ := hne
  exact ⟨h.held.kept K (fun k hk e => hk 0 (by rw [e]; exact hu)), h.below.trans (K.below h.below.size (fun k hk e => by omega)), (K.block b2 h.h2.lt (fun e => n2 e.symm)).trans h.h2, (K.block b3 h.h3.lt (fun e => n3 e.symm)).trans h.h3, (K.block ib h.hi.lt (fun e => ni e.symm)).trans h.hi, h.hrow.blk (K.block ob h.hrow.lt' (fun e => no e.symm)), h.usr, h.len, h.most⟩
theorem Wr.spoil (h : Wr w lab Hb es b2 b3 ib ob r s v2 v3 vi row M W) (hM : M ≤ 4294967296) :
    Calls Try.prog 21 #[.pointer (some ⟨Hb, 0, none⟩)] W fun e w' => e = .returned (.bool true) ∧ Below w.heap.size w w' := by
  refine (spoil_any W w.heap.size lab Hb es h.held h.below.size (by have := h.len; omega) (fun j e he => by have := h.most j e he; omega)).mono ?_
  rintro e w' ⟨rfl, hk⟩
  exact ⟨rfl, h.below.trans (hk.below h.below.size (fun k hk2 hn => hn 0 (h.usr k (.inl hk2))))⟩
theorem below_of_none (h : W.grownBy W' none) : Below W.heap.size W W' := (Kept.ofGrown (P := fun _ => False) h (fun g e => by cases e)).below (Nat.le_refl _) (fun _ _ h => h)
theorem Fr.new {lo B : Nat} {v : Value} {l : List UInt8} (h : Own W lo v l) (hB : B ≤ lo) (ht : ∀ k, lo ≤ k → lab k = .user 0) : Fr lab B lo W.heap.size W v l :=
  ⟨h.mono hB, fun g hg => ht g (h.lt g hg).1, fun k hk => h.lt k hk⟩
end
end Go.Proofs.Ytjnjaojafimfeaa
