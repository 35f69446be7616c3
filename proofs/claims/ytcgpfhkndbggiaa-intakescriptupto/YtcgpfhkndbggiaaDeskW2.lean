/-
  The desk: the walk of feed.
-/
import Derived.Test.YtcgpfhkndbggiaaDeskW1
import Derived.Test.YtcgpfhkndbggiaaRIn3
namespace Go.Proofs.Ytcgpfhkndbggiaa
open Go.RowKit

section
variable {w W W1 : World} {lab : Nat → Tag} {Db f : Nat} {es : List Ent} {L : List Pr} {va vb vl : Value} {R : List UInt8} {M T i : Nat} {p : Pr}
theorem Held.setX5 {Hb n : Nat} {bx : Bx} {B : Nat} (h : Held bx W B lab Hb f n es) (u : Value) : Held ⟨bx.x0, bx.x1, bx.f, u⟩ (W.setCell ⟨Hb, 5, none⟩ u) B lab Hb f n es ∧ Kept (fun k => k = Hb) W (W.setCell ⟨Hb, 5, none⟩ u) := by
  obtain ⟨vo, vw, hr, hes⟩ := h
  have K : Kept (fun k => k = Hb) W (W.setCell ⟨Hb, 5, none⟩ u) := Kept.setCell _ W Hb 5 u rfl
  refine ⟨⟨vo, vw, ⟨?_, hr.2.1, hr.2.2.1, ⟨K.own hr.2.2.2.1.1 (fun g hg e => ?_), hr.2.2.2.1.2⟩, ⟨K.own hr.2.2.2.2.1 (fun g hg e => ?_), hr.2.2.2.2.2⟩⟩, fun j e he => (hes j e he).kept K (fun k hk e2 => ?_)⟩, K⟩
  · exact (set_cells hr.1 5 u).1
  · have := hr.2.2.2.1.2 g hg; rw [e, hr.2.1] at this; simp at this
  · have := hr.2.2.2.2.2 g hg; rw [e, hr.2.1] at this; simp at this
  · rw [e2, hr.2.1] at hk
    rcases hk with (h | ⟨_, i, _, h⟩ | ⟨_, h⟩) | h <;> simp at h
/-- The desk's own block is nobody's else. -/
theorem DeskAt.box (h : DeskAt w lab Db f es L va vb vl R M T W) : lab Db = .box ∧ w.heap.size ≤ Db := by
  obtain ⟨vo, vw, hr, _⟩ := h.held
  exact ⟨hr.2.1, hr.2.2.1⟩
/-- What is lent is another list now, in the old memory or in new one. -/
theorem DeskAt.lend (h : DeskAt w lab Db f es L va vb vl R M T W) (hk : Kept (fun q => some q = vl.ownBlock) W W1) {v2 : Value} {R2 : List UInt8} (o2 : OwnX W1 w.heap.size v2 R2) (hv : ∀ g, v2.ownBlock = some g → vl.ownBlock = some g ∨ W.heap.size ≤ g) :
    ∃ lab1 : Nat → Tag, DeskAt w lab1 Db f es L va vb v2 R2 M T (W1.setCell ⟨Db, 5, none⟩ v2) := by
  obtain ⟨lab1, hlab1⟩ : ∃ lab1 : Nat → Tag, lab1 = fun k => if k < W.heap.size then lab k else .user 3 := ⟨_, rfl⟩
  have e0 : ∀ k, k < W.heap.size → lab1 k = lab k := fun k hk => by rw [hlab1]; simp only []; rw [if_pos hk]
  have e1 : ∀ k, W.heap.size ≤ k → lab1 k = .user 3 := fun k hk => by rw [hlab1]; simp only []; rw [if_neg (by omega)]
  clear hlab1
  have g := h.relabel e0
  have hu : ∀ k, some k = vl.ownBlock → lab1 k = .user 3 ∧ w.heap.size ≤ k := fun k e => ⟨g.lent.2 k e.symm, (g.lent.1.lt k e.symm).1⟩
  have hD := h.cells.2.2.2.2
  have hbx := g.box
  obtain ⟨hh, K⟩ := (g.held.kept hk (fun k hn e => hn 3 (hu k e).1)).setX5 v2
  have nD : ∀ k j, lab1 k = .user j → k ≠ Db := fun k j e e2 => by rw [e2, hbx.1] at e; simp at e
  refine ⟨lab1, hh, (g.below.trans (hk.below g.below.size (fun k hk2 e => by have := (hu k e).2; omega))).trans (K.below (by have := hk.size; have := g.below.size; omega) (fun k hk2 e => by have := hbx.2; omega)), g.low, ⟨K.own (hk.own g.rowA.1 (fun q hq e => ?_)) (fun q hq => nD q 1 (g.rowA.2 q hq)), g.rowA.2⟩, ⟨K.own (hk.own g.rowB.1 (fun q hq e => ?_)) (fun q hq => nD q 2 (g.rowB.2 q hq)), g.rowB.2⟩, ⟨K.OwnX o2 (fun q hq e => ?_), fun q hq => ?_⟩, fun j q hj => ((g.each j q hj).kept hk (fun k hl e => ?_)).kept K (fun k hl e => ?_), g.fle, g.small⟩
  · have := g.rowA.2 q hq; rw [(hu q e.symm.symm).1] at this; simp at this
  · have := g.rowB.2 q hq; rw [(hu q e).1] at this; simp at this
  · rcases hv q hq with h1 | h1
    · have := (hu q h1.symm).1; rw [e, hbx.1] at this; simp at this
    · omega
  · rcases hv q hq with h1 | h1
    · exact (hu q h1.symm).1
    · exact e1 q h1
  · rw [(hu k e).1] at hl
    rcases hl with e | e <;> simp at e <;> omega
  · rw [e, hbx.1] at hl
    rcases hl with e | e <;> simp at e
/-- A byte of what is lent is written. -/
theorem DeskAt.spot {g c n : Nat} (h : DeskAt w lab Db f es L va vb (.slice (some ⟨g, 0, none⟩) n c) R M T W) (j : Nat) (x : UInt8) (hj : j < R.length) : DeskAt w lab Db f es L va vb (.slice (some ⟨g, 0, none⟩) n c) (R.set j x) M T (W.setCell ⟨g, j, none⟩ (.int .u8 (x.toNat : Int))) := by
  have hk : Kept (fun q => q = g) W (W.setCell ⟨g, j, none⟩ (.int .u8 (x.toNat : Int))) := Kept.setCell _ _ _ _ _ rfl
  have hg := h.lent.2 g rfl
  have hgB := (h.lent.1.lt g rfl).1
  refine ⟨h.held.kept hk (fun k hn e => hn 3 (by rw [e]; exact hg)), h.below.trans (hk.below h.below.size (fun k hk2 e => by omega)), h.low, ⟨hk.own h.rowA.1 (fun q hq e => ?_), h.rowA.2⟩, ⟨hk.own h.rowB.1 (fun q hq e => ?_), h.rowB.2⟩, ⟨h.lent.1.set j x hj, h.lent.2⟩, fun i p hp => (h.each i p hp).kept hk (fun k hl e => ?_), h.fle, h.small⟩
  · have := h.rowA.2 q hq; rw [e, hg] at this; simp at this
  · have := h.rowB.2 q hq; rw [e, hg] at this; simp at this
  · rw [e, hg] at hl
    rcases hl with e | e <;> simp at e <;> omega
end
def behindL : List UInt8 := [98, 101, 104, 105, 110, 100]
end Go.Proofs.Ytcgpfhkndbggiaa
