/-
  The desk while a pair comes to it: its two lists are not yet alike.
-/
import Derived.Test.YtcgpfhkndbggiaaDeskW2
namespace Go.Proofs.Ytcgpfhkndbggiaa
open Go.RowKit

structure DeskH (w : World) (lab : Nat → Tag) (Db f : Nat) (es : List Ent) (L : List Pr) (xs ys : List Value) (va vb vl : Value) (R : List UInt8) (M T : Nat) (W : World) : Prop where
  held : Held ⟨va, vb, .int .i64 (f : Int), vl⟩ W w.heap.size lab Db f NB es
  below : Below w.heap.size w W
  low : ∀ k, k < w.heap.size → lab k = .user 0
  rowA : W.ownsRow w.heap.size 38 1 va xs.length xs ∧ Tagged lab va (.user 1)
  rowB : W.ownsRow w.heap.size 40 1 vb ys.length ys ∧ Tagged lab vb (.user 2)
  lent : OwnX W w.heap.size vl R ∧ Tagged lab vl (.user 3)
  each : ∀ (i : Nat) p, L[i]? = some p → PrAt W w.heap.size lab T i p
  fle : f ≤ es.length
  small : ∀ (j : Nat) e, es[j]? = some e → e.bytes.length ≤ M
section
variable {w W W1 : World} {lab lab' : Nat → Tag} {Db f : Nat} {es : List Ent} {L : List Pr} {xs ys : List Value} {va vb vl : Value} {R : List UInt8} {M T i : Nat} {p : Pr}
theorem DeskAt.open (h : DeskAt w lab Db f es L va vb vl R M T W) : DeskH w lab Db f es L (pA L) (pB L) va vb vl R M T W :=
  ⟨h.held, h.below, h.low, ⟨by have := h.rowA.1; rwa [show (pA L).length = L.length by simp [pA]], h.rowA.2⟩, ⟨by have := h.rowB.1; rwa [show (pB L).length = L.length by simp [pB]], h.rowB.2⟩, h.lent, h.each, h.fle, h.small⟩
theorem DeskH.shut (h : DeskH w lab Db f es L (pA L) (pB L) va vb vl R M T W) : DeskAt w lab Db f es L va vb vl R M T W :=
  ⟨h.held, h.below, h.low, ⟨by have := h.rowA.1; rwa [show (pA L).length = L.length by simp [pA]] at this, h.rowA.2⟩, ⟨by have := h.rowB.1; rwa [show (pB L).length = L.length by simp [pB]] at this, h.rowB.2⟩, h.lent, h.each, h.fle, h.small⟩
theorem DeskH.box (h : DeskH w lab Db f es L xs ys va vb vl R M T W) : lab Db = .box ∧ w.heap.size ≤ Db ∧ Db < W.heap.size ∧ W.cell? ⟨Db, 0, none⟩ = some va ∧ W.cell? ⟨Db, 1, none⟩ = some vb ∧ ∀ i, W.frozen? ⟨Db, i, none⟩ = false := by
  obtain ⟨vo, vw, hr, _⟩ := h.held
  have := hr.1
  exact ⟨hr.2.1, hr.2.2.1, hr.lt, by simp [World.cell?, this], by simp [World.cell?, this], fun i => by simp [World.frozen?, this]⟩
theorem DeskH.relabel (h : DeskH w lab Db f es L xs ys va vb vl R M T W) (hl : ∀ k, k < W.heap.size → lab' k = lab k) : DeskH w lab' Db f es L xs ys va vb vl R M T W :=
  ⟨h.held.relabel hl, h.below, fun k hk => (hl k (by have := h.below.size; omega)).trans (h.low k hk), ⟨h.rowA.1, h.rowA.2.congr h.rowA.1 hl⟩, ⟨h.rowB.1, h.rowB.2.congr h.rowB.1 hl⟩, ⟨h.lent.1, h.lent.2.congrX h.lent.1 hl⟩, fun i p hp => (h.each i p hp).relabel hl, h.fle, h.small⟩
/-- What turns are blocks of one user, who has none of the others' things. -/
theorem DeskH.user (h : DeskH w lab Db f es L xs ys va vb vl R M T W) {P : Nat → Prop} {u : Nat} (hk : Kept P W W1) (hP : ∀ k, P k → k < W.heap.size → w.heap.size ≤ k ∧ lab k = .user u) (hu : u < 3) :
    Held ⟨va, vb, .int .i64 (f : Int), vl⟩ W1 w.heap.size lab Db f NB es ∧ Below w.heap.size w W1 ∧ (u ≠ 1 → W1.ownsRow w.heap.size 38 1 va xs.length xs) ∧ (u ≠ 2 → W1.ownsRow w.heap.size 40 1 vb ys.length ys) ∧ OwnX W1 w.heap.size vl R ∧ ∀ (i : Nat) p, L[i]? = some p → PrAt W1 w.heap.size lab T i p := by
  have hk2 : Kept (fun k => w.heap.size ≤ k ∧ lab k = .user u) W W1 := hk.mono (fun k hlt hp => hP k hp hlt)
  refine ⟨h.held.kept hk2 (fun k hn hp => hn u hp.2), h.below.trans (hk2.below h.below.size (fun k hk2 hp => by have := hp.1; omega)), fun hne => hk2.own h.rowA.1 (fun g hg hp => ?_), fun hne => hk2.own h.rowB.1 (fun g hg hp => ?_), hk2.OwnX h.lent.1 (fun g hg hp => ?_), fun i p hp => (h.each i p hp).kept hk2 (fun k hl hp => ?_)⟩
  · have := h.rowA.2 g hg; rw [hp.2] at this; simp at this; exact hne this
  · have := h.rowB.2 g hg; rw [hp.2] at this; simp at this; exact hne this
  · have := h.lent.2 g hg; rw [hp.2] at this; simp at this; omega
  · rcases hl with e | e <;> rw [hp.2] at e <;> simp at e <;> omega
theorem DeskH.later (h : DeskH w lab Db f es L xs ys va vb vl R M T W) (hb : Below W.heap.size W W1) : DeskH w lab Db f es L xs ys va vb vl R M T W1 := by
  obtain ⟨h1, h2, h3, h4, h5, h6⟩ := h.user (u := 0) (Kept.ofBelow (P := fun _ => False) hb) (fun _ h => h.elim) (by omega)
  exact ⟨h1, h2, h.low, ⟨h3 (by omega), h.rowA.2⟩, ⟨h4 (by omega), h.rowB.2⟩, ⟨h5, h.lent.2⟩, h6, h.fle, h.small⟩
theorem Held.setX0 {Hb n : Nat} {bx : Bx} {B : Nat} (h : Held bx W B lab Hb f n es) (u : Value) : Held ⟨u, bx.x1, bx.f, bx.x5⟩ (W.setCell ⟨Hb, 0, none⟩ u) B lab Hb f n es ∧ Kept (fun k => k = Hb) W (W.setCell ⟨Hb, 0, none⟩ u) := by
  obtain ⟨vo, vw, hr, hes⟩ := h
  have K : Kept (fun k => k = Hb) W (W.setCell ⟨Hb, 0, none⟩ u) := Kept.setCell _ W Hb 0 u rfl
  refine ⟨⟨vo, vw, ⟨?_, hr.2.1, hr.2.2.1, ⟨K.own hr.2.2.2.1.1 (fun g hg e => ?_), hr.2.2.2.1.2⟩, ⟨K.own hr.2.2.2.2.1 (fun g hg e => ?_), hr.2.2.2.2.2⟩⟩, fun j e he => (hes j e he).kept K (fun k hk e2 => ?_)⟩, K⟩
  · exact (set_cells hr.1 0 u).1
  · have := hr.2.2.2.1.2 g hg; rw [e, hr.2.1] at this; simp at this
  · have := hr.2.2.2.2.2 g hg; rw [e, hr.2.1] at this; simp at this
  · rw [e2, hr.2.1] at hk
    rcases hk with (h | ⟨_, i, _, h⟩ | ⟨_, h⟩) | h <;> simp at h
theorem Held.setX1 {Hb n : Nat} {bx : Bx} {B : Nat} (h : Held bx W B lab Hb f n es) (u : Value) : Held ⟨bx.x0, u, bx.f, bx.x5⟩ (W.setCell ⟨Hb, 1, none⟩ u) B lab Hb f n es ∧ Kept (fun k => k = Hb) W (W.setCell ⟨Hb, 1, none⟩ u) := by
  obtain ⟨vo, vw, hr, hes⟩ := h
  have K : Kept (fun k => k = Hb) W (W.setCell ⟨Hb, 1, none⟩ u) := Kept.setCell _ W Hb 1 u rfl
  refine ⟨⟨vo, vw, ⟨?_, hr.2.1, hr.2.2.1, ⟨K.own hr.2.2.2.1.1 (fun g hg e => ?_), hr.2.2.2.1.2⟩, ⟨K.own hr.2.2.2.2.1 (fun g hg e => ?_), hr.2.2.2.2.2⟩⟩, fun j e he => (hes j e he).kept K (fun k hk e2 => ?_)⟩, K⟩
  · exact (set_cells hr.1 1 u).1
  · have := hr.2.2.2.1.2 g hg; rw [e, hr.2.1] at this; simp at this
  · have := hr.2.2.2.2.2 g hg; rw [e, hr.2.1] at this; simp at this
  · rw [e2, hr.2.1] at hk
    rcases hk with (h | ⟨_, i, _, h⟩ | ⟨_, h⟩) | h <;> simp at h
/-- One pointer more in the first list, and the list laid down. -/
theorem DeskH.pushA (h : DeskH w lab Db f es L xs ys va vb vl R M T W) {va' u : Value} (ho : W1.ownsRow w.heap.size 38 1 va' (xs.length + 1) (xs ++ [u])) (hg : W.grownBy W1 va.ownBlock) (hv : va'.ownBlock = va.ownBlock ∨ va'.ownBlock = some W.heap.size) :
    ∃ lab', DeskH w lab' Db f es L (xs ++ [u]) ys va' vb vl R M T (W1.setCell ⟨Db, 0, none⟩ va') ∧ ∀ k, k < W.heap.size → lab' k = lab k := by
  obtain ⟨lab', hlab⟩ : ∃ lab' : Nat → Tag, lab' = fun k => if k < W.heap.size then lab k else .user 1 := ⟨_, rfl⟩
  have e0 : ∀ k, k < W.heap.size → lab' k = lab k := fun k hk => by rw [hlab]; simp only []; rw [if_pos hk]
  have e1 : ∀ k, W.heap.size ≤ k → lab' k = .user 1 := fun k hk => by rw [hlab]; simp only []; rw [if_neg (by omega)]
  clear hlab
  have g := h.relabel e0
  have tv : Tagged lab' va' (.user 1) := fun q hq => by
    rcases hv with h1 | h1
    · exact g.rowA.2 q (h1.symm.trans hq)
    · rw [h1] at hq
      simp only [Option.some.injEq] at hq
      exact e1 q (by omega)
  obtain ⟨h1, h2, _, h4, h5, h6⟩ := g.user (u := 1) (Kept.ofGrown (P := fun q => some q = va.ownBlock) hg (fun g e => e.symm)) (fun k e _ => ⟨(g.rowA.1.lt k e.symm).1, g.rowA.2 k e.symm⟩) (by omega)
  obtain ⟨hh, K⟩ := h1.setX0 va'
  have hbx := g.box
  have nD : ∀ k j, lab' k = .user j → k ≠ Db := fun k j e e2 => by rw [e2, hbx.1] at e; simp at e
  refine ⟨lab', ⟨hh, h2.trans (K.below (by have := h2.size; omega) (fun k hk2 e => by have := hbx.2.1; omega)), g.low, ⟨?_, tv⟩, ⟨K.own (h4 (by omega)) (fun q hq => nD q 2 (g.rowB.2 q hq)), g.rowB.2⟩, ⟨K.OwnX h5 (fun q hq => nD q 3 (g.lent.2 q hq)), g.lent.2⟩, fun j q hj => (h6 j q hj).kept K (fun k hl e => ?_), g.fle, g.small⟩, e0⟩
  · rw [List.length_append]
    exact K.own ho (fun q hq => nD q 1 (tv q hq))
  · rw [e, hbx.1] at hl
    rcases hl with e | e <;> simp at e
theorem DeskH.pushB (h : DeskH w lab Db f es L xs ys va vb vl R M T W) {vb' u : Value} (ho : W1.ownsRow w.heap.size 40 1 vb' (ys.length + 1) (ys ++ [u])) (hg : W.grownBy W1 vb.ownBlock) (hv : vb'.ownBlock = vb.ownBlock ∨ vb'.ownBlock = some W.heap.size) :
    ∃ lab', DeskH w lab' Db f es L xs (ys ++ [u]) va vb' vl R M T (W1.setCell ⟨Db, 1, none⟩ vb') ∧ ∀ k, k < W.heap.size → lab' k = lab k := by
  obtain ⟨lab', hlab⟩ : ∃ lab' : Nat → Tag, lab' = fun k => if k < W.heap.size then lab k else .user 2 := ⟨_, rfl⟩
  have e0 : ∀ k, k < W.heap.size → lab' k = lab k := fun k hk => by rw [hlab]; simp only []; rw [if_pos hk]
  have e1 : ∀ k, W.heap.size ≤ k → lab' k = .user 2 := fun k hk => by rw [hlab]; simp only []; rw [if_neg (by omega)]
  clear hlab
  have g := h.relabel e0
  have tv : Tagged lab' vb' (.user 2) := fun q hq => by
    rcases hv with h1 | h1
    · exact g.rowB.2 q (h1.symm.trans hq)
    · rw [h1] at hq
      simp only [Option.some.injEq] at hq
      exact e1 q (by omega)
  obtain ⟨h1, h2, h3, _, h5, h6⟩ := g.user (u := 2) (Kept.ofGrown (P := fun q => some q = vb.ownBlock) hg (fun g e => e.symm)) (fun k e _ => ⟨(g.rowB.1.lt k e.symm).1, g.rowB.2 k e.symm⟩) (by omega)
  obtain ⟨hh, K⟩ := h1.setX1 vb'
  have hbx := g.box
  have nD : ∀ k j, lab' k = .user j → k ≠ Db := fun k j e e2 => by rw [e2, hbx.1] at e; simp at e
  refine ⟨lab', ⟨hh, h2.trans (K.below (by have := h2.size; omega) (fun k hk2 e => by have := hbx.2.1; omega)), g.low, ⟨K.own (h3 (by omega)) (fun q hq => nD q 1 (g.rowA.2 q hq)), g.rowA.2⟩, ⟨?_, tv⟩, ⟨K.OwnX h5 (fun q hq => nD q 3 (g.lent.2 q hq)), g.lent.2⟩, fun j q hj => (h6 j q hj).kept K (fun k hl e => ?_), g.fle, g.small⟩, e0⟩
  · rw [List.length_append]
    exact K.own ho (fun q hq => nD q 2 (tv q hq))
  · rw [e, hbx.1] at hl
    rcases hl with e | e <;> simp at e
/-- One pointer of a list is another one now. -/
theorem DeskH.putA {g c : Nat} (h : DeskH w lab Db f es L xs ys (.slice (some ⟨g, 0, none⟩) xs.length c) vb vl R M T W) (k : Nat) (u : Value) : DeskH w lab Db f es L (xs.set k u) ys (.slice (some ⟨g, 0, none⟩) xs.length c) vb vl R M T (W.setCell ⟨g, k, none⟩ u) := by
  have hs := h.rowA.1.stored k u
  obtain ⟨h1, h2, _, h4, h5, h6⟩ := h.user (u := 1) (Kept.ofGrown (P := fun q => q = g) hs.2 (fun q e => by cases e; rfl)) (fun q e _ => by subst e; exact ⟨(h.rowA.1.lt q rfl).1, h.rowA.2 q rfl⟩) (by omega)
  exact ⟨h1, h2, h.low, ⟨by rw [List.length_set]; exact hs.1, h.rowA.2⟩, ⟨h4 (by omega), h.rowB.2⟩, ⟨h5, h.lent.2⟩, h6, h.fle, h.small⟩
theorem DeskH.putB {g c : Nat} (h : DeskH w lab Db f es L xs ys va (.slice (some ⟨g, 0, none⟩) ys.length c) vl R M T W) (k : Nat) (u : Value) : DeskH w lab Db f es L xs (ys.set k u) va (.slice (some ⟨g, 0, none⟩) ys.length c) vl R M T (W.setCell ⟨g, k, none⟩ u) := by
  have hs := h.rowB.1.stored k u
  obtain ⟨h1, h2, h3, _, h5, h6⟩ := h.user (u := 2) (Kept.ofGrown (P := fun q => q = g) hs.2 (fun q e => by cases e; rfl)) (fun q e _ => by subst e; exact ⟨(h.rowB.1.lt q rfl).1, h.rowB.2 q rfl⟩) (by omega)
  exact ⟨h1, h2, h.low, ⟨h3 (by omega), h.rowA.2⟩, ⟨by rw [List.length_set]; exact hs.1, h.rowB.2⟩, ⟨h5, h.lent.2⟩, h6, h.fle, h.small⟩
end
end Go.Proofs.Ytcgpfhkndbggiaa
