/-
  The desk of IntakeScript: some intakes, the document's beside them, the book of bodies, what is lent.
-/
import Derived.Test.YtcgpfhkndbggiaaDWrite
import Derived.Test.YtcgpfhkndbggiaaOwnZ
import Derived.Test.YtcgpfhkndbggiaaRIn5
import Derived.Test.YtcgpfhkndbggiaaRIn6
import Derived.Test.YtcgpfhkndbggiaaCalls
import Derived.Test.YtcgpfhkndbggiaaShown
namespace Go.Proofs.Ytcgpfhkndbggiaa
open Go.RowKit

/-- A pair: the program's intake and the document's. -/
structure Pr where
  ib : Nat
  iv : Value
  s : In
  rb : Nat
  rv : Value
  t : In
def pA (L : List Pr) : List Value := L.map fun p => .pointer (some ⟨p.ib, 0, none⟩)
def pB (L : List Pr) : List Value := L.map fun p => .pointer (some ⟨p.rb, 0, none⟩)
abbrev NB : Nat := 100000000
/-- The pair at place i in memory. -/
structure PrAt (W : World) (B : Nat) (lab : Nat → Tag) (T i : Nat) (p : Pr) : Prop where
  inA : InAt W p.ib p.iv p.s
  fit : p.s.Fit
  most : p.s.most ≤ 65535
  mineA : ∀ k, Mine p.ib p.iv k → B ≤ k ∧ lab k = .user (2 * i + 10)
  inB : RfAt W p.rb p.rv p.t
  mineB : ∀ k, Mine p.rb p.rv k → B ≤ k ∧ lab k = .user (2 * i + 11)
  len : p.s.held.length ≤ T
/-- The desk at Db; w: the world in which the statement began. -/
structure DeskAt (w : World) (lab : Nat → Tag) (Db f : Nat) (es : List Ent) (L : List Pr) (va vb vl : Value) (R : List UInt8) (M T : Nat) (W : World) : Prop where
  held : Held ⟨va, vb, .int .i64 (f : Int), vl⟩ W w.heap.size lab Db f NB es
  below : Below w.heap.size w W
  low : ∀ k, k < w.heap.size → lab k = .user 0
  rowA : W.ownsRow w.heap.size 38 1 va L.length (pA L) ∧ Tagged lab va (.user 1)
  rowB : W.ownsRow w.heap.size 40 1 vb L.length (pB L) ∧ Tagged lab vb (.user 2)
  lent : OwnX W w.heap.size vl R ∧ Tagged lab vl (.user 3)
  each : ∀ (i : Nat) p, L[i]? = some p → PrAt W w.heap.size lab T i p
  fle : f ≤ es.length
  small : ∀ (j : Nat) e, es[j]? = some e → e.bytes.length ≤ M
section
variable {w W W1 : World} {lab lab' : Nat → Tag} {Db f : Nat} {es : List Ent} {L : List Pr} {va vb vl : Value} {R : List UInt8} {M T i : Nat} {p : Pr}
theorem PrAt.kept {P : Nat → Prop} {B : Nat} (h : PrAt W B lab T i p) (hk : Kept P W W1) (hP : ∀ k, lab k = .user (2 * i + 10) ∨ lab k = .user (2 * i + 11) → ¬ P k) : PrAt W1 B lab T i p :=
  ⟨h.inA.kept hk (fun k hm => hP k (.inl (h.mineA k hm).2)), h.fit, h.most, h.mineA, h.inB.kept hk (fun k hm => hP k (.inr (h.mineB k hm).2)), h.mineB, h.len⟩
theorem PrAt.relabel {B : Nat} (h : PrAt W B lab T i p) (hl : ∀ k, k < W.heap.size → lab' k = lab k) : PrAt W B lab' T i p :=
  ⟨h.inA, h.fit, h.most, fun k hm => ⟨(h.mineA k hm).1, (hl k (h.inA.lt k hm)).trans (h.mineA k hm).2⟩, h.inB, fun k hm => ⟨(h.mineB k hm).1, (hl k (h.inB.lt k hm)).trans (h.mineB k hm).2⟩, h.len⟩
theorem Tagged.congrX {B : Nat} {v : Value} {l : List UInt8} {t : Tag} (h : Tagged lab v t) (ho : OwnX W B v l) (hl : ∀ k, k < W.heap.size → lab' k = lab k) : Tagged lab' v t := fun g hg => (hl g (ho.lt g hg).2).trans (h g hg)
theorem tagged_relabel {v : Value} {t : Tag} {B e n : Nat} {xs : List Value} (h : Tagged lab v t) (ho : W.ownsRow B e 1 v n xs) (hl : ∀ k, k < W.heap.size → lab' k = lab k) : Tagged lab' v t := h.congr ho hl
theorem DeskAt.relabel (h : DeskAt w lab Db f es L va vb vl R M T W) (hl : ∀ k, k < W.heap.size → lab' k = lab k) : DeskAt w lab' Db f es L va vb vl R M T W :=
  ⟨h.held.relabel hl, h.below, fun k hk => (hl k (by have := h.below.size; omega)).trans (h.low k hk), ⟨h.rowA.1, h.rowA.2.congr h.rowA.1 hl⟩, ⟨h.rowB.1, h.rowB.2.congr h.rowB.1 hl⟩, ⟨h.lent.1, h.lent.2.congrX h.lent.1 hl⟩, fun i p hp => (h.each i p hp).relabel hl, h.fle, h.small⟩
/-- What turns is some user's, none of ours. -/
theorem DeskAt.kept {P : Nat → Prop} (h : DeskAt w lab Db f es L va vb vl R M T W) (hk : Kept P W W1) (hP : ∀ k, P k → k < W.heap.size → w.heap.size ≤ k ∧ lab k = .user 0) : DeskAt w lab Db f es L va vb vl R M T W1 := by
  have hk2 : Kept (fun k => w.heap.size ≤ k ∧ lab k = .user 0) W W1 := hk.mono (fun k hlt hp => hP k hp hlt)
  refine ⟨h.held.kept hk2 (fun k hn hp => hn 0 hp.2), h.below.trans (hk2.below h.below.size (fun k hk2 hp => by have := hp.1; omega)), h.low, ⟨hk2.own h.rowA.1 (fun g hg hp => ?_), h.rowA.2⟩, ⟨hk2.own h.rowB.1 (fun g hg hp => ?_), h.rowB.2⟩, ⟨hk2.OwnX h.lent.1 (fun g hg hp => ?_), h.lent.2⟩, fun i p hp => (h.each i p hp).kept hk2 (fun k hl hp => ?_), h.fle, h.small⟩
  · have := h.rowA.2 g hg; rw [hp.2] at this; simp at this
  · have := h.rowB.2 g hg; rw [hp.2] at this; simp at this
  · have := h.lent.2 g hg; rw [hp.2] at this; simp at this
  · rcases hl with e | e <;> rw [hp.2] at e <;> simp at e
theorem DeskAt.later (h : DeskAt w lab Db f es L va vb vl R M T W) (hb : Below W.heap.size W W1) : DeskAt w lab Db f es L va vb vl R M T W1 := h.kept (Kept.ofBelow (P := fun _ => False) hb) (fun _ h => h.elim)
/-- The desk's cells. -/
theorem DeskAt.cells (h : DeskAt w lab Db f es L va vb vl R M T W) : W.cell? ⟨Db, 0, none⟩ = some va ∧ W.cell? ⟨Db, 1, none⟩ = some vb ∧ W.cell? ⟨Db, 5, none⟩ = some vl ∧ (∀ i, W.frozen? ⟨Db, i, none⟩ = false) ∧ Db < W.heap.size := by
  obtain ⟨vo, vw, hr, _⟩ := h.held
  have := hr.1
  exact ⟨by simp [World.cell?, this], by simp [World.cell?, this], by simp [World.cell?, this], fun i => by simp [World.frozen?, this], hr.lt⟩
/-- The program's intake at place i has been called. -/
theorem DeskAt.turnA (h : DeskAt w lab Db f es L va vb vl R M T W) (hi : L[i]? = some p) {iv1 : Value} {s1 : In} (hin : InAt W1 p.ib iv1 s1) (hk : Kept (Mine p.ib p.iv) W W1) (hm : ∀ k, Mine p.ib iv1 k → Mine p.ib p.iv k ∨ W.heap.size ≤ k) (hf : s1.Fit) (hmo : s1.most ≤ 65535) (hT : s1.held.length ≤ T) (t0 : Tag)
    : ∃ lab1 : Nat → Tag, DeskAt w lab1 Db f es (L.set i { p with iv := iv1, s := s1 }) va vb vl R M T W1 ∧ (∀ k, k < W.heap.size → lab1 k = lab k) ∧ ∀ k, W.heap.size ≤ k → ¬ Mine p.ib iv1 k → lab1 k = t0 := by
  classical
  have hp := h.each i p hi
  obtain ⟨lab1, hlab1⟩ : ∃ lab1 : Nat → Tag, lab1 = fun k => if k < W.heap.size then lab k else if Mine p.ib iv1 k then .user (2 * i + 10) else t0 := ⟨_, rfl⟩
  have e0 : ∀ k, k < W.heap.size → lab1 k = lab k := fun k hk => by rw [hlab1]; simp only []; rw [if_pos hk]
  have e1 : ∀ k, W.heap.size ≤ k → Mine p.ib iv1 k → lab1 k = .user (2 * i + 10) := fun k hk hm => by rw [hlab1]; simp only []; rw [if_neg (by omega), if_pos hm]
  have e2 : ∀ k, W.heap.size ≤ k → ¬ Mine p.ib iv1 k → lab1 k = t0 := fun k hk hm => by rw [hlab1]; simp only []; rw [if_neg (by omega), if_neg hm]
  clear hlab1
  have g := h.relabel e0
  have hmk : ∀ k, Mine p.ib p.iv k → w.heap.size ≤ k ∧ lab1 k = .user (2 * i + 10) := fun k hm => ⟨(hp.mineA k hm).1, (e0 k (hp.inA.lt k hm)).trans (hp.mineA k hm).2⟩
  have hil := (List.getElem?_eq_some_iff.1 hi).1
  refine ⟨lab1, ⟨g.held.kept hk (fun k hn hm => hn _ (hmk k hm).2), g.below.trans (hk.below g.below.size (fun k hk2 hm => by have := (hmk k hm).1; omega)), g.low, ⟨?_, g.rowA.2⟩, ⟨?_, g.rowB.2⟩, ⟨hk.OwnX g.lent.1 (fun q hq hm => ?_), g.lent.2⟩, fun j q hj => ?_, g.fle, g.small⟩, e0, e2⟩
  · have e : pA (L.set i { p with iv := iv1, s := s1 }) = pA L := by
      unfold pA
      rw [List.map_set, set_same _ _ _ (by simp [hi])]
    rw [List.length_set, e]
    refine hk.own g.rowA.1 (fun q hq hm => ?_)
    have := g.rowA.2 q hq; rw [(hmk q hm).2] at this; simp at this
  · have e : pB (L.set i { p with iv := iv1, s := s1 }) = pB L := by
      unfold pB
      rw [List.map_set, set_same _ _ _ (by simp [hi])]
    rw [List.length_set, e]
    refine hk.own g.rowB.1 (fun q hq hm => ?_)
    have := g.rowB.2 q hq; rw [(hmk q hm).2] at this; simp at this
  · have := g.lent.2 q hq; rw [(hmk q hm).2] at this; simp at this
  · by_cases hji : j = i
    · subst hji
      rw [List.getElem?_set_self hil] at hj
      obtain rfl := Option.some.inj hj
      have gp := g.each j p hi
      refine ⟨hin, hf, hmo, fun k hm1 => ?_, gp.inB.kept hk (fun k hb hm => ?_), gp.mineB, hT⟩
      · rcases hm k hm1 with h1 | h1
        · exact hmk k h1
        · exact ⟨by have := h.below.size; omega, e1 k h1 hm1⟩
      · have := (gp.mineB k hb).2; rw [(hmk k hm).2] at this; simp at this
    · rw [List.getElem?_set_ne (fun e => hji e.symm)] at hj
      exact (g.each j q hj).kept hk (fun k hl hm => by
        rw [(hmk k hm).2] at hl
        rcases hl with e | e <;> simp at e <;> omega)
/-- The document's intake at place i has been called. -/
theorem DeskAt.turnB (h : DeskAt w lab Db f es L va vb vl R M T W) (hi : L[i]? = some p) {s1 : In} (hw : WentR W p.rb p.rv s1 W1) :
    ∃ (lab1 : Nat → Tag) (rv1 : Value), DeskAt w lab1 Db f es (L.set i { p with rv := rv1, t := s1 }) va vb vl R M T W1 ∧ (∀ k, k < W.heap.size → lab1 k = lab k) ∧ ∀ k, W.heap.size ≤ k → ¬ Mine p.rb rv1 k → lab1 k = .user 0 := by
  classical
  obtain ⟨rv1, hin, hk, hm⟩ := hw
  have hp := h.each i p hi
  obtain ⟨lab1, hlab1⟩ : ∃ lab1 : Nat → Tag, lab1 = fun k => if k < W.heap.size then lab k else if Mine p.rb rv1 k then .user (2 * i + 11) else .user 0 := ⟨_, rfl⟩
  have e0 : ∀ k, k < W.heap.size → lab1 k = lab k := fun k hk => by rw [hlab1]; simp only []; rw [if_pos hk]
  have e1 : ∀ k, W.heap.size ≤ k → Mine p.rb rv1 k → lab1 k = .user (2 * i + 11) := fun k hk hm => by rw [hlab1]; simp only []; rw [if_neg (by omega), if_pos hm]
  have e2 : ∀ k, W.heap.size ≤ k → ¬ Mine p.rb rv1 k → lab1 k = .user 0 := fun k hk hm => by rw [hlab1]; simp only []; rw [if_neg (by omega), if_neg hm]
  clear hlab1
  have g := h.relabel e0
  have hmk : ∀ k, Mine p.rb p.rv k → w.heap.size ≤ k ∧ lab1 k = .user (2 * i + 11) := fun k hm => ⟨(hp.mineB k hm).1, (e0 k (hp.inB.lt k hm)).trans (hp.mineB k hm).2⟩
  have hil := (List.getElem?_eq_some_iff.1 hi).1
  refine ⟨lab1, rv1, ⟨g.held.kept hk (fun k hn hm => hn _ (hmk k hm).2), g.below.trans (hk.below g.below.size (fun k hk2 hm => by have := (hmk k hm).1; omega)), g.low, ⟨?_, g.rowA.2⟩, ⟨?_, g.rowB.2⟩, ⟨hk.OwnX g.lent.1 (fun q hq hm => ?_), g.lent.2⟩, fun j q hj => ?_, g.fle, g.small⟩, e0, e2⟩
  · have e : pA (L.set i { p with rv := rv1, t := s1 }) = pA L := by
      unfold pA
      rw [List.map_set, set_same _ _ _ (by simp [hi])]
    rw [List.length_set, e]
    refine hk.own g.rowA.1 (fun q hq hm => ?_)
    have := g.rowA.2 q hq; rw [(hmk q hm).2] at this; simp at this
  · have e : pB (L.set i { p with rv := rv1, t := s1 }) = pB L := by
      unfold pB
      rw [List.map_set, set_same _ _ _ (by simp [hi])]
    rw [List.length_set, e]
    refine hk.own g.rowB.1 (fun q hq hm => ?_)
    have := g.rowB.2 q hq; rw [(hmk q hm).2] at this; simp at this
  · have := g.lent.2 q hq; rw [(hmk q hm).2] at this; simp at this
  · by_cases hji : j = i
    · subst hji
      rw [List.getElem?_set_self hil] at hj
      obtain rfl := Option.some.inj hj
      have gp := g.each j p hi
      refine ⟨gp.inA.kept hk (fun k ha hm => ?_), gp.fit, gp.most, gp.mineA, hin, fun k hm1 => ?_, gp.len⟩
      · have := (gp.mineA k ha).2; rw [(hmk k hm).2] at this; simp at this
      · rcases hm k hm1 with h1 | h1
        · exact hmk k h1
        · exact ⟨by have := h.below.size; omega, e1 k h1 hm1⟩
    · rw [List.getElem?_set_ne (fun e => hji e.symm)] at hj
      exact (g.each j q hj).kept hk (fun k hl hm => by
        rw [(hmk k hm).2] at hl
        rcases hl with e | e <;> simp at e <;> omega)
end
end Go.Proofs.Ytcgpfhkndbggiaa
