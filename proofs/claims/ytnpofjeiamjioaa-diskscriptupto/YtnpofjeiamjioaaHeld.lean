/-
  Lists of bytes that were handed out, kept side by side with what they must read as: whose block is whose.
-/
import Derived.Test.YtnpofjeiamjioaaHStore
import Derived.Test.YtnpofjeiamjioaaKit
import Derived.Deep.WholeRow
namespace Go.Proofs.Ytnpofjeiamjioaa
open Go.RowKit

/-- Whose block. -/
structure Tag where
  kind : Nat
  num : Nat
abbrev Tag.box : Tag := ⟨0, 0⟩
abbrev Tag.outs : Tag := ⟨1, 0⟩
abbrev Tag.wants : Tag := ⟨2, 0⟩
abbrev Tag.out (i : Nat) : Tag := ⟨3, i⟩
abbrev Tag.want (i : Nat) : Tag := ⟨4, i⟩
abbrev Tag.user (i : Nat) : Tag := ⟨5, i⟩

theorem Kept.Own {P : Nat → Prop} {w w1 : World} {B : Nat} {v : Value} {l : List UInt8} (h : Kept P w w1) (ho : Own w B v l) (hP : ∀ g, v.ownBlock = some g → ¬ P g) : Own w1 B v l := Kept.own h ho hP

/-- A slice's block bears a tag. -/
def Tagged (lab : Nat → Tag) (v : Value) (t : Tag) : Prop := ∀ g, v.ownBlock = some g → lab g = t
/-- One entry. -/
structure Ent where
  out : Value
  want : Value
  bytes : List UInt8

/-- The struct and its two lists. -/
def HRows (w : World) (B : Nat) (lab : Nat → Tag) (Hb : Nat) (vo vw : Value) (os ws : List Value) : Prop :=
  w.heap[Hb]? = some (.cells #[vo, vw] 74) ∧ lab Hb = .box ∧ B ≤ Hb ∧ (w.ownsRow B 37 1 vo os.length os ∧ Tagged lab vo .outs) ∧ (w.ownsRow B 37 1 vw ws.length ws ∧ Tagged lab vw .wants)
/-- One entry's bytes. -/
def EntAt (w : World) (B : Nat) (lab : Nat → Tag) (n j : Nat) (e : Ent) : Prop :=
  (Own w B e.out e.bytes ∧ ∀ g, e.out.ownBlock = some g → lab g = .out j ∨ (n ≤ j ∧ lab g = .out (j - n))) ∧ (Own w B e.want e.bytes ∧ Tagged lab e.want (.want j))
def Ents (w : World) (B : Nat) (lab : Nat → Tag) (n : Nat) (es : List Ent) : Prop := ∀ (j : Nat) e, es[j]? = some e → EntAt w B lab n j e
def Held (w : World) (B : Nat) (lab : Nat → Tag) (Hb n : Nat) (es : List Ent) : Prop :=
  ∃ vo vw, HRows w B lab Hb vo vw (es.map (·.out)) (es.map (·.want)) ∧ Ents w B lab n es

theorem Tagged.congr {w : World} {B e : Nat} {lab lab' : Nat → Tag} {v : Value} {n : Nat} {xs : List Value} {t : Tag} (h : Tagged lab v t) (ho : w.ownsRow B e 1 v n xs) (hl : ∀ k, k < w.heap.size → lab' k = lab k) : Tagged lab' v t := fun g hg => (hl g (ho.lt g hg).2).trans (h g hg)
theorem HRows.lt {w : World} {B : Nat} {lab : Nat → Tag} {Hb : Nat} {vo vw : Value} {os ws : List Value} (h : HRows w B lab Hb vo vw os ws) : Hb < w.heap.size := (Array.getElem?_eq_some_iff.1 h.1).1
theorem HRows.relabel {w : World} {B : Nat} {lab lab' : Nat → Tag} {Hb : Nat} {vo vw : Value} {os ws : List Value} (h : HRows w B lab Hb vo vw os ws) (hl : ∀ k, k < w.heap.size → lab' k = lab k) : HRows w B lab' Hb vo vw os ws :=
  ⟨h.1, (hl Hb h.lt).trans h.2.1, h.2.2.1, ⟨h.2.2.2.1.1, h.2.2.2.1.2.congr h.2.2.2.1.1 hl⟩, ⟨h.2.2.2.2.1, h.2.2.2.2.2.congr h.2.2.2.2.1 hl⟩⟩
theorem EntAt.relabel {w : World} {B : Nat} {lab lab' : Nat → Tag} {n j : Nat} {e : Ent} (h : EntAt w B lab n j e) (hl : ∀ k, k < w.heap.size → lab' k = lab k) : EntAt w B lab' n j e :=
  ⟨⟨h.1.1, fun g hg => by rw [hl g (h.1.1.lt g hg).2]; exact h.1.2 g hg⟩, ⟨h.2.1, h.2.2.congr h.2.1 hl⟩⟩
theorem Ents.relabel {w : World} {B : Nat} {lab lab' : Nat → Tag} {n : Nat} {es : List Ent} (h : Ents w B lab n es) (hl : ∀ k, k < w.heap.size → lab' k = lab k) : Ents w B lab' n es := fun j e he => (h j e he).relabel hl
theorem Held.relabel {w : World} {B : Nat} {lab lab' : Nat → Tag} {Hb n : Nat} {es : List Ent} (h : Held w B lab Hb n es) (hl : ∀ k, k < w.heap.size → lab' k = lab k) : Held w B lab' Hb n es := by
  obtain ⟨vo, vw, h1, h2⟩ := h
  exact ⟨vo, vw, h1.relabel hl, h2.relabel hl⟩

theorem HRows.kept {P : Nat → Prop} {w w' : World} {B : Nat} {lab : Nat → Tag} {Hb : Nat} {vo vw : Value} {os ws : List Value} (h : HRows w B lab Hb vo vw os ws) (hk : Kept P w w') (hP : ∀ k, lab k = .box ∨ lab k = .outs ∨ lab k = .wants → ¬ P k) : HRows w' B lab Hb vo vw os ws :=
  ⟨(hk.block Hb h.lt (hP _ (.inl h.2.1))).trans h.1, h.2.1, h.2.2.1, ⟨hk.own h.2.2.2.1.1 (fun g hg => hP _ (.inr (.inl (h.2.2.2.1.2 g hg)))), h.2.2.2.1.2⟩, ⟨hk.own h.2.2.2.2.1 (fun g hg => hP _ (.inr (.inr (h.2.2.2.2.2 g hg)))), h.2.2.2.2.2⟩⟩
theorem EntAt.kept {P : Nat → Prop} {w w' : World} {B : Nat} {lab : Nat → Tag} {n j : Nat} {e : Ent} (h : EntAt w B lab n j e) (hk : Kept P w w') (hP : ∀ k, lab k = .out j ∨ (n ≤ j ∧ lab k = .out (j - n)) ∨ lab k = .want j → ¬ P k) : EntAt w' B lab n j e :=
  ⟨⟨hk.Own h.1.1 (fun g hg => hP g (by rcases h.1.2 g hg with h | h; exact .inl h; exact .inr (.inl h))), h.1.2⟩, ⟨hk.Own h.2.1 (fun g hg => hP g (.inr (.inr (h.2.2 g hg)))), h.2.2⟩⟩
theorem Held.kept {P : Nat → Prop} {w w' : World} {B : Nat} {lab : Nat → Tag} {Hb n : Nat} {es : List Ent} (h : Held w B lab Hb n es) (hk : Kept P w w') (hP : ∀ k, (∀ i, lab k ≠ .user i) → ¬ P k) : Held w' B lab Hb n es := by
  obtain ⟨vo, vw, h1, h2⟩ := h
  refine ⟨vo, vw, h1.kept hk (fun k hk => hP k (fun i e => ?_)), fun j e he => (h2 j e he).kept hk (fun k hk => hP k (fun i e => ?_))⟩
  · rw [e] at hk; simp at hk
  · rw [e] at hk; simp at hk
theorem Held.below {w w' : World} {B : Nat} {lab : Nat → Tag} {Hb n : Nat} {es : List Ent} (h : Held w B lab Hb n es) (hb : Below w.heap.size w w') : Held w' B lab Hb n es := h.kept (Kept.ofBelow (P := fun _ => False) hb) (fun _ _ h => h)

/-- Blocks of the struct and its lists. -/
def Lists (lab : Nat → Tag) (k : Nat) : Prop := lab k = .box ∨ lab k = .outs ∨ lab k = .wants

/-- A new struct. -/
theorem Held.start (w : World) (B : Nat) (lab : Nat → Tag) (hB : B ≤ w.heap.size) (hl : lab w.heap.size = .box) : Held (w.alloc (.cells #[.slice none 0 0, .slice none 0 0] 74)) B lab w.heap.size 0 [] :=
  ⟨_, _, ⟨heap_alloc_last _ _, hl, hB, ⟨World.ownsRow_nil _ _ _ _, fun g hg => by simp [Value.ownBlock] at hg⟩, ⟨World.ownsRow_nil _ _ _ _, fun g hg => by simp [Value.ownBlock] at hg⟩⟩, fun j e he => by simp at he⟩

/-- 'h.out = append(h.out, v)': what the append's law gives, then the store. -/
theorem HRows.pushOut {w w1 : World} {B : Nat} {lab : Nat → Tag} {Hb : Nat} {vo vw v vo' : Value} {os ws : List Value} (h : HRows w B lab Hb vo vw os ws) (ho : w1.ownsRow B 37 1 vo' (os.length + 1) (os ++ [v])) (hg : w.grownBy w1 vo.ownBlock) (hv : vo'.ownBlock = vo.ownBlock ∨ vo'.ownBlock = some w.heap.size) :
    HRows (w1.setCell ⟨Hb, 0, none⟩ vo') B (fun k => if k = w.heap.size then .outs else lab k) Hb vo' vw (os ++ [v]) ws ∧ Kept (Lists lab) w (w1.setCell ⟨Hb, 0, none⟩ vo') := by
  have hlt := h.lt
  obtain ⟨h1, h2, h3, ⟨h4, h5⟩, ⟨h6, h7⟩⟩ := h
  have hH : w1.heap[Hb]? = some (.cells #[vo, vw] 74) := (hg.block Hb hlt (fun e => by have := h5 Hb e.symm; rw [h2] at this; cases this)).trans h1
  have kset : Kept (fun k => k = Hb) w1 (w1.setCell ⟨Hb, 0, none⟩ vo') := Kept.setCell _ w1 Hb 0 vo' rfl
  have hlab : ∀ k, k < w.heap.size → (fun k => if k = w.heap.size then Tag.outs else lab k) k = lab k := fun k hk => by simp only []; rw [if_neg (by omega)]
  have tvo : Tagged (fun k => if k = w.heap.size then Tag.outs else lab k) vo' .outs := fun g hgv => by
    rcases hv with hv | hv
    · rw [hv] at hgv
      rw [hlab g (h4.lt g hgv).2]
      exact h5 g hgv
    · rw [hv] at hgv
      simp only [Option.some.injEq] at hgv
      simp [hgv]
  have hne : ∀ g, vo'.ownBlock = some g → g ≠ Hb := fun g hgv e => by
    subst e
    have := tvo g hgv
    rw [hlab g hlt, h2] at this
    cases this
  have kall : Kept (Lists lab) w (w1.setCell ⟨Hb, 0, none⟩ vo') := (Kept.ofGrown (P := Lists lab) hg (fun g e => .inr (.inl (h5 g e)))).trans (Kept.setCell _ w1 Hb 0 vo' (.inl h2))
  refine ⟨⟨?_, (hlab Hb hlt).trans h2, h3, ⟨?_, tvo⟩, ⟨?_, h7.congr h6 hlab⟩⟩, kall⟩
  · rw [setCell_eq_setRow w1 Hb 0 _ _ _ _ hH, setRow_heap w1 Hb _ _ _ _ hH]
    rfl
  · rw [List.length_append]
    exact kset.own ho (fun g hgv => hne g hgv)
  · have := (Kept.ofGrown (P := fun k => lab k = .outs) hg (fun g e => h5 g e)).own h6 (fun g e => by rw [h7 g e]; simp)
    exact kset.own this (fun g e hh => by have := h7 g e; rw [hh, h2] at this; cases this)
/-- 'h.want = append(h.want, v)'. -/
theorem HRows.pushWant {w w1 : World} {B : Nat} {lab : Nat → Tag} {Hb : Nat} {vo vw v vw' : Value} {os ws : List Value} (h : HRows w B lab Hb vo vw os ws) (ho : w1.ownsRow B 37 1 vw' (ws.length + 1) (ws ++ [v])) (hg : w.grownBy w1 vw.ownBlock) (hv : vw'.ownBlock = vw.ownBlock ∨ vw'.ownBlock = some w.heap.size) :
    HRows (w1.setCell ⟨Hb, 1, none⟩ vw') B (fun k => if k = w.heap.size then .wants else lab k) Hb vo vw' os (ws ++ [v]) ∧ Kept (Lists lab) w (w1.setCell ⟨Hb, 1, none⟩ vw') := by
  have hlt := h.lt
  obtain ⟨h1, h2, h3, ⟨h6, h7⟩, ⟨h4, h5⟩⟩ := h
  have hH : w1.heap[Hb]? = some (.cells #[vo, vw] 74) := (hg.block Hb hlt (fun e => by have := h5 Hb e.symm; rw [h2] at this; cases this)).trans h1
  have kset : Kept (fun k => k = Hb) w1 (w1.setCell ⟨Hb, 1, none⟩ vw') := Kept.setCell _ w1 Hb 1 vw' rfl
  have hlab : ∀ k, k < w.heap.size → (fun k => if k = w.heap.size then Tag.wants else lab k) k = lab k := fun k hk => by simp only []; rw [if_neg (by omega)]
  have tvo : Tagged (fun k => if k = w.heap.size then Tag.wants else lab k) vw' .wants := fun g hgv => by
    rcases hv with hv | hv
    · rw [hv] at hgv
      rw [hlab g (h4.lt g hgv).2]
      exact h5 g hgv
    · rw [hv] at hgv
      simp only [Option.some.injEq] at hgv
      simp [hgv]
  have hne : ∀ g, vw'.ownBlock = some g → g ≠ Hb := fun g hgv e => by
    subst e
    have := tvo g hgv
    rw [hlab g hlt, h2] at this
    cases this
  have kall : Kept (Lists lab) w (w1.setCell ⟨Hb, 1, none⟩ vw') := (Kept.ofGrown (P := Lists lab) hg (fun g e => .inr (.inr (h5 g e)))).trans (Kept.setCell _ w1 Hb 1 vw' (.inl h2))
  refine ⟨⟨?_, (hlab Hb hlt).trans h2, h3, ⟨?_, h7.congr h6 hlab⟩, ⟨?_, tvo⟩⟩, kall⟩
  · rw [setCell_eq_setRow w1 Hb 1 _ _ _ _ hH, setRow_heap w1 Hb _ _ _ _ hH]
    rfl
  · have := (Kept.ofGrown (P := fun k => lab k = .wants) hg (fun g e => h5 g e)).own h6 (fun g e => by rw [h7 g e]; simp)
    exact kset.own this (fun g e hh => by have := h7 g e; rw [hh, h2] at this; cases this)
  · rw [List.length_append]
    exact kset.own ho (fun g hgv => hne g hgv)

theorem HRows.below {w w' : World} {B : Nat} {lab : Nat → Tag} {Hb : Nat} {vo vw : Value} {os ws : List Value} (h : HRows w B lab Hb vo vw os ws) (hb : Below w.heap.size w w') : HRows w' B lab Hb vo vw os ws := h.kept (Kept.ofBelow (P := fun _ => False) hb) (fun _ _ h => h)
theorem HRows.alloc {w : World} {B : Nat} {lab : Nat → Tag} {Hb : Nat} {vo vw : Value} {os ws : List Value} (h : HRows w B lab Hb vo vw os ws) (o : Obj) : HRows (w.alloc o) B lab Hb vo vw os ws := h.below ((Below.refl _ w).alloc (Nat.le_refl _) o)
theorem HRows.boxOut {w w2 : World} {B : Nat} {lab : Nat → Tag} {Hb : Nat} {vo vw : Value} {os ws : List Value} (h : HRows w B lab Hb vo vw os ws) (hg : w.grownBy w2 vo.ownBlock) : w2.heap[Hb]? = some (.cells #[vo, vw] 74) :=
  (hg.block Hb h.lt (fun e => by have := h.2.2.2.1.2 Hb e.symm; rw [h.2.1] at this; cases this)).trans h.1
theorem HRows.boxWant {w w2 : World} {B : Nat} {lab : Nat → Tag} {Hb : Nat} {vo vw : Value} {os ws : List Value} (h : HRows w B lab Hb vo vw os ws) (hg : w.grownBy w2 vw.ownBlock) : w2.heap[Hb]? = some (.cells #[vo, vw] 74) :=
  (hg.block Hb h.lt (fun e => by have := h.2.2.2.2.2 Hb e.symm; rw [h.2.1] at this; cases this)).trans h.1
theorem box_cell {w : World} {Hb : Nat} {vo vw : Value} (h : w.heap[Hb]? = some (.cells #[vo, vw] 74)) : w.cell? ⟨Hb, 0, none⟩ = some vo ∧ w.cell? ⟨Hb, 1, none⟩ = some vw ∧ w.frozen? ⟨Hb, 0, none⟩ = false ∧ w.frozen? ⟨Hb, 1, none⟩ = false := by
  simp [World.cell?, World.frozen?, h]
theorem EntAt.below {w w' : World} {B : Nat} {lab : Nat → Tag} {n j : Nat} {e : Ent} (h : EntAt w B lab n j e) (hb : Below w.heap.size w w') : EntAt w' B lab n j e := h.kept (Kept.ofBelow (P := fun _ => False) hb) (fun _ _ h => h)
theorem EntAt.push {w w' : World} {B : Nat} {lab : Nat → Tag} {n j : Nat} {e : Ent} (h : EntAt w B lab n j e) (hk : Kept (Lists lab) w w') (t : Tag) (ht : t = .outs ∨ t = .wants) : EntAt w' B (fun k => if k = w.heap.size then t else lab k) n j e := by
  refine (h.relabel (lab' := fun k => if k = w.heap.size then t else lab k) (fun k hk => if_neg (by omega))).kept hk (fun k hl hL => ?_)
  by_cases hkw : k = w.heap.size
  · simp only [hkw, if_true] at hl
    rcases ht with rfl | rfl <;> simp at hl
  · simp only [hkw, if_false] at hl
    rcases hL with h | h | h <;> rw [h] at hl <;> simp at hl
theorem HRows.cell0 {w : World} {B : Nat} {lab : Nat → Tag} {Hb : Nat} {vo vw : Value} {os ws : List Value} (h : HRows w B lab Hb vo vw os ws) : w.cell? ⟨Hb, 0, none⟩ = some vo := by simp [World.cell?, h.1]
theorem HRows.cell1 {w : World} {B : Nat} {lab : Nat → Tag} {Hb : Nat} {vo vw : Value} {os ws : List Value} (h : HRows w B lab Hb vo vw os ws) : w.cell? ⟨Hb, 1, none⟩ = some vw := by simp [World.cell?, h.1]
theorem HRows.frozen {w : World} {B : Nat} {lab : Nat → Tag} {Hb : Nat} {vo vw : Value} {os ws : List Value} (h : HRows w B lab Hb vo vw os ws) (i : Nat) : w.frozen? ⟨Hb, i, none⟩ = false := by simp [World.frozen?, h.1]
end Go.Proofs.Ytnpofjeiamjioaa
