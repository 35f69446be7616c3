/-
  XHeld, XSpoiling, XGrowing, XHolds, XCopied, XKeep.
-/
import Derived.Test.YtomgnailgddchaaDoorJG
import Derived.Deep.WholeRow
import Derived.Test.YtomgnailgddchaaDoorJL
import Derived.Test.YtomgnailgddchaaDoorJA
import Derived.Deep.QuietTactic
import Derived.BigQuiet
import Derived.Deep.DeepMust
import Derived.Lib.SliceRun
namespace Go.Proofs.YtomgnailgddchaaDoor
open Go.RowKit

/-- Whose block. -/
structure Tag where
  kind : Nat
  num : Nat
abbrev Tag.box : Tag := ⟨0, 0⟩
abbrev Tag.outs : Tag := ⟨1, 0⟩
abbrev Tag.wants : Tag := ⟨2, 0⟩
abbrev Tag.out (i : Nat) : Tag := ⟨3, i⟩
abbrev Tag.want (i : Nat) : Tag := ⟨4, i⟩
abbrev Tag.user (i : Nat) : Tag := ⟨5, i⟩

/-- A slice's block bears a tag. -/
def Tagged (lab : Nat → Tag) (v : Value) (t : Tag) : Prop := ∀ g, v.ownBlock = some g → lab g = t
/-- One entry. -/
structure Ent where
  out : Value
  want : Value
  bytes : List UInt8

/-- The struct and its two lists. -/
def HRows (w : World) (B : Nat) (lab : Nat → Tag) (Hb : Nat) (vo vw : Value) (os ws : List Value) : Prop :=
  w.heap[Hb]? = some (.cells #[vo, vw] 33) ∧ lab Hb = .box ∧ B ≤ Hb ∧ (w.ownsRow B 34 1 vo os.length os ∧ Tagged lab vo .outs) ∧ (w.ownsRow B 34 1 vw ws.length ws ∧ Tagged lab vw .wants)
/-- One entry's bytes. -/
def EntAt (w : World) (B : Nat) (lab : Nat → Tag) (n j : Nat) (e : Ent) : Prop :=
  (OwnX w B e.out e.bytes ∧ ∀ g, e.out.ownBlock = some g → lab g = .out j ∨ (n ≤ j ∧ lab g = .out (j - n))) ∧ (OwnX w B e.want e.bytes ∧ Tagged lab e.want (.want j))
def Ents (w : World) (B : Nat) (lab : Nat → Tag) (n : Nat) (es : List Ent) : Prop := ∀ (j : Nat) e, es[j]? = some e → EntAt w B lab n j e
def Held (w : World) (B : Nat) (lab : Nat → Tag) (Hb n : Nat) (es : List Ent) : Prop :=
  ∃ vo vw, HRows w B lab Hb vo vw (es.map (·.out)) (es.map (·.want)) ∧ Ents w B lab n es

theorem Tagged.congr {w : World} {B e : Nat} {lab lab' : Nat → Tag} {v : Value} {n : Nat} {xs : List Value} {t : Tag} (h : Tagged lab v t) (ho : w.ownsRow B e 1 v n xs) (hl : ∀ k, k < w.heap.size → lab' k = lab k) : Tagged lab' v t := fun g hg => (hl g (ho.lt g hg).2).trans (h g hg)
theorem Tagged.congrX {w : World} {B : Nat} {lab lab' : Nat → Tag} {v : Value} {l : List UInt8} {t : Tag} (h : Tagged lab v t) (ho : OwnX w B v l) (hl : ∀ k, k < w.heap.size → lab' k = lab k) : Tagged lab' v t := fun g hg => (hl g (ho.lt g hg).2).trans (h g hg)
theorem HRows.lt {w : World} {B : Nat} {lab : Nat → Tag} {Hb : Nat} {vo vw : Value} {os ws : List Value} (h : HRows w B lab Hb vo vw os ws) : Hb < w.heap.size := (Array.getElem?_eq_some_iff.1 h.1).1
theorem HRows.relabel {w : World} {B : Nat} {lab lab' : Nat → Tag} {Hb : Nat} {vo vw : Value} {os ws : List Value} (h : HRows w B lab Hb vo vw os ws) (hl : ∀ k, k < w.heap.size → lab' k = lab k) : HRows w B lab' Hb vo vw os ws :=
  ⟨h.1, (hl Hb h.lt).trans h.2.1, h.2.2.1, ⟨h.2.2.2.1.1, h.2.2.2.1.2.congr h.2.2.2.1.1 hl⟩, ⟨h.2.2.2.2.1, h.2.2.2.2.2.congr h.2.2.2.2.1 hl⟩⟩
theorem EntAt.relabel {w : World} {B : Nat} {lab lab' : Nat → Tag} {n j : Nat} {e : Ent} (h : EntAt w B lab n j e) (hl : ∀ k, k < w.heap.size → lab' k = lab k) : EntAt w B lab' n j e :=
  ⟨⟨h.1.1, fun g hg => by rw [hl g (h.1.1.lt g hg).2]; exact h.1.2 g hg⟩, ⟨h.2.1, h.2.2.congrX h.2.1 hl⟩⟩
theorem Ents.relabel {w : World} {B : Nat} {lab lab' : Nat → Tag} {n : Nat} {es : List Ent} (h : Ents w B lab n es) (hl : ∀ k, k < w.heap.size → lab' k = lab k) : Ents w B lab' n es := fun j e he => (h j e he).relabel hl
theorem Held.relabel {w : World} {B : Nat} {lab lab' : Nat → Tag} {Hb n : Nat} {es : List Ent} (h : Held w B lab Hb n es) (hl : ∀ k, k < w.heap.size → lab' k = lab k) : Held w B lab' Hb n es := by
  obtain ⟨vo, vw, h1, h2⟩ := h
  exact ⟨vo, vw, h1.relabel hl, h2.relabel hl⟩

theorem HRows.kept {P : Nat → Prop} {w w' : World} {B : Nat} {lab : Nat → Tag} {Hb : Nat} {vo vw : Value} {os ws : List Value} (h : HRows w B lab Hb vo vw os ws) (hk : Kept P w w') (hP : ∀ k, lab k = .box ∨ lab k = .outs ∨ lab k = .wants → ¬ P k) : HRows w' B lab Hb vo vw os ws :=
  ⟨(hk.block Hb h.lt (hP _ (.inl h.2.1))).trans h.1, h.2.1, h.2.2.1, ⟨hk.own h.2.2.2.1.1 (fun g hg => hP _ (.inr (.inl (h.2.2.2.1.2 g hg)))), h.2.2.2.1.2⟩, ⟨hk.own h.2.2.2.2.1 (fun g hg => hP _ (.inr (.inr (h.2.2.2.2.2 g hg)))), h.2.2.2.2.2⟩⟩
theorem EntAt.kept {P : Nat → Prop} {w w' : World} {B : Nat} {lab : Nat → Tag} {n j : Nat} {e : Ent} (h : EntAt w B lab n j e) (hk : Kept P w w') (hP : ∀ k, lab k = .out j ∨ (n ≤ j ∧ lab k = .out (j - n)) ∨ lab k = .want j → ¬ P k) : EntAt w' B lab n j e :=
  ⟨⟨hk.OwnX h.1.1 (fun g hg => hP g (by rcases h.1.2 g hg with h | h; exact .inl h; exact .inr (.inl h))), h.1.2⟩, ⟨hk.OwnX h.2.1 (fun g hg => hP g (.inr (.inr (h.2.2 g hg)))), h.2.2⟩⟩
theorem Held.kept {P : Nat → Prop} {w w' : World} {B : Nat} {lab : Nat → Tag} {Hb n : Nat} {es : List Ent} (h : Held w B lab Hb n es) (hk : Kept P w w') (hP : ∀ k, (∀ i, lab k ≠ .user i) → ¬ P k) : Held w' B lab Hb n es := by
  obtain ⟨vo, vw, h1, h2⟩ := h
  refine ⟨vo, vw, h1.kept hk (fun k hk => hP k (fun i e => ?_)), fun j e he => (h2 j e he).kept hk (fun k hk => hP k (fun i e => ?_))⟩
  · rw [e] at hk; simp at hk
  · rw [e] at hk; simp at hk
theorem Held.below {w w' : World} {B : Nat} {lab : Nat → Tag} {Hb n : Nat} {es : List Ent} (h : Held w B lab Hb n es) (hb : Below w.heap.size w w') : Held w' B lab Hb n es := h.kept (Kept.ofBelow (P := fun _ => False) hb) (fun _ _ h => h)

/-- Blocks of the struct and its lists. -/
def Lists (lab : Nat → Tag) (k : Nat) : Prop := lab k = .box ∨ lab k = .outs ∨ lab k = .wants

/-- A new struct. -/
theorem Held.start (w : World) (B : Nat) (lab : Nat → Tag) (hB : B ≤ w.heap.size) (hl : lab w.heap.size = .box) : Held (w.alloc (.cells #[.slice none 0 0, .slice none 0 0] 33)) B lab w.heap.size 0 [] :=
  ⟨_, _, ⟨heap_alloc_last _ _, hl, hB, ⟨World.ownsRow_nil _ _ _ _, fun g hg => by simp [Value.ownBlock] at hg⟩, ⟨World.ownsRow_nil _ _ _ _, fun g hg => by simp [Value.ownBlock] at hg⟩⟩, fun j e he => by simp at he⟩

/-- 'h.out = append(h.out, v)': what the append's law gives, then the store. -/
theorem HRows.pushOut {w w1 : World} {B : Nat} {lab : Nat → Tag} {Hb : Nat} {vo vw v vo' : Value} {os ws : List Value} (h : HRows w B lab Hb vo vw os ws) (ho : w1.ownsRow B 34 1 vo' (os.length + 1) (os ++ [v])) (hg : w.grownBy w1 vo.ownBlock) (hv : vo'.ownBlock = vo.ownBlock ∨ vo'.ownBlock = some w.heap.size) :
    HRows (w1.setCell ⟨Hb, 0, none⟩ vo') B (fun k => if k = w.heap.size then .outs else lab k) Hb vo' vw (os ++ [v]) ws ∧ Kept (Lists lab) w (w1.setCell ⟨Hb, 0, none⟩ vo') := by
  have hlt := h.lt
  obtain ⟨h1, h2, h3, ⟨h4, h5⟩, ⟨h6, h7⟩⟩ := h
  have hH : w1.heap[Hb]? = some (.cells #[vo, vw] 33) := (hg.block Hb hlt (fun e => by have := h5 Hb e.symm; rw [h2] at this; cases this)).trans h1
  have kset : Kept (fun k => k = Hb) w1 (w1.setCell ⟨Hb, 0, none⟩ vo') := Kept.setCell _ w1 Hb 0 vo' rfl
  have hlab : ∀ k, k < w.heap.size → (fun k => if k = w.heap.size then Tag.outs else lab k) k = lab k := fun k hk => by simp only []; rw [if_neg (by omega)]
  have tvo : Tagged (fun k => if k = w.heap.size then Tag.outs else lab k) vo' .outs := fun g hgv => by
    rcases hv with hv | hv
    · rw [hv] at hgv
      rw [hlab g (h4.lt g hgv).2]
      exact h5 g hgv
    · rw [hv] at hgv
      simp only [Option.some.injEq] at hgv
      simp [hgv]
  have hne : ∀ g, vo'.ownBlock = some g → g ≠ Hb := fun g hgv e => by
    subst e
    have := tvo g hgv
    rw [hlab g hlt, h2] at this
    cases this
  have kall : Kept (Lists lab) w (w1.setCell ⟨Hb, 0, none⟩ vo') := (Kept.ofGrown (P := Lists lab) hg (fun g e => .inr (.inl (h5 g e)))).trans (Kept.setCell _ w1 Hb 0 vo' (.inl h2))
  refine ⟨⟨?_, (hlab Hb hlt).trans h2, h3, ⟨?_, tvo⟩, ⟨?_, h7.congr h6 hlab⟩⟩, kall⟩
  · rw [setCell_eq_setRow w1 Hb 0 _ _ _ _ hH, setRow_heap w1 Hb _ _ _ _ hH]
    rfl
  · rw [List.length_append]
    exact kset.own ho (fun g hgv => hne g hgv)
  · have := (Kept.ofGrown (P := fun k => lab k = .outs) hg (fun g e => h5 g e)).own h6 (fun g e => by rw [h7 g e]; simp)
    exact kset.own this (fun g e hh => by have := h7 g e; rw [hh, h2] at this; cases this)
/-- 'h.want = append(h.want, v)'. -/
theorem HRows.pushWant {w w1 : World} {B : Nat} {lab : Nat → Tag} {Hb : Nat} {vo vw v vw' : Value} {os ws : List Value} (h : HRows w B lab Hb vo vw os ws) (ho : w1.ownsRow B 34 1 vw' (ws.length + 1) (ws ++ [v])) (hg : w.grownBy w1 vw.ownBlock) (hv : vw'.ownBlock = vw.ownBlock ∨ vw'.ownBlock = some w.heap.size) :
    HRows (w1.setCell ⟨Hb, 1, none⟩ vw') B (fun k => if k = w.heap.size then .wants else lab k) Hb vo vw' os (ws ++ [v]) ∧ Kept (Lists lab) w (w1.setCell ⟨Hb, 1, none⟩ vw') := by
  have hlt := h.lt
  obtain ⟨h1, h2, h3, ⟨h6, h7⟩, ⟨h4, h5⟩⟩ := h
  have hH : w1.heap[Hb]? = some (.cells #[vo, vw] 33) := (hg.block Hb hlt (fun e => by have := h5 Hb e.symm; rw [h2] at this; cases this)).trans h1
  have kset : Kept (fun k => k = Hb) w1 (w1.setCell ⟨Hb, 1, none⟩ vw') := Kept.setCell _ w1 Hb 1 vw' rfl
  have hlab : ∀ k, k < w.heap.size → (fun k => if k = w.heap.size then Tag.wants else lab k) k = lab k := fun k hk => by simp only []; rw [if_neg (by omega)]
  have tvo : Tagged (fun k => if k = w.heap.size then Tag.wants else lab k) vw' .wants := fun g hgv => by
    rcases hv with hv | hv
    · rw [hv] at hgv
      rw [hlab g (h4.lt g hgv).2]
      exact h5 g hgv
    · rw [hv] at hgv
      simp only [Option.some.injEq] at hgv
      simp [hgv]
  have hne : ∀ g, vw'.ownBlock = some g → g ≠ Hb := fun g hgv e => by
    subst e
    have := tvo g hgv
    rw [hlab g hlt, h2] at this
    cases this
  have kall : Kept (Lists lab) w (w1.setCell ⟨Hb, 1, none⟩ vw') := (Kept.ofGrown (P := Lists lab) hg (fun g e => .inr (.inr (h5 g e)))).trans (Kept.setCell _ w1 Hb 1 vw' (.inl h2))
  refine ⟨⟨?_, (hlab Hb hlt).trans h2, h3, ⟨?_, h7.congr h6 hlab⟩, ⟨?_, tvo⟩⟩, kall⟩
  · rw [setCell_eq_setRow w1 Hb 1 _ _ _ _ hH, setRow_heap w1 Hb _ _ _ _ hH]
    rfl
  · have := (Kept.ofGrown (P := fun k => lab k = .wants) hg (fun g e => h5 g e)).own h6 (fun g e => by rw [h7 g e]; simp)
    exact kset.own this (fun g e hh => by have := h7 g e; rw [hh, h2] at this; cases this)
  · rw [List.length_append]
    exact kset.own ho (fun g hgv => hne g hgv)

theorem HRows.below {w w' : World} {B : Nat} {lab : Nat → Tag} {Hb : Nat} {vo vw : Value} {os ws : List Value} (h : HRows w B lab Hb vo vw os ws) (hb : Below w.heap.size w w') : HRows w' B lab Hb vo vw os ws := h.kept (Kept.ofBelow (P := fun _ => False) hb) (fun _ _ h => h)
theorem HRows.alloc {w : World} {B : Nat} {lab : Nat → Tag} {Hb : Nat} {vo vw : Value} {os ws : List Value} (h : HRows w B lab Hb vo vw os ws) (o : Obj) : HRows (w.alloc o) B lab Hb vo vw os ws := h.below ((Below.refl _ w).alloc (Nat.le_refl _) o)
theorem HRows.boxOut {w w2 : World} {B : Nat} {lab : Nat → Tag} {Hb : Nat} {vo vw : Value} {os ws : List Value} (h : HRows w B lab Hb vo vw os ws) (hg : w.grownBy w2 vo.ownBlock) : w2.heap[Hb]? = some (.cells #[vo, vw] 33) :=
  (hg.block Hb h.lt (fun e => by have := h.2.2.2.1.2 Hb e.symm; rw [h.2.1] at this; cases this)).trans h.1
theorem HRows.boxWant {w w2 : World} {B : Nat} {lab : Nat → Tag} {Hb : Nat} {vo vw : Value} {os ws : List Value} (h : HRows w B lab Hb vo vw os ws) (hg : w.grownBy w2 vw.ownBlock) : w2.heap[Hb]? = some (.cells #[vo, vw] 33) :=
  (hg.block Hb h.lt (fun e => by have := h.2.2.2.2.2 Hb e.symm; rw [h.2.1] at this; cases this)).trans h.1
theorem box_cell {w : World} {Hb : Nat} {vo vw : Value} (h : w.heap[Hb]? = some (.cells #[vo, vw] 33)) : w.cell? ⟨Hb, 0, none⟩ = some vo ∧ w.cell? ⟨Hb, 1, none⟩ = some vw ∧ w.frozen? ⟨Hb, 0, none⟩ = false ∧ w.frozen? ⟨Hb, 1, none⟩ = false := by
  simp [World.cell?, World.frozen?, h]
theorem EntAt.below {w w' : World} {B : Nat} {lab : Nat → Tag} {n j : Nat} {e : Ent} (h : EntAt w B lab n j e) (hb : Below w.heap.size w w') : EntAt w' B lab n j e := h.kept (Kept.ofBelow (P := fun _ => False) hb) (fun _ _ h => h)
theorem EntAt.push {w w' : World} {B : Nat} {lab : Nat → Tag} {n j : Nat} {e : Ent} (h : EntAt w B lab n j e) (hk : Kept (Lists lab) w w') (t : Tag) (ht : t = .outs ∨ t = .wants) : EntAt w' B (fun k => if k = w.heap.size then t else lab k) n j e := by
  refine (h.relabel (lab' := fun k => if k = w.heap.size then t else lab k) (fun k hk => if_neg (by omega))).kept hk (fun k hl hL => ?_)
  by_cases hkw : k = w.heap.size
  · simp only [hkw, if_true] at hl
    rcases ht with rfl | rfl <;> simp at hl
  · simp only [hkw, if_false] at hl
    rcases hL with h | h | h <;> rw [h] at hl <;> simp at hl
theorem HRows.cell0 {w : World} {B : Nat} {lab : Nat → Tag} {Hb : Nat} {vo vw : Value} {os ws : List Value} (h : HRows w B lab Hb vo vw os ws) : w.cell? ⟨Hb, 0, none⟩ = some vo := by simp [World.cell?, h.1]
theorem HRows.cell1 {w : World} {B : Nat} {lab : Nat → Tag} {Hb : Nat} {vo vw : Value} {os ws : List Value} (h : HRows w B lab Hb vo vw os ws) : w.cell? ⟨Hb, 1, none⟩ = some vw := by simp [World.cell?, h.1]
theorem HRows.frozen {w : World} {B : Nat} {lab : Nat → Tag} {Hb : Nat} {vo vw : Value} {os ws : List Value} (h : HRows w B lab Hb vo vw os ws) (i : Nat) : w.frozen? ⟨Hb, i, none⟩ = false := by simp [World.frozen?, h.1]
end Go.Proofs.YtomgnailgddchaaDoor

namespace Go.Proofs.YtomgnailgddchaaDoor
open Go.RowKit

/-- Blocks that are not the caller's own. -/
def NotUser (lab : Nat → Tag) (k : Nat) : Prop := ∀ i, lab k ≠ .user i

theorem set_same {α : Type} (l : List α) (i : Nat) (x : α) (h : l[i]? = some x) : l.set i x = l := by
  apply List.ext_getElem?
  intro j
  rw [List.getElem?_set]
  by_cases hij : i = j
  · subst hij
    have := (List.getElem?_eq_some_iff.1 h).1
    simp [this]
    exact (List.getElem?_eq_some_iff.1 h).2.symm
  · simp [hij]

/-- One byte of an entry marked, in both of its lists. -/
theorem Held.mark {w : World} {B : Nat} {lab : Nat → Tag} {Hb : Nat} {es : List Ent} (h : Held w B lab Hb 0 es) (i k : Nat) (e : Ent) (he : es[i]? = some e) (x : UInt8) (hkl : k < e.bytes.length) (go co gw cw : Nat)
    (ho : e.out = .slice (some ⟨go, 0, none⟩) e.bytes.length co) (hw : e.want = .slice (some ⟨gw, 0, none⟩) e.bytes.length cw) :
    Held ((w.setCell ⟨go, k, none⟩ (.int .u8 (x.toNat : Int))).setCell ⟨gw, k, none⟩ (.int .u8 (x.toNat : Int))) B lab Hb 0 (es.set i ⟨e.out, e.want, e.bytes.set k x⟩) ∧
      Kept (NotUser lab) w ((w.setCell ⟨go, k, none⟩ (.int .u8 (x.toNat : Int))).setCell ⟨gw, k, none⟩ (.int .u8 (x.toNat : Int))) := by
  obtain ⟨vo, vw, hr, hes⟩ := h
  obtain ⟨⟨o1, l1⟩, o2, l2⟩ := hes i e he
  have lo : lab go = .out i := by rcases l1 go (by rw [ho]; rfl) with h | ⟨_, h⟩; exact h; simpa using h
  have lw : lab gw = .want i := l2 gw (by rw [hw]; rfl)
  have kk1 : Kept (fun j => j = go) w (w.setCell ⟨go, k, none⟩ (.int .u8 (x.toNat : Int))) := Kept.setCell _ _ _ _ _ rfl
  have kk2 : Kept (fun j => j = gw) (w.setCell ⟨go, k, none⟩ (.int .u8 (x.toNat : Int))) ((w.setCell ⟨go, k, none⟩ (.int .u8 (x.toNat : Int))).setCell ⟨gw, k, none⟩ (.int .u8 (x.toNat : Int))) := Kept.setCell _ _ _ _ _ rfl
  have hne : go ≠ gw := fun h => by rw [h, lw] at lo; cases lo
  rw [ho] at o1
  rw [hw] at o2
  have s1 := (o1.set k x hkl)
  have s2 := kk1.OwnX o2 (fun g hg e => by simp [Value.ownBlock] at hg; omega)
  have t1 := kk2.OwnX s1 (fun g hg e => by simp [Value.ownBlock] at hg; omega)
  have t2 := (s2.set k x hkl)
  have hmo : (es.set i ⟨e.out, e.want, e.bytes.set k x⟩).map (·.out) = es.map (·.out) := by
    rw [List.map_set, set_same _ _ _ (by simp [he])]
  have hmw : (es.set i ⟨e.out, e.want, e.bytes.set k x⟩).map (·.want) = es.map (·.want) := by
    rw [List.map_set, set_same _ _ _ (by simp [he])]
  refine ⟨⟨vo, vw, ?_, ?_⟩, ?_⟩
  · rw [hmo, hmw]
    exact (hr.kept kk1 (fun j hj e => by rw [e, lo] at hj; simp at hj)).kept kk2 (fun j hj e => by rw [e, lw] at hj; simp at hj)
  · intro j f hf
    by_cases hji : j = i
    · subst hji
      rw [List.getElem?_set_self (List.getElem?_eq_some_iff.1 he).1] at hf
      simp only [Option.some.injEq] at hf
      subst hf
      refine ⟨⟨?_, l1⟩, ?_, l2⟩
      · simp only []
        rw [ho]
        exact t1
      · simp only []
        rw [hw]
        exact t2
    · rw [List.getElem?_set_ne (fun h => hji h.symm)] at hf
      have := hes j f hf
      refine (this.kept kk1 (fun q hq e => ?_)).kept kk2 (fun q hq e => ?_)
      · rw [e, lo] at hq
        simp at hq
        omega
      · rw [e, lw] at hq
        simp at hq
        omega
  · exact (kk1.mono (fun q _ e => by intro u; rw [e, lo]; simp)).trans (kk2.mono (fun q _ e => by intro u; rw [e, lw]; simp))

/-- A list that has begun to grow: where its bytes lie. -/
def LTag (lab : Nat → Tag) (n i : Nat) (v : Value) : Prop := ∀ g, v.ownBlock = some g → lab g = .out i ∨ lab g = .out (n + i)

/-- A list grows that began as the list of entry i: what is kept reads as it did. -/
theorem Held.growOut {w w' : World} {B : Nat} {lab : Nat → Tag} {Hb n i : Nat} {es : List Ent} (h : Held w B lab Hb n es) (hle : es.length = n + i) (hin : i < n) (e : Ent) (he : es[i]? = some e) (v : Value) (l : List UInt8) (hv : LTag lab n i v) (hel : e.bytes.length ≤ l.length)
    (hg : w.grownBy w' v.ownBlock) (hk : ∀ (b0 : Nat) (u : Value) (ys : List UInt8), OwnX w b0 u ys → (u.ownBlock = v.ownBlock → ys.length ≤ l.length) → OwnX w' b0 u ys) : Held w' B lab Hb n es := by
  obtain ⟨vo, vw, hr, hes⟩ := h
  have kg : Kept (fun q => some q = v.ownBlock) w w' := Kept.ofGrown hg (fun g hg => hg.symm)
  refine ⟨vo, vw, hr.kept kg (fun q hq e => ?_), fun j f hf => ?_⟩
  · rcases hv q e.symm with h | h <;> rw [h] at hq <;> simp at hq
  · have hjl := (List.getElem?_eq_some_iff.1 hf).1
    obtain ⟨⟨o1, l1⟩, o2, l2⟩ := hes j f hf
    refine ⟨⟨hk B f.out f.bytes o1 (fun hb => ?_), l1⟩, kg.OwnX o2 (fun g hg hx => ?_), l2⟩
    · cases hfo : f.out.ownBlock with
      | none => rw [nil_of_noneX o1 hfo]; simp
      | some g =>
        have hj : j = i := by
          rcases l1 g hfo with h1 | ⟨hnj, h1⟩ <;> rcases hv g (by rw [← hb]; exact hfo) with h2 | h2 <;> rw [h1] at h2 <;> simp at h2 <;> omega
        subst hj
        rw [he] at hf
        simp only [Option.some.injEq] at hf
        rw [← hf]
        exact hel
    · have h1 := l2 g hg
      rcases hv g hx.symm with h2 | h2 <;> rw [h1] at h2 <;> cases h2
/-- .. and the copy beside it. -/
theorem Held.growWant {w w' : World} {B : Nat} {lab : Nat → Tag} {Hb n : Nat} {es : List Ent} (h : Held w B lab Hb n es) (v : Value) (hv : Tagged lab v (.want es.length)) (hg : w.grownBy w' v.ownBlock) : Held w' B lab Hb n es := by
  obtain ⟨vo, vw, hr, hes⟩ := h
  have kg : Kept (fun q => some q = v.ownBlock) w w' := Kept.ofGrown hg (fun g hg => hg.symm)
  refine ⟨vo, vw, hr.kept kg (fun q hq e => ?_), fun j f hf => (hes j f hf).kept kg (fun q hq e => ?_)⟩
  · rw [hv q e.symm] at hq; simp at hq
  · have hjl := (List.getElem?_eq_some_iff.1 hf).1
    rw [hv q e.symm] at hq
    simp at hq
    omega
end Go.Proofs.YtomgnailgddchaaDoor

namespace Go.Proofs.YtomgnailgddchaaDoor
open Go.RowKit

theorem Held.toN {w : World} {B : Nat} {lab : Nat → Tag} {Hb : Nat} {es : List Ent} (h : Held w B lab Hb 0 es) : Held w B lab Hb es.length es := by
  obtain ⟨vo, vw, hr, hes⟩ := h
  refine ⟨vo, vw, hr, fun j e he => ?_⟩
  obtain ⟨⟨o1, l1⟩, o2⟩ := hes j e he
  exact ⟨⟨o1, fun g hg => .inl (by rcases l1 g hg with h | ⟨_, h⟩; exact h; simpa using h)⟩, o2⟩

/-- The lists that are kept (n of them, i more), one that began as the list of entry i, and its copy. -/
def Grows (w : World) (B : Nat) (lab : Nat → Tag) (Hb n i : Nat) (es : List Ent) (v u : Value) (l m : List UInt8) : Prop :=
  Held w B lab Hb n es ∧ (OwnX w B v l ∧ LTag lab n i v) ∧ (OwnX w B u m ∧ Tagged lab u (.want (n + i))) ∧ es.length = n + i ∧ i < n ∧ ∃ e, es[i]? = some e ∧ e.bytes.length ≤ l.length

theorem Grows.below {w w' : World} {B : Nat} {lab : Nat → Tag} {Hb n i : Nat} {es : List Ent} {v u : Value} {l m : List UInt8} (h : Grows w B lab Hb n i es v u l m) (hb : Below w.heap.size w w') : Grows w' B lab Hb n i es v u l m :=
  ⟨h.1.below hb, ⟨h.2.1.1.below hb, h.2.1.2⟩, ⟨h.2.2.1.1.below hb, h.2.2.1.2⟩, h.2.2.2⟩

/-- The list grows. -/
theorem Grows.out {w w' : World} {B : Nat} {lab : Nat → Tag} {Hb n i : Nat} {es : List Ent} {v u v' : Value} {l m x : List UInt8} (h : Grows w B lab Hb n i es v u l m) (ho : OwnX w' B v' (l ++ x)) (hg : w.grownBy w' v.ownBlock)
    (hk : ∀ (b0 : Nat) (u : Value) (ys : List UInt8), OwnX w b0 u ys → (u.ownBlock = v.ownBlock → ys.length ≤ l.length) → OwnX w' b0 u ys) (hv : v'.ownBlock = v.ownBlock ∨ v'.ownBlock = some w.heap.size) :
    Grows w' B (fun k => if k = w.heap.size then .out (n + i) else lab k) Hb n i es v' u (l ++ x) m ∧ Kept (NotUser lab) w w' := by
  obtain ⟨hh, ⟨ov, tv⟩, ⟨ou, tu⟩, hle, hin, e, he, hel⟩ := h
  have hlab : ∀ k, k < w.heap.size → (fun k => if k = w.heap.size then Tag.out (n + i) else lab k) k = lab k := fun k hk => if_neg (by omega)
  have tv1 : LTag (fun k => if k = w.heap.size then Tag.out (n + i) else lab k) n i v := fun g hgv => by rw [hlab g (ov.lt g hgv).2]; exact tv g hgv
  have tu1 := tu.congrX ou hlab
  have kg : Kept (fun q => some q = v.ownBlock) w w' := Kept.ofGrown hg (fun g hg => hg.symm)
  refine ⟨⟨(hh.relabel hlab).growOut hle hin e he v l tv1 hel hg hk, ⟨ho, fun g hgv => ?_⟩, ⟨kg.OwnX ou (fun g hgu hx => ?_), tu1⟩, hle, hin, e, he, by simp; omega⟩, kg.mono (fun q _ hq => ?_)⟩
  · rcases hv with hv | hv
    · exact tv1 g (hv.symm.trans hgv)
    · rw [hv] at hgv
      simp only [Option.some.injEq] at hgv
      right
      exact if_pos hgv.symm
  · have h1 := tu g hgu
    rcases tv g hx.symm with h2 | h2 <;> rw [h1] at h2 <;> cases h2
  · intro a
    rcases tv q hq.symm with h2 | h2 <;> rw [h2] <;> simp
/-- Its copy grows. -/
theorem Grows.want {w w' : World} {B : Nat} {lab : Nat → Tag} {Hb n i : Nat} {es : List Ent} {v u u' : Value} {l m x : List UInt8} (h : Grows w B lab Hb n i es v u l m) (ho : OwnX w' B u' (m ++ x)) (hg : w.grownBy w' u.ownBlock) (hv : u'.ownBlock = u.ownBlock ∨ u'.ownBlock = some w.heap.size) :
    Grows w' B (fun k => if k = w.heap.size then .want (n + i) else lab k) Hb n i es v u' l (m ++ x) ∧ Kept (NotUser lab) w w' := by
  obtain ⟨hh, ⟨ov, tv⟩, ⟨ou, tu⟩, hle, hin, e, he, hel⟩ := h
  have hlab : ∀ k, k < w.heap.size → (fun k => if k = w.heap.size then Tag.want (n + i) else lab k) k = lab k := fun k hk => if_neg (by omega)
  have tv1 : LTag (fun k => if k = w.heap.size then Tag.want (n + i) else lab k) n i v := fun g hgv => by rw [hlab g (ov.lt g hgv).2]; exact tv g hgv
  have tu1 := tu.congrX ou hlab
  have kg : Kept (fun q => some q = u.ownBlock) w w' := Kept.ofGrown hg (fun g hg => hg.symm)
  refine ⟨⟨(hh.relabel hlab).growWant u (by rw [hle]; exact tu1) hg, ⟨kg.OwnX ov (fun g hgv hx => ?_), tv1⟩, ⟨ho, fun g hgv => ?_⟩, hle, hin, e, he, hel⟩, kg.mono (fun q _ hq => ?_)⟩
  · have h1 := tu g hx.symm
    rcases tv g hgv with h2 | h2 <;> rw [h1] at h2 <;> cases h2
  · rcases hv with hv | hv
    · exact tu1 g (hv.symm.trans hgv)
    · rw [hv] at hgv
      simp only [Option.some.injEq] at hgv
      exact if_pos hgv.symm
  · intro a
    rw [tu q hq.symm]
    simp

/-- A copy is made, and the growing begins. -/
theorem Grows.start {w w1 : World} {B : Nat} {lab : Nat → Tag} {Hb n i : Nat} {es : List Ent} {u : Value} (h : Held w B lab Hb n es) (hle : es.length = n + i) (hin : i < n) (e : Ent) (he : es[i]? = some e) (hb : Below w.heap.size w w1) (ou : OwnX w1 w.heap.size u e.bytes) (hB : B ≤ w.heap.size) :
    Grows w1 B (fun k => if k < w.heap.size then lab k else .want (n + i)) Hb n i es e.out u e.bytes e.bytes := by
  have hlab : ∀ k, k < w.heap.size → (fun k => if k < w.heap.size then lab k else Tag.want (n + i)) k = lab k := fun k hk => if_pos hk
  have h1 := (h.relabel hlab).below hb
  obtain ⟨vo, vw, hr, hes⟩ := h
  obtain ⟨⟨o1, l1⟩, o2⟩ := hes i e he
  refine ⟨h1, ⟨o1.below hb, fun g hg => ?_⟩, ⟨ou.mono hB, fun g hg => ?_⟩, hle, hin, e, he, Nat.le_refl _⟩
  · left
    rw [hlab g (o1.lt g hg).2]
    rcases l1 g hg with h | ⟨hn, _⟩
    · exact h
    · omega
  · have := (ou.lt g hg).1
    exact if_neg (by omega)

/-- Both are put into the lists. -/
theorem Grows.entry {w : World} {B : Nat} {lab : Nat → Tag} {Hb n i : Nat} {es : List Ent} {v u : Value} {l : List UInt8} (h : Grows w B lab Hb n i es v u l l) : EntAt w B lab n es.length ⟨v, u, l⟩ := by
  obtain ⟨_, ⟨ov, tv⟩, ⟨ou, tu⟩, hle, _⟩ := h
  rw [hle]
  exact ⟨⟨ov, fun g hg => by rcases tv g hg with h | h; exact .inr ⟨by omega, by rw [h]; congr 1; omega⟩; exact .inl h⟩, ⟨ou, tu⟩⟩

/-- One entry more: what both appends and both stores make. -/
theorem Held.pushed {w w2 w4 : World} {B : Nat} {lab : Nat → Tag} {Hb n : Nat} {es : List Ent} {vo vw vo' vw' : Value} {e : Ent} (hr : HRows w B lab Hb vo vw (es.map (·.out)) (es.map (·.want))) (hes : Ents w B lab n es) (hnew : EntAt w B lab n es.length e) (o1 o2 : Obj)
    (ho1 : w2.ownsRow B 34 1 vo' ((es.map (·.out)).length + 1) (es.map (·.out) ++ [e.out])) (hg1 : (w.alloc o1).grownBy w2 vo.ownBlock) (hv1 : vo'.ownBlock = vo.ownBlock ∨ vo'.ownBlock = some (w.alloc o1).heap.size)
    (ho2 : w4.ownsRow B 34 1 vw' ((es.map (·.want)).length + 1) (es.map (·.want) ++ [e.want])) (hg2 : ((w2.setCell ⟨Hb, 0, none⟩ vo').alloc o2).grownBy w4 vw.ownBlock) (hv2 : vw'.ownBlock = vw.ownBlock ∨ vw'.ownBlock = some ((w2.setCell ⟨Hb, 0, none⟩ vo').alloc o2).heap.size) :
    ∃ lab', Held (w4.setCell ⟨Hb, 1, none⟩ vw') B lab' Hb n (es ++ [e]) ∧ (∀ k, k < w.heap.size → lab' k = lab k) ∧ Kept (Lists lab) w (w4.setCell ⟨Hb, 1, none⟩ vw') := by
  have hal1 : Below w.heap.size w (w.alloc o1) := (Below.refl _ w).alloc (Nat.le_refl _) _
  obtain ⟨hr3, k3⟩ := (hr.alloc o1).pushOut ho1 hg1 hv1
  obtain ⟨hr5, k5⟩ := (hr3.alloc o2).pushWant ho2 hg2 hv2
  have hz2 := hg1.size
  have chain : ∀ j f, EntAt w B lab n j f → EntAt (w4.setCell ⟨Hb, 1, none⟩ vw') B _ n j f := fun j f h => (((h.below hal1).push k3 .outs (.inl rfl)).below ((Below.refl _ _).alloc (Nat.le_refl _) o2)).push k5 .wants (.inr rfl)
  refine ⟨_, ⟨_, _, by rw [List.map_append, List.map_append]; exact hr5, ?_⟩, ?_, ?_⟩
  · intro j f hj
    refine chain j f ?_
    by_cases hjl : j < es.length
    · rw [List.getElem?_append_left hjl] at hj
      exact hes j f hj
    · rw [List.getElem?_append_right (by omega)] at hj
      have hj0 : j - es.length = 0 := by have := (List.getElem?_eq_some_iff.1 hj).1; simp at this; omega
      obtain rfl : j = es.length := by omega
      rw [hj0] at hj
      simp only [List.getElem?_cons_zero, Option.some.injEq] at hj
      subst hj
      exact hnew
  · intro k hk
    simp at hz2 ⊢
    rw [if_neg (by omega), if_neg (by omega)]
  · refine (((Kept.ofBelow hal1 : Kept (Lists lab) w _).step k3 ?_).trans (Kept.ofBelow ((Below.refl _ _).alloc (Nat.le_refl _) o2))).step k5 ?_
    · intro k hk h
      exact h
    · intro k hk h
      unfold Lists at h ⊢
      simp only [World.size_alloc] at h
      rw [if_neg (by omega)] at h
      exact h
end Go.Proofs.YtomgnailgddchaaDoor

namespace Go.Proofs.YtomgnailgddchaaDoor
open Go.RowKit Go.Lib

theorem row_shape {w : World} {B e : Nat} {v : Value} {n : Nat} {xs : List Value} (h : w.ownsRow B e 1 v n xs) : ∃ a c, v = .slice a n c ∧ c ≤ maxLen ∧ n ≤ c ∧ (0 < n → ∃ g, a = some ⟨g, 0, none⟩ ∧ v.ownBlock = some g ∧ ∀ (j : Nat) x, xs[j]? = some x → w.cell? ⟨g, j, none⟩ = some x) := by
  rcases h.2 with ⟨rfl, h0⟩ | ⟨g, cap, cur, rfl, hb, hg, hnc, hcm, hcs, htake⟩
  · subst h0; exact ⟨none, 0, rfl, by simp [maxLen], Nat.le_refl _, fun h => by omega⟩
  · refine ⟨_, cap, rfl, hcm, hnc, fun _ => ⟨g, rfl, rfl, fun j x hj => ?_⟩⟩
    have := h.cells (g := g) rfl j x hj
    cases j with
    | zero => simpa [Addr.add] using this
    | succ j => simpa [Addr.add] using this

theorem same_yes (a1 a2 : Option Addr) (c1 c2 : Nat) (xs : List UInt8) (w : World) (h1 : IsBytes w a1 c1 xs) (h2 : IsBytes w a2 c2 xs) :
    Calls Tryd.prog 29 #[.slice a1 xs.length c1, .slice a2 xs.length c2] w fun e w' => e = .returned (.bool true) ∧ ∃ n, w' = w.drewN n := by
  refine (same_any a1 a2 c1 c2 xs xs w h1 h2).mono ?_
  rintro e w' ⟨rfl, h⟩
  exact ⟨by simp, h⟩

set_option maxHeartbeats 1000000 in
set_option maxRecDepth 1000000 in
theorem holds_any (w : World) (B : Nat) (lab : Nat → Tag) (Hb n : Nat) (es : List Ent) (h : Held w B lab Hb n es) :
    Calls Tryd.prog 13 #[.pointer (some ⟨Hb, 0, none⟩)] w fun e w' => e = .returned (.bool true) ∧ ∃ m, w' = w.drewN m := by
  obtain ⟨vo, vw, hr, hes⟩ := h
  have k0 := hr.cell0
  have k1 := hr.cell1
  obtain ⟨ao, co, rfl, hco, hno, hob⟩ := row_shape hr.2.2.2.1.1
  obtain ⟨aw, cw, rfl, hcw, hnw, hwb⟩ := row_shape hr.2.2.2.2.1
  rw [List.length_map] at k0 k1 hno hnw hob hwb
  unfold maxLen at hco hcw
  have HES : Hid (Ents w B lab n es) := hes
  have HOB : Hid (0 < es.length → ∃ g, ao = some ⟨g, 0, none⟩ ∧ (Value.slice ao es.length co).ownBlock = some g ∧ ∀ (j : Nat) x, (es.map (·.out))[j]? = some x → w.cell? ⟨g, j, none⟩ = some x) := hob
  have HWB : Hid (0 < es.length → ∃ g, aw = some ⟨g, 0, none⟩ ∧ (Value.slice aw es.length cw).ownBlock = some g ∧ ∀ (j : Nat) x, (es.map (·.want))[j]? = some x → w.cell? ⟨g, j, none⟩ = some x) := hwb
  clear hr hes hob hwb
  go_enter Tryd.func13, Tryd.ntmps13
  go_wp2
  go_loopw [3] (fun i wr => ∃ k : Nat, k ≤ es.length ∧ i = .int .i64 k ∧ ∃ m, wr = w.drewN m) (fun i _ => es.length - (intOf i).toNat)
  case atStart => exact ⟨0, Nat.zero_le _, rfl, 0, rfl⟩
  case round =>
    obtain ⟨k, hk, rfl, m, hm⟩ := hrel
    have HM : Hid (wr = w.drewN m) := hm
    have HB : Hid (Below w.heap.size w wr) := by rw [hm]; exact below_drewN (Below.refl _ w) m
    have q0 : wr.cell? ⟨Hb, 0, none⟩ = some (.slice ao es.length co) := by rw [hm]; exact k0
    have q1 : wr.cell? ⟨Hb, 1, none⟩ = some (.slice aw es.length cw) := by rw [hm]; exact k1
    by_cases hlt : k < es.length
    · obtain ⟨go, rfl, _, hoc⟩ := HOB.out (by omega)
      obtain ⟨gw, rfl, _, hwc⟩ := HWB.out (by omega)
      obtain ⟨e, he⟩ : ∃ e, es[k]? = some e := ⟨_, List.getElem?_eq_getElem hlt⟩
      have c1 : wr.cell? ⟨go, k, none⟩ = some e.out := by rw [hm]; exact hoc k e.out (by simp [he])
      have c2 : wr.cell? ⟨gw, k, none⟩ = some e.want := by rw [hm]; exact hwc k e.want (by simp [he])
      obtain ⟨⟨o1, _⟩, o2, _⟩ := HES.out k e he
      obtain ⟨a1, d1, h1, i1⟩ := o1.shape
      obtain ⟨a2, d2, h2, i2⟩ := o2.shape
      rw [h1] at c1
      rw [h2] at c2
      have I1 : Hid (IsBytes wr a1 d1 e.bytes) := i1.below HB.out
      have I2 : Hid (IsBytes wr a2 d2 e.bytes) := i2.below HB.out
      have hki : (k : Int) < (es.length : Int) := by omega
      clear hoc hwc o1 o2 i1 i2 h1 h2 he hm k0 k1
      go_wp2_with fail
      go_quiet ((go_at_call 29; exact Calls.quiet_of (same_yes _ _ _ _ e.bytes _ (I1.out.below (below_drewN (Below.refl _ wr) _)) (I2.out.below (below_drewN (Below.refl _ wr) _)))))
      go_wp2
      go_roundw
      case rel => exact ⟨k + 1, by omega, by go_num, m + nq, by rw [HM.out, World.drewN_drewN]⟩
      case measure => simp [intOf]; omega
    · clear hm
      go_wp2
      go_ret
      exact ⟨rfl, m, HM.out⟩
end Go.Proofs.YtomgnailgddchaaDoor

namespace Go.Proofs.YtomgnailgddchaaDoor
open Go.RowKit Go.Lib

theorem Own.lit (w : World) (B : Nat) (hB : B ≤ w.heap.size) : Own (w.alloc (.cells #[] 5)) B (.slice (some ⟨w.heap.size, 0, none⟩) 0 0) [] := World.ownsRow_made w #[] 0 hB (by unfold maxLen; omega) (by simp)

set_option maxHeartbeats 1000000 in
set_option maxRecDepth 1000000 in
theorem copied_any (a : Option Addr) (c : Nat) (l : List UInt8) (w : World) (hl : IsBytes w a c l) (hb : l.length ≤ 140737488355328) :
    Calls Tryd.prog 28 #[.slice a l.length c] w fun e w' => ∃ v, e = .returned v ∧ Own w' w.heap.size v l ∧ Below w.heap.size w w' ∧ v ≠ .slice none 0 0 := by
  have HL : Hid (IsBytes w a c l) := hl
  clear hl
  go_enter Tryd.func28, Tryd.ntmps28
  go_wp2_with (at_builtin; go_must (refine wpList_append8 rfl (.tmp 5) (.tmp 6) rfl w.heap.size (.slice (some ⟨w.heap.size, 0, none⟩) 0 0) [] rfl (Own.lit w _ (Nat.le_refl _)) a c l rfl (HL.out.below ((Below.refl _ w).alloc (Nat.le_refl _) _)) (by simp; omega) (by simp) ?_; intro v1 w1 hown1 hgr1 _ _ hnil1))
  go_ret
  refine ⟨v1, rfl, hown1, ((Below.refl _ w).alloc (Nat.le_refl _) _).grown hgr1 (by simp) (fun k hk => by simp [Value.ownBlock] at hk; omega), fun h => by simpa using hnil1.1 h⟩
end Go.Proofs.YtomgnailgddchaaDoor

namespace Go.Proofs.YtomgnailgddchaaDoor
open Go.RowKit Go.Lib

theorem info_bytes : (Tryd.prog.info? 34).map (fun i => (i.zero, i.size, i.bytes)) = some (some (.slice none 0 0), 1, 24) := by kernel_rfl

theorem one_new (w : World) (v : Value) (t : TypeId) : ∃ p, (some (⟨w.heap.size, 0, none⟩ : Addr)) = some p ∧ ∀ j u, [v][j]? = some u → (w.alloc (.cells #[v] t)).cell? (p.add j) = some u := by
  refine ⟨_, rfl, fun j u hj => ?_⟩
  match j, hj with
  | 0, hj => simpa [Addr.add] using hj
  | (j + 1), hj => simp at hj

/-- 'append' of one slice onto a list of the call's own. -/
theorem wpList_push {w : World} {ops : Array Oper} {rest : List Oper} {o : Oper} {a : Act} {Q : Exit → Act → World → Prop} (hgd : o.guard = none) (s x : Operand)
    (ho : o.op = .call { callee := .builtin .append, args := #[s, x], argTypes := #[31, 31] })
    (B : Nat) (v : Value) (os : List Value) (hs : a.eval s = v) (hown : w.ownsRow B 34 1 v os.length os) (u : Value) (k : Nat) (hk : k = w.heap.size) (hx : a.eval x = .slice (some ⟨k, 0, none⟩) 1 1) (hu : u.oneCell' = true)
    (hb : os.length ≤ 1073741824) (hbase : B ≤ w.heap.size)
    (h : ∀ v' w', w'.ownsRow B 34 1 v' (os.length + 1) (os ++ [u]) → (w.alloc (.cells #[u] 34)).grownBy w' v.ownBlock → (v'.ownBlock = v.ownBlock ∨ v'.ownBlock = some (w.heap.size + 1)) →
      wpList Tryd.prog ops Q rest (a.put o.dst v') w') : wpList Tryd.prog ops Q (o :: rest) a (w.alloc (.cells #[u] 34)) := by
  subst hk
  obtain ⟨i, hi, hz0, hz1, hz2⟩ := info_parts info_bytes
  refine wpList_append_keeps hgd s x 31 ho B 34 i (.slice none 0 0) Tryd.underlying31 hi hz0 hz1 rfl v os.length os hs (hown.alloc _) (some ⟨w.heap.size, 0, none⟩) 1 1 [u] hx rfl (.inr (one_new w u _)) (by intro y hy; simp at hy; subst hy; exact hu) (by unfold maxLen; omega) (by rw [hz2]; omega) (by simp; omega) ?_
  intro v' w' h1 h2 _ h4 _
  exact h v' w' h1 h2 (by simpa using h4)

theorem one_of_own {w : World} {B : Nat} {v : Value} {l : List UInt8} (h : OwnX w B v l) : v.oneCell' = true := by
  obtain ⟨a, c, rfl, _⟩ := h.shape
  rfl

set_option maxHeartbeats 2000000 in
set_option maxRecDepth 1000000 in
theorem heldKeep_any (w : World) (B : Nat) (lab : Nat → Tag) (Hb n : Nat) (es : List Ent) (a : Option Addr) (c : Nat) (l : List UInt8) (hh : Held w B lab Hb n es) (hB : B ≤ w.heap.size)
    (hv : OwnX w B (.slice a l.length c) l) (ht : Tagged lab (.slice a l.length c) (.out es.length)) (hl : l.length ≤ 140737488355328) (he : es.length ≤ 1073741824) :
    Calls Tryd.prog 26 #[.pointer (some ⟨Hb, 0, none⟩), .slice a l.length c] w fun e w' => e = .returned (.tuple #[]) ∧
      ∃ lab' cw, Held w' B lab' Hb n (es ++ [⟨.slice a l.length c, cw, l⟩]) ∧ (∀ k, k < w.heap.size → lab' k = lab k) ∧ Kept (Lists lab) w w' := by
  have HH : Hid (Held w B lab Hb n es) := hh
  have HV : Hid (OwnX w B (.slice a l.length c) l) := hv
  have HT : Hid (Tagged lab (.slice a l.length c) (.out es.length)) := ht
  have his : IsBytes w a c l := by
    obtain ⟨a1, c1, h1, h2⟩ := hv.shape
    simp only [Value.slice.injEq] at h1
    obtain ⟨rfl, _, rfl⟩ := h1
    exact h2
  have IS : Hid (IsBytes w a c l) := his
  clear hh hv ht his
  go_enter Tryd.func26, Tryd.ntmps26
  go_wp2_with fail
  refine (copied_any a c l w IS.out hl).mono ?_
  rintro e w1 ⟨cw, rfl, ownc0, B1, _⟩
  have ownc := OwnX.ofOwn ownc0
  clear ownc0
  obtain ⟨ac, cc, rfl, _⟩ := ownc.shape
  obtain ⟨lab1, hlab1⟩ : ∃ lab1 : Nat → Tag, lab1 = fun k => if k < w.heap.size then lab k else .want es.length := ⟨_, rfl⟩
  have hl1 : ∀ k, k < w.heap.size → lab1 k = lab k := fun k hk => by rw [hlab1]; simp [hk]
  have tc : Tagged lab1 (.slice ac l.length cc) (.want es.length) := fun g hg => by have := (ownc.lt g hg).1; rw [hlab1]; simp only []; rw [if_neg (by omega)]
  have tv : Tagged lab1 (.slice a l.length c) (.out es.length) := HT.out.congrX HV.out hl1
  have hz1 := B1.size
  obtain ⟨vo, vw, hr, hes⟩ := (HH.out.relabel hl1).below B1
  obtain ⟨ao, co, rfl, _⟩ := row_shape hr.2.2.2.1.1
  obtain ⟨aw, cv, rfl, _⟩ := row_shape hr.2.2.2.2.1
  rw [List.length_map, List.length_map] at hr
  have k0 := hr.cell0
  have f0 := hr.frozen 0
  have hHb := hr.lt
  have HR : Hid (HRows w1 B lab1 Hb (.slice ao es.length co) (.slice aw es.length cv) (es.map (·.out)) (es.map (·.want))) := hr
  have HES : Hid (Ents w1 B lab1 n es) := hes
  have OV : Hid (OwnX w1 B (.slice a l.length c) l) := HV.out.below B1
  have OC : Hid (OwnX w1 B (.slice ac l.length cc) l) := (ownc.mono hB)
  have K1 : Hid (Kept (Lists lab) w w1) := Kept.ofBelow B1
  have TC : Hid (Tagged lab1 (.slice ac l.length cc) (.want es.length)) := tc
  have TV : Hid (Tagged lab1 (.slice a l.length c) (.out es.length)) := tv
  have HL1 : Hid (∀ k, k < w.heap.size → lab1 k = lab k) := hl1
  clear hr hes ownc B1 tc tv hl1 hlab1
  have hBw : B ≤ w1.heap.size := by omega
  have hlo : (es.map (·.out)).length ≤ 1073741824 := by simpa using he
  have hlw : (es.map (·.want)).length ≤ 1073741824 := by simpa using he
  go_wp2_with (first
             | (refine wpList_push rfl (.tmp 11) (.tmp 13) rfl B (.slice ao es.length co) (es.map (·.out)) rfl HR.out.2.2.2.1.1 (.slice a l.length c) _ rfl rfl rfl hlo hBw ?_
                intro vo' w2 ho hgr hvb
                obtain ⟨ao', co', hvo', _⟩ := row_shape ho
                rw [List.length_map] at hvo'
                subst hvo'
                obtain ⟨c20, _, f20, _⟩ := box_cell ((HR.out.alloc (.cells #[.slice a l.length c] 34)).boxOut hgr)
                have hp := (HR.out.alloc (.cells #[.slice a l.length c] 34)).pushOut ho hgr (by simpa using hvb)
                have HR3 : Hid (HRows (w2.setCell ⟨Hb, 0, none⟩ (.slice ao' (es.length + 1) co')) B (fun k => if k = (w1.alloc (.cells #[.slice a l.length c] 34)).heap.size then .outs else lab1 k) Hb (.slice ao' (es.length + 1) co') (.slice aw es.length cv) (es.map (·.out) ++ [.slice a l.length c]) (es.map (·.want))) := hp.1
                have K3 : Hid (Kept (Lists lab1) (w1.alloc (.cells #[.slice a l.length c] 34)) (w2.setCell ⟨Hb, 0, none⟩ (.slice ao' (es.length + 1) co'))) := hp.2
                obtain ⟨_, c21, _, _⟩ := box_cell HR3.out.1
                have hz2 := hgr.size
                clear hp ho hgr hvb)
             | (refine wpList_push rfl (.tmp 21) (.tmp 23) rfl B (.slice aw es.length cv) (es.map (·.want)) rfl HR3.out.2.2.2.2.1 (.slice ac l.length cc) _ (by simp) rfl rfl hlw (by simp at hz2 ⊢; omega) ?_
                intro vw' w4 ho hgr hvb
                obtain ⟨aw', cv', hvw', _⟩ := row_shape ho
                rw [List.length_map] at hvw'
                subst hvw'
                obtain ⟨_, c41, _, f41⟩ := box_cell ((HR3.out.alloc (.cells #[.slice ac l.length cc] 34)).boxWant hgr)))
  go_end0
  obtain ⟨hr5, k5⟩ := (HR3.out.alloc (.cells #[.slice ac l.length cc] 34)).pushWant ho hgr (by simpa using hvb)
  have hal1 : Below w1.heap.size w1 (w1.alloc (.cells #[.slice a l.length c] 34)) := (Below.refl _ w1).alloc (Nat.le_refl _) _
  have chain : ∀ j e, EntAt w1 B lab1 n j e → EntAt (w4.setCell ⟨Hb, 1, none⟩ (.slice aw' (es.length + 1) cv')) B _ n j e := fun j e h => (((h.below hal1).push K3.out .outs (.inl rfl)).below ((Below.refl _ _).alloc (Nat.le_refl _) (.cells #[.slice ac l.length cc] 34))).push k5 .wants (.inr rfl)
  refine ⟨rfl, _, .slice ac l.length cc, ⟨_, _, by rw [List.map_append, List.map_append]; exact hr5, ?_⟩, ?_, ?_⟩
  · intro j e hj
    refine chain j e ?_
    by_cases hjl : j < es.length
    · rw [List.getElem?_append_left hjl] at hj
      exact HES.out j e hj
    · rw [List.getElem?_append_right (by omega)] at hj
      have hj0 : j - es.length = 0 := by have := (List.getElem?_eq_some_iff.1 hj).1; simp at this; omega
      obtain rfl : j = es.length := by omega
      rw [hj0] at hj
      simp only [List.getElem?_cons_zero, Option.some.injEq] at hj
      subst hj
      exact ⟨⟨OV.out, fun g hg => .inl (TV.out g hg)⟩, ⟨OC.out, TC.out⟩⟩
  · intro k hk
    simp at hz2 ⊢
    rw [if_neg (by omega), if_neg (by omega)]
    exact HL1.out k hk
  · refine (((K1.out.trans (Kept.ofBelow hal1)).step K3.out ?_).trans (Kept.ofBelow ((Below.refl _ _).alloc (Nat.le_refl _) (.cells #[.slice ac l.length cc] 34)))).step k5 ?_
    · intro k hk h
      unfold Lists at h ⊢
      rwa [HL1.out k hk] at h
    · intro k hk h
      unfold Lists at h ⊢
      simp only [World.size_alloc] at h
      rw [if_neg (by omega), HL1.out k hk] at h
      exact h
end Go.Proofs.YtomgnailgddchaaDoor
