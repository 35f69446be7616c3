/-
  XStore, XHeld, XSpoiling, XGrowing.
-/
import Derived.Test.YtienggblpmkjjaaDoorAppend
import Derived.OwnWalk
import Derived.Test.YtienggblpmkjjaaDoorOwnX
import Derived.Deep.WholeRow
namespace Go.Proofs.YtienggblpmkjjaaDoor
open Go.RowKit

theorem IsBytes.takeX {w : World} {a : Option Addr} {c : Nat} {l : List UInt8} (h : IsBytes w a c l) (k : Nat) : IsBytes w a c (l.take k) := by
  obtain ⟨h1, h2, h3⟩ := h
  refine ⟨by simp; omega, h2, ?_⟩
  rcases h3 with rfl | ⟨b, o, ha, hb, hc⟩
  · left; simp
  · refine .inr ⟨b, o, ha, hb, fun j x hj => hc j x ?_⟩
    have hjk : j < k := by have := (List.getElem?_eq_some_iff.1 hj).1; simp at this; omega
    rwa [List.getElem?_take_of_lt hjk] at hj
theorem IsBytes.head {w : World} {a : Option Addr} {c : Nat} {l m : List UInt8} (h : IsBytes w a c (l ++ m)) : IsBytes w a c l := by
  have := h.takeX l.length
  rwa [List.take_left] at this

theorem Own.is {w : World} {B g m cap : Nat} {X : List UInt8} (h : Own w B (.slice (some ⟨g, 0, none⟩) m cap) X) : IsBytes w (some ⟨g, 0, none⟩) cap X ∧ X.length = m := by
  obtain ⟨a, c, hv, his⟩ := h.shape
  simp only [Value.slice.injEq] at hv
  obtain ⟨rfl, rfl, rfl⟩ := hv
  exact ⟨his, rfl⟩
theorem Own.block {w : World} {B g m cap : Nat} {X : List UInt8} (h : Own w B (.slice (some ⟨g, 0, none⟩) m cap) X) : B ≤ g ∧ g < w.heap.size := h.lt g rfl
theorem Own.cell {w : World} {B g m cap : Nat} {X : List UInt8} (h : Own w B (.slice (some ⟨g, 0, none⟩) m cap) X) (j : Nat) (x : UInt8) (hx : X[j]? = some x) : w.cell? ⟨g, j, none⟩ = some (.int .u8 (x.toNat : Int)) := by
  rcases h.is.1.2.2 with rfl | ⟨b, o, ha, hb, hc⟩
  · simp at hx
  · simp only [Option.some.injEq, Addr.mk.injEq] at ha
    obtain ⟨rfl, rfl, _⟩ := ha
    have := hc j x hx
    rwa [Nat.zero_add] at this
theorem Own.frozen {w : World} {B g m cap : Nat} {X : List UInt8} (h : Own w B (.slice (some ⟨g, 0, none⟩) m cap) X) (j : Nat) : w.frozen? ⟨g, j, none⟩ = false := by
  rcases h.2 with ⟨h', _⟩ | ⟨g', cap', cur, h', hb, hg, _⟩
  · simp at h'
  · simp only [Value.slice.injEq, Option.some.injEq, Addr.mk.injEq] at h'
    obtain ⟨⟨rfl, _⟩, _⟩ := h'
    simp [World.frozen?, hg]
theorem Own.set {w : World} {B g m cap : Nat} {X : List UInt8} (h : Own w B (.slice (some ⟨g, 0, none⟩) m cap) X) (j : Nat) (x : UInt8) :
    Own (w.setCell ⟨g, j, none⟩ (.int .u8 (x.toNat : Int))) B (.slice (some ⟨g, 0, none⟩) m cap) (X.set j x) ∧ w.grownBy (w.setCell ⟨g, j, none⟩ (.int .u8 (x.toNat : Int))) (some g) := by
  have hm := h.is.2
  unfold Own at h ⊢
  rw [hm] at h
  have := h.stored j (.int .u8 (x.toNat : Int))
  rw [List.length_set, hm, show u8s (X.set j x) = (u8s X).set j (.int .u8 (x.toNat : Int)) by simp [u8s, List.map_set]]
  exact this
theorem Own.keep {w w' : World} {B C : Nat} {v : Value} {X : List UInt8} (h : Own w B v X) (hb : Below C w w') (hC : ∀ g, v.ownBlock = some g → g < C) : Own w' B v X := by
  refine ⟨h.1, ?_⟩
  rcases h.2 with h0 | ⟨g, cap, cur, rfl, hB, hg, rest⟩
  · exact .inl h0
  · exact .inr ⟨g, cap, cur, rfl, hB, (hb.block g (hC g rfl)).trans hg, rest⟩

/-- The first k bytes turned. -/
def turned (l : List UInt8) (k : Nat) : List UInt8 := (l.take k).map (fun b => b ^^^ 33) ++ l.drop k
theorem turned_zero (l : List UInt8) : turned l 0 = l := by simp [turned]
theorem turned_length (l : List UInt8) (k : Nat) : (turned l k).length = l.length := by simp [turned]; omega
theorem turned_all (l : List UInt8) : turned l l.length = l.map fun b => b ^^^ 33 := by simp [turned]
theorem turned_get (l m : List UInt8) (k : Nat) (x : UInt8) (hx : l[k]? = some x) : (turned l k ++ m)[k]? = some x := by
  have hk := (List.getElem?_eq_some_iff.1 hx).1
  rw [List.getElem?_append_left (by rw [turned_length]; exact hk)]
  unfold turned
  rw [List.getElem?_append_right (by simp; omega)]
  simp only [List.length_map, List.length_take, List.getElem?_drop]
  rw [show k + (k - min k l.length) = k by omega]
  exact hx
theorem turned_set (l m : List UInt8) (k : Nat) (x : UInt8) (hx : l[k]? = some x) : (turned l k ++ m).set k (x ^^^ 33) = turned l (k + 1) ++ m := by
  have hk := (List.getElem?_eq_some_iff.1 hx).1
  have hg := (List.getElem?_eq_some_iff.1 hx).2
  rw [List.set_append_left _ _ (by rw [turned_length]; exact hk)]
  congr 1
  unfold turned
  rw [List.set_append_right _ _ (by simp; omega), List.drop_eq_getElem_cons hk, hg, List.take_add_one, hx]
  simp only [List.length_map, List.length_take]
  rw [show k - min k l.length = 0 by omega]
  simp
theorem xor33 (x : UInt8) : bits .xor .u8 (x.toNat : Int) 33 = (((x ^^^ 33 : UInt8).toNat : Nat) : Int) := by
  have hx := x.toNat_lt
  have h : x.toNat ^^^ 33 < 256 := Nat.xor_lt_two_pow (n := 8) hx (by decide)
  have ha' : x.toNat % 2 ^ IntKind.u8.bits = x.toNat := Nat.mod_eq_of_lt hx
  have e : bits .xor .u8 (x.toNat : Int) ((33 : Nat) : Int) = ((x.toNat ^^^ 33 : Nat) : Int) := by
    simp only [bits, BitVec.ofInt_natCast, BitVec.toNat_xor, BitVec.toNat_ofNat, ha', show 33 % 2 ^ IntKind.u8.bits = 33 from rfl]
    rw [IntKind.wrap_u8]
    omega
  rw [show (33 : Int) = ((33 : Nat) : Int) from rfl, e]
  simp
end Go.Proofs.YtienggblpmkjjaaDoor

namespace Go.Proofs.YtienggblpmkjjaaDoor
open Go.RowKit

/-- Whose block. -/
structure Tag where
  kind : Nat
  num : Nat
abbrev Tag.box : Tag := ⟨0, 0⟩
abbrev Tag.outs : Tag := ⟨1, 0⟩
abbrev Tag.wants : Tag := ⟨2, 0⟩
abbrev Tag.out (i : Nat) : Tag := ⟨3, i⟩
abbrev Tag.want (i : Nat) : Tag := ⟨4, i⟩
abbrev Tag.user (i : Nat) : Tag := ⟨5, i⟩

/-- A slice's block bears a tag. -/
def Tagged (lab : Nat → Tag) (v : Value) (t : Tag) : Prop := ∀ g, v.ownBlock = some g → lab g = t
/-- One entry. -/
structure Ent where
  out : Value
  want : Value
  bytes : List UInt8

/-- The struct and its two lists. -/
def HRows (w : World) (B : Nat) (lab : Nat → Tag) (Hb : Nat) (vo vw : Value) (os ws : List Value) : Prop :=
  w.heap[Hb]? = some (.cells #[vo, vw] 28) ∧ lab Hb = .box ∧ B ≤ Hb ∧ (w.ownsRow B 22 1 vo os.length os ∧ Tagged lab vo .outs) ∧ (w.ownsRow B 22 1 vw ws.length ws ∧ Tagged lab vw .wants)
/-- One entry's bytes. -/
def EntAt (w : World) (B : Nat) (lab : Nat → Tag) (n j : Nat) (e : Ent) : Prop :=
  (OwnX w B e.out e.bytes ∧ ∀ g, e.out.ownBlock = some g → lab g = .out j ∨ (n ≤ j ∧ lab g = .out (j - n))) ∧ (OwnX w B e.want e.bytes ∧ Tagged lab e.want (.want j))
def Ents (w : World) (B : Nat) (lab : Nat → Tag) (n : Nat) (es : List Ent) : Prop := ∀ (j : Nat) e, es[j]? = some e → EntAt w B lab n j e
def Held (w : World) (B : Nat) (lab : Nat → Tag) (Hb n : Nat) (es : List Ent) : Prop :=
  ∃ vo vw, HRows w B lab Hb vo vw (es.map (·.out)) (es.map (·.want)) ∧ Ents w B lab n es

theorem Tagged.congr {w : World} {B e : Nat} {lab lab' : Nat → Tag} {v : Value} {n : Nat} {xs : List Value} {t : Tag} (h : Tagged lab v t) (ho : w.ownsRow B e 1 v n xs) (hl : ∀ k, k < w.heap.size → lab' k = lab k) : Tagged lab' v t := fun g hg => (hl g (ho.lt g hg).2).trans (h g hg)
theorem Tagged.congrX {w : World} {B : Nat} {lab lab' : Nat → Tag} {v : Value} {l : List UInt8} {t : Tag} (h : Tagged lab v t) (ho : OwnX w B v l) (hl : ∀ k, k < w.heap.size → lab' k = lab k) : Tagged lab' v t := fun g hg => (hl g (ho.lt g hg).2).trans (h g hg)
theorem HRows.lt {w : World} {B : Nat} {lab : Nat → Tag} {Hb : Nat} {vo vw : Value} {os ws : List Value} (h : HRows w B lab Hb vo vw os ws) : Hb < w.heap.size := (Array.getElem?_eq_some_iff.1 h.1).1
theorem HRows.relabel {w : World} {B : Nat} {lab lab' : Nat → Tag} {Hb : Nat} {vo vw : Value} {os ws : List Value} (h : HRows w B lab Hb vo vw os ws) (hl : ∀ k, k < w.heap.size → lab' k = lab k) : HRows w B lab' Hb vo vw os ws :=
  ⟨h.1, (hl Hb h.lt).trans h.2.1, h.2.2.1, ⟨h.2.2.2.1.1, h.2.2.2.1.2.congr h.2.2.2.1.1 hl⟩, ⟨h.2.2.2.2.1, h.2.2.2.2.2.congr h.2.2.2.2.1 hl⟩⟩
theorem EntAt.relabel {w : World} {B : Nat} {lab lab' : Nat → Tag} {n j : Nat} {e : Ent} (h : EntAt w B lab n j e) (hl : ∀ k, k < w.heap.size → lab' k = lab k) : EntAt w B lab' n j e :=
  ⟨⟨h.1.1, fun g hg => by rw [hl g (h.1.1.lt g hg).2]; exact h.1.2 g hg⟩, ⟨h.2.1, h.2.2.congrX h.2.1 hl⟩⟩
theorem Ents.relabel {w : World} {B : Nat} {lab lab' : Nat → Tag} {n : Nat} {es : List Ent} (h : Ents w B lab n es) (hl : ∀ k, k < w.heap.size → lab' k = lab k) : Ents w B lab' n es := fun j e he => (h j e he).relabel hl
theorem Held.relabel {w : World} {B : Nat} {lab lab' : Nat → Tag} {Hb n : Nat} {es : List Ent} (h : Held w B lab Hb n es) (hl : ∀ k, k < w.heap.size → lab' k = lab k) : Held w B lab' Hb n es := by
  obtain ⟨vo, vw, h1, h2⟩ := h
  exact ⟨vo, vw, h1.relabel hl, h2.relabel hl⟩

theorem HRows.kept {P : Nat → Prop} {w w' : World} {B : Nat} {lab : Nat → Tag} {Hb : Nat} {vo vw : Value} {os ws : List Value} (h : HRows w B lab Hb vo vw os ws) (hk : Kept P w w') (hP : ∀ k, lab k = .box ∨ lab k = .outs ∨ lab k = .wants → ¬ P k) : HRows w' B lab Hb vo vw os ws :=
  ⟨(hk.block Hb h.lt (hP _ (.inl h.2.1))).trans h.1, h.2.1, h.2.2.1, ⟨hk.own h.2.2.2.1.1 (fun g hg => hP _ (.inr (.inl (h.2.2.2.1.2 g hg)))), h.2.2.2.1.2⟩, ⟨hk.own h.2.2.2.2.1 (fun g hg => hP _ (.inr (.inr (h.2.2.2.2.2 g hg)))), h.2.2.2.2.2⟩⟩
theorem EntAt.kept {P : Nat → Prop} {w w' : World} {B : Nat} {lab : Nat → Tag} {n j : Nat} {e : Ent} (h : EntAt w B lab n j e) (hk : Kept P w w') (hP : ∀ k, lab k = .out j ∨ (n ≤ j ∧ lab k = .out (j - n)) ∨ lab k = .want j → ¬ P k) : EntAt w' B lab n j e :=
  ⟨⟨hk.OwnX h.1.1 (fun g hg => hP g (by rcases h.1.2 g hg with h | h; exact .inl h; exact .inr (.inl h))), h.1.2⟩, ⟨hk.OwnX h.2.1 (fun g hg => hP g (.inr (.inr (h.2.2 g hg)))), h.2.2⟩⟩
theorem Held.kept {P : Nat → Prop} {w w' : World} {B : Nat} {lab : Nat → Tag} {Hb n : Nat} {es : List Ent} (h : Held w B lab Hb n es) (hk : Kept P w w') (hP : ∀ k, (∀ i, lab k ≠ .user i) → ¬ P k) : Held w' B lab Hb n es := by
  obtain ⟨vo, vw, h1, h2⟩ := h
  refine ⟨vo, vw, h1.kept hk (fun k hk => hP k (fun i e => ?_)), fun j e he => (h2 j e he).kept hk (fun k hk => hP k (fun i e => ?_))⟩
  · rw [e] at hk; simp at hk
  · rw [e] at hk; simp at hk
theorem Held.below {w w' : World} {B : Nat} {lab : Nat → Tag} {Hb n : Nat} {es : List Ent} (h : Held w B lab Hb n es) (hb : Below w.heap.size w w') : Held w' B lab Hb n es := h.kept (Kept.ofBelow (P := fun _ => False) hb) (fun _ _ h => h)

/-- Blocks of the struct and its lists. -/
def Lists (lab : Nat → Tag) (k : Nat) : Prop := lab k = .box ∨ lab k = .outs ∨ lab k = .wants

/-- A new struct. -/
theorem Held.start (w : World) (B : Nat) (lab : Nat → Tag) (hB : B ≤ w.heap.size) (hl : lab w.heap.size = .box) : Held (w.alloc (.cells #[.slice none 0 0, .slice none 0 0] 28)) B lab w.heap.size 0 [] :=
  ⟨_, _, ⟨heap_alloc_last _ _, hl, hB, ⟨World.ownsRow_nil _ _ _ _, fun g hg => by simp [Value.ownBlock] at hg⟩, ⟨World.ownsRow_nil _ _ _ _, fun g hg => by simp [Value.ownBlock] at hg⟩⟩, fun j e he => by simp at he⟩

/-- 'h.out = append(h.out, v)': what the append's law gives, then the store. -/
theorem HRows.pushOut {w w1 : World} {B : Nat} {lab : Nat → Tag} {Hb : Nat} {vo vw v vo' : Value} {os ws : List Value} (h : HRows w B lab Hb vo vw os ws) (ho : w1.ownsRow B 22 1 vo' (os.length + 1) (os ++ [v])) (hg : w.grownBy w1 vo.ownBlock) (hv : vo'.ownBlock = vo.ownBlock ∨ vo'.ownBlock = some w.heap.size) :
    HRows (w1.setCell ⟨Hb, 0, none⟩ vo') B (fun k => if k = w.heap.size then .outs else lab k) Hb vo' vw (os ++ [v]) ws ∧ Kept (Lists lab) w (w1.setCell ⟨Hb, 0, none⟩ vo') := by
  have hlt := h.lt
  obtain ⟨h1, h2, h3, ⟨h4, h5⟩, ⟨h6, h7⟩⟩ := h
  have hH : w1.heap[Hb]? = some (.cells #[vo, vw] 28) := (hg.block Hb hlt (fun e => by have := h5 Hb e.symm; rw [h2] at this; cases this)).trans h1
  have kset : Kept (fun k => k = Hb) w1 (w1.setCell ⟨Hb, 0, none⟩ vo') := Kept.setCell _ w1 Hb 0 vo' rfl
  have hlab : ∀ k, k < w.heap.size → (fun k => if k = w.heap.size then Tag.outs else lab k) k = lab k := fun k hk => by simp only []; rw [if_neg (by omega)]
  have tvo : Tagged (fun k => if k = w.heap.size then Tag.outs else lab k) vo' .outs := fun g hgv => by
    rcases hv with hv | hv
    · rw [hv] at hgv
      rw [hlab g (h4.lt g hgv).2]
      exact h5 g hgv
    · rw [hv] at hgv
      simp only [Option.some.injEq] at hgv
      simp [hgv]
  have hne : ∀ g, vo'.ownBlock = some g → g ≠ Hb := fun g hgv e => by
    subst e
    have := tvo g hgv
    rw [hlab g hlt, h2] at this
    cases this
  have kall : Kept (Lists lab) w (w1.setCell ⟨Hb, 0, none⟩ vo') := (Kept.ofGrown (P := Lists lab) hg (fun g e => .inr (.inl (h5 g e)))).trans (Kept.setCell _ w1 Hb 0 vo' (.inl h2))
  refine ⟨⟨?_, (hlab Hb hlt).trans h2, h3, ⟨?_, tvo⟩, ⟨?_, h7.congr h6 hlab⟩⟩, kall⟩
  · rw [setCell_eq_setRow w1 Hb 0 _ _ _ _ hH, setRow_heap w1 Hb _ _ _ _ hH]
    rfl
  · rw [List.length_append]
    exact kset.own ho (fun g hgv => hne g hgv)
  · have := (Kept.ofGrown (P := fun k => lab k = .outs) hg (fun g e => h5 g e)).own h6 (fun g e => by rw [h7 g e]; simp)
    exact kset.own this (fun g e hh => by have := h7 g e; rw [hh, h2] at this; cases this)
/-- 'h.want = append(h.want, v)'. -/
theorem HRows.pushWant {w w1 : World} {B : Nat} {lab : Nat → Tag} {Hb : Nat} {vo vw v vw' : Value} {os ws : List Value} (h : HRows w B lab Hb vo vw os ws) (ho : w1.ownsRow B 22 1 vw' (ws.length + 1) (ws ++ [v])) (hg : w.grownBy w1 vw.ownBlock) (hv : vw'.ownBlock = vw.ownBlock ∨ vw'.ownBlock = some w.heap.size) :
    HRows (w1.setCell ⟨Hb, 1, none⟩ vw') B (fun k => if k = w.heap.size then .wants else lab k) Hb vo vw' os (ws ++ [v]) ∧ Kept (Lists lab) w (w1.setCell ⟨Hb, 1, none⟩ vw') := by
  have hlt := h.lt
  obtain ⟨h1, h2, h3, ⟨h6, h7⟩, ⟨h4, h5⟩⟩ := h
  have hH : w1.heap[Hb]? = some (.cells #[vo, vw] 28) := (hg.block Hb hlt (fun e => by have := h5 Hb e.symm; rw [h2] at this; cases this)).trans h1
  have kset : Kept (fun k => k = Hb) w1 (w1.setCell ⟨Hb, 1, none⟩ vw') := Kept.setCell _ w1 Hb 1 vw' rfl
  have hlab : ∀ k, k < w.heap.size → (fun k => if k = w.heap.size then Tag.wants else lab k) k = lab k := fun k hk => by simp only []; rw [if_neg (by omega)]
  have tvo : Tagged (fun k => if k = w.heap.size then Tag.wants else lab k) vw' .wants := fun g hgv => by
    rcases hv with hv | hv
    · rw [hv] at hgv
      rw [hlab g (h4.lt g hgv).2]
      exact h5 g hgv
    · rw [hv] at hgv
      simp only [Option.some.injEq] at hgv
      simp [hgv]
  have hne : ∀ g, vw'.ownBlock = some g → g ≠ Hb := fun g hgv e => by
    subst e
    have := tvo g hgv
    rw [hlab g hlt, h2] at this
    cases this
  have kall : Kept (Lists lab) w (w1.setCell ⟨Hb, 1, none⟩ vw') := (Kept.ofGrown (P := Lists lab) hg (fun g e => .inr (.inr (h5 g e)))).trans (Kept.setCell _ w1 Hb 1 vw' (.inl h2))
  refine ⟨⟨?_, (hlab Hb hlt).trans h2, h3, ⟨?_, h7.congr h6 hlab⟩, ⟨?_, tvo⟩⟩, kall⟩
  · rw [setCell_eq_setRow w1 Hb 1 _ _ _ _ hH, setRow_heap w1 Hb _ _ _ _ hH]
    rfl
  · have := (Kept.ofGrown (P := fun k => lab k = .wants) hg (fun g e => h5 g e)).own h6 (fun g e => by rw [h7 g e]; simp)
    exact kset.own this (fun g e hh => by have := h7 g e; rw [hh, h2] at this; cases this)
  · rw [List.length_append]
    exact kset.own ho (fun g hgv => hne g hgv)

theorem HRows.below {w w' : World} {B : Nat} {lab : Nat → Tag} {Hb : Nat} {vo vw : Value} {os ws : List Value} (h : HRows w B lab Hb vo vw os ws) (hb : Below w.heap.size w w') : HRows w' B lab Hb vo vw os ws := h.kept (Kept.ofBelow (P := fun _ => False) hb) (fun _ _ h => h)
theorem HRows.alloc {w : World} {B : Nat} {lab : Nat → Tag} {Hb : Nat} {vo vw : Value} {os ws : List Value} (h : HRows w B lab Hb vo vw os ws) (o : Obj) : HRows (w.alloc o) B lab Hb vo vw os ws := h.below ((Below.refl _ w).alloc (Nat.le_refl _) o)
theorem HRows.boxOut {w w2 : World} {B : Nat} {lab : Nat → Tag} {Hb : Nat} {vo vw : Value} {os ws : List Value} (h : HRows w B lab Hb vo vw os ws) (hg : w.grownBy w2 vo.ownBlock) : w2.heap[Hb]? = some (.cells #[vo, vw] 28) :=
  (hg.block Hb h.lt (fun e => by have := h.2.2.2.1.2 Hb e.symm; rw [h.2.1] at this; cases this)).trans h.1
theorem HRows.boxWant {w w2 : World} {B : Nat} {lab : Nat → Tag} {Hb : Nat} {vo vw : Value} {os ws : List Value} (h : HRows w B lab Hb vo vw os ws) (hg : w.grownBy w2 vw.ownBlock) : w2.heap[Hb]? = some (.cells #[vo, vw] 28) :=
  (hg.block Hb h.lt (fun e => by have := h.2.2.2.2.2 Hb e.symm; rw [h.2.1] at this; cases this)).trans h.1
theorem box_cell {w : World} {Hb : Nat} {vo vw : Value} (h : w.heap[Hb]? = some (.cells #[vo, vw] 28)) : w.cell? ⟨Hb, 0, none⟩ = some vo ∧ w.cell? ⟨Hb, 1, none⟩ = some vw ∧ w.frozen? ⟨Hb, 0, none⟩ = false ∧ w.frozen? ⟨Hb, 1, none⟩ = false := by
  simp [World.cell?, World.frozen?, h]
theorem EntAt.below {w w' : World} {B : Nat} {lab : Nat → Tag} {n j : Nat} {e : Ent} (h : EntAt w B lab n j e) (hb : Below w.heap.size w w') : EntAt w' B lab n j e := h.kept (Kept.ofBelow (P := fun _ => False) hb) (fun _ _ h => h)
theorem EntAt.push {w w' : World} {B : Nat} {lab : Nat → Tag} {n j : Nat} {e : Ent} (h : EntAt w B lab n j e) (hk : Kept (Lists lab) w w') (t : Tag) (ht : t = .outs ∨ t = .wants) : EntAt w' B (fun k => if k = w.heap.size then t else lab k) n j e := by
  refine (h.relabel (lab' := fun k => if k = w.heap.size then t else lab k) (fun k hk => if_neg (by omega))).kept hk (fun k hl hL => ?_)
  by_cases hkw : k = w.heap.size
  · simp only [hkw, if_true] at hl
    rcases ht with rfl | rfl <;> simp at hl
  · simp only [hkw, if_false] at hl
    rcases hL with h | h | h <;> rw [h] at hl <;> simp at hl
theorem HRows.cell0 {w : World} {B : Nat} {lab : Nat → Tag} {Hb : Nat} {vo vw : Value} {os ws : List Value} (h : HRows w B lab Hb vo vw os ws) : w.cell? ⟨Hb, 0, none⟩ = some vo := by simp [World.cell?, h.1]
theorem HRows.cell1 {w : World} {B : Nat} {lab : Nat → Tag} {Hb : Nat} {vo vw : Value} {os ws : List Value} (h : HRows w B lab Hb vo vw os ws) : w.cell? ⟨Hb, 1, none⟩ = some vw := by simp [World.cell?, h.1]
theorem HRows.frozen {w : World} {B : Nat} {lab : Nat → Tag} {Hb : Nat} {vo vw : Value} {os ws : List Value} (h : HRows w B lab Hb vo vw os ws) (i : Nat) : w.frozen? ⟨Hb, i, none⟩ = false := by simp [World.frozen?, h.1]
end Go.Proofs.YtienggblpmkjjaaDoor

namespace Go.Proofs.YtienggblpmkjjaaDoor
open Go.RowKit

/-- Blocks that are not the caller's own. -/
def NotUser (lab : Nat → Tag) (k : Nat) : Prop := ∀ i, lab k ≠ .user i

theorem set_same {α : Type} (l : List α) (i : Nat) (x : α) (h : l[i]? = some x) : l.set i x = l := by
  apply List.ext_getElem?
  intro j
  rw [List.getElem?_set]
  by_cases hij : i = j
  · subst hij
    have := (List.getElem?_eq_some_iff.1 h).1
    simp [this]
    exact (List.getElem?_eq_some_iff.1 h).2.symm
  · simp [hij]

/-- One byte of an entry marked, in both of its lists. -/
theorem Held.mark {w : World} {B : Nat} {lab : Nat → Tag} {Hb : Nat} {es : List Ent} (h : Held w B lab Hb 0 es) (i k : Nat) (e : Ent) (he : es[i]? = some e) (x : UInt8) (hkl : k < e.bytes.length) (go co gw cw : Nat)
    (ho : e.out = .slice (some ⟨go, 0, none⟩) e.bytes.length co) (hw : e.want = .slice (some ⟨gw, 0, none⟩) e.bytes.length cw) :
    Held ((w.setCell ⟨go, k, none⟩ (.int .u8 (x.toNat : Int))).setCell ⟨gw, k, none⟩ (.int .u8 (x.toNat : Int))) B lab Hb 0 (es.set i ⟨e.out, e.want, e.bytes.set k x⟩) ∧
      Kept (NotUser lab) w ((w.setCell ⟨go, k, none⟩ (.int .u8 (x.toNat : Int))).setCell ⟨gw, k, none⟩ (.int .u8 (x.toNat : Int))) := by
  obtain ⟨vo, vw, hr, hes⟩ := h
  obtain ⟨⟨o1, l1⟩, o2, l2⟩ := hes i e he
  have lo : lab go = .out i := by rcases l1 go (by rw [ho]; rfl) with h | ⟨_, h⟩; exact h; simpa using h
  have lw : lab gw = .want i := l2 gw (by rw [hw]; rfl)
  have kk1 : Kept (fun j => j = go) w (w.setCell ⟨go, k, none⟩ (.int .u8 (x.toNat : Int))) := Kept.setCell _ _ _ _ _ rfl
  have kk2 : Kept (fun j => j = gw) (w.setCell ⟨go, k, none⟩ (.int .u8 (x.toNat : Int))) ((w.setCell ⟨go, k, none⟩ (.int .u8 (x.toNat : Int))).setCell ⟨gw, k, none⟩ (.int .u8 (x.toNat : Int))) := Kept.setCell _ _ _ _ _ rfl
  have hne : go ≠ gw := fun h => by rw [h, lw] at lo; cases lo
  rw [ho] at o1
  rw [hw] at o2
  have s1 := (o1.set k x hkl)
  have s2 := kk1.OwnX o2 (fun g hg e => by simp [Value.ownBlock] at hg; omega)
  have t1 := kk2.OwnX s1 (fun g hg e => by simp [Value.ownBlock] at hg; omega)
  have t2 := (s2.set k x hkl)
  have hmo : (es.set i ⟨e.out, e.want, e.bytes.set k x⟩).map (·.out) = es.map (·.out) := by
    rw [List.map_set, set_same _ _ _ (by simp [he])]
  have hmw : (es.set i ⟨e.out, e.want, e.bytes.set k x⟩).map (·.want) = es.map (·.want) := by
    rw [List.map_set, set_same _ _ _ (by simp [he])]
  refine ⟨⟨vo, vw, ?_, ?_⟩, ?_⟩
  · rw [hmo, hmw]
    exact (hr.kept kk1 (fun j hj e => by rw [e, lo] at hj; simp at hj)).kept kk2 (fun j hj e => by rw [e, lw] at hj; simp at hj)
  · intro j f hf
    by_cases hji : j = i
    · subst hji
      rw [List.getElem?_set_self (List.getElem?_eq_some_iff.1 he).1] at hf
      simp only [Option.some.injEq] at hf
      subst hf
      refine ⟨⟨?_, l1⟩, ?_, l2⟩
      · simp only []
        rw [ho]
        exact t1
      · simp only []
        rw [hw]
        exact t2
    · rw [List.getElem?_set_ne (fun h => hji h.symm)] at hf
      have := hes j f hf
      refine (this.kept kk1 (fun q hq e => ?_)).kept kk2 (fun q hq e => ?_)
      · rw [e, lo] at hq
        simp at hq
        omega
      · rw [e, lw] at hq
        simp at hq
        omega
  · exact (kk1.mono (fun q _ e => by intro u; rw [e, lo]; simp)).trans (kk2.mono (fun q _ e => by intro u; rw [e, lw]; simp))

/-- A list that has begun to grow: where its bytes lie. -/
def LTag (lab : Nat → Tag) (n i : Nat) (v : Value) : Prop := ∀ g, v.ownBlock = some g → lab g = .out i ∨ lab g = .out (n + i)

/-- A list grows that began as the list of entry i: what is kept reads as it did. -/
theorem Held.growOut {w w' : World} {B : Nat} {lab : Nat → Tag} {Hb n i : Nat} {es : List Ent} (h : Held w B lab Hb n es) (hle : es.length = n + i) (hin : i < n) (e : Ent) (he : es[i]? = some e) (v : Value) (l : List UInt8) (hv : LTag lab n i v) (hel : e.bytes.length ≤ l.length)
    (hg : w.grownBy w' v.ownBlock) (hk : ∀ (b0 : Nat) (u : Value) (ys : List UInt8), OwnX w b0 u ys → (u.ownBlock = v.ownBlock → ys.length ≤ l.length) → OwnX w' b0 u ys) : Held w' B lab Hb n es := by
  obtain ⟨vo, vw, hr, hes⟩ := h
  have kg : Kept (fun q => some q = v.ownBlock) w w' := Kept.ofGrown hg (fun g hg => hg.symm)
  refine ⟨vo, vw, hr.kept kg (fun q hq e => ?_), fun j f hf => ?_⟩
  · rcases hv q e.symm with h | h <;> rw [h] at hq <;> simp at hq
  · have hjl := (List.getElem?_eq_some_iff.1 hf).1
    obtain ⟨⟨o1, l1⟩, o2, l2⟩ := hes j f hf
    refine ⟨⟨hk B f.out f.bytes o1 (fun hb => ?_), l1⟩, kg.OwnX o2 (fun g hg hx => ?_), l2⟩
    · cases hfo : f.out.ownBlock with
      | none => rw [nil_of_noneX o1 hfo]; simp
      | some g =>
        have hj : j = i := by
          rcases l1 g hfo with h1 | ⟨hnj, h1⟩ <;> rcases hv g (by rw [← hb]; exact hfo) with h2 | h2 <;> rw [h1] at h2 <;> simp at h2 <;> omega
        subst hj
        rw [he] at hf
        simp only [Option.some.injEq] at hf
        rw [← hf]
        exact hel
    · have h1 := l2 g hg
      rcases hv g hx.symm with h2 | h2 <;> rw [h1] at h2 <;> cases h2
/-- .. and the copy beside it. -/
theorem Held.growWant {w w' : World} {B : Nat} {lab : Nat → Tag} {Hb n : Nat} {es : List Ent} (h : Held w B lab Hb n es) (v : Value) (hv : Tagged lab v (.want es.length)) (hg : w.grownBy w' v.ownBlock) : Held w' B lab Hb n es := by
  obtain ⟨vo, vw, hr, hes⟩ := h
  have kg : Kept (fun q => some q = v.ownBlock) w w' := Kept.ofGrown hg (fun g hg => hg.symm)
  refine ⟨vo, vw, hr.kept kg (fun q hq e => ?_), fun j f hf => (hes j f hf).kept kg (fun q hq e => ?_)⟩
  · rw [hv q e.symm] at hq; simp at hq
  · have hjl := (List.getElem?_eq_some_iff.1 hf).1
    rw [hv q e.symm] at hq
    simp at hq
    omega
end Go.Proofs.YtienggblpmkjjaaDoor

namespace Go.Proofs.YtienggblpmkjjaaDoor
open Go.RowKit

theorem Held.toN {w : World} {B : Nat} {lab : Nat → Tag} {Hb : Nat} {es : List Ent} (h : Held w B lab Hb 0 es) : Held w B lab Hb es.length es := by
  obtain ⟨vo, vw, hr, hes⟩ := h
  refine ⟨vo, vw, hr, fun j e he => ?_⟩
  obtain ⟨⟨o1, l1⟩, o2⟩ := hes j e he
  exact ⟨⟨o1, fun g hg => .inl (by rcases l1 g hg with h | ⟨_, h⟩; exact h; simpa using h)⟩, o2⟩

/-- The lists that are kept (n of them, i more), one that began as the list of entry i, and its copy. -/
def Grows (w : World) (B : Nat) (lab : Nat → Tag) (Hb n i : Nat) (es : List Ent) (v u : Value) (l m : List UInt8) : Prop :=
  Held w B lab Hb n es ∧ (OwnX w B v l ∧ LTag lab n i v) ∧ (OwnX w B u m ∧ Tagged lab u (.want (n + i))) ∧ es.length = n + i ∧ i < n ∧ ∃ e, es[i]? = some e ∧ e.bytes.length ≤ l.length

theorem Grows.below {w w' : World} {B : Nat} {lab : Nat → Tag} {Hb n i : Nat} {es : List Ent} {v u : Value} {l m : List UInt8} (h : Grows w B lab Hb n i es v u l m) (hb : Below w.heap.size w w') : Grows w' B lab Hb n i es v u l m :=
  ⟨h.1.below hb, ⟨h.2.1.1.below hb, h.2.1.2⟩, ⟨h.2.2.1.1.below hb, h.2.2.1.2⟩, h.2.2.2⟩

/-- The list grows. -/
theorem Grows.out {w w' : World} {B : Nat} {lab : Nat → Tag} {Hb n i : Nat} {es : List Ent} {v u v' : Value} {l m x : List UInt8} (h : Grows w B lab Hb n i es v u l m) (ho : OwnX w' B v' (l ++ x)) (hg : w.grownBy w' v.ownBlock)
    (hk : ∀ (b0 : Nat) (u : Value) (ys : List UInt8), OwnX w b0 u ys → (u.ownBlock = v.ownBlock → ys.length ≤ l.length) → OwnX w' b0 u ys) (hv : v'.ownBlock = v.ownBlock ∨ v'.ownBlock = some w.heap.size) :
    Grows w' B (fun k => if k = w.heap.size then .out (n + i) else lab k) Hb n i es v' u (l ++ x) m ∧ Kept (NotUser lab) w w' := by
  obtain ⟨hh, ⟨ov, tv⟩, ⟨ou, tu⟩, hle, hin, e, he, hel⟩ := h
  have hlab : ∀ k, k < w.heap.size → (fun k => if k = w.heap.size then Tag.out (n + i) else lab k) k = lab k := fun k hk => if_neg (by omega)
  have tv1 : LTag (fun k => if k = w.heap.size then Tag.out (n + i) else lab k) n i v := fun g hgv => by rw [hlab g (ov.lt g hgv).2]; exact tv g hgv
  have tu1 := tu.congrX ou hlab
  have kg : Kept (fun q => some q = v.ownBlock) w w' := Kept.ofGrown hg (fun g hg => hg.symm)
  refine ⟨⟨(hh.relabel hlab).growOut hle hin e he v l tv1 hel hg hk, ⟨ho, fun g hgv => ?_⟩, ⟨kg.OwnX ou (fun g hgu hx => ?_), tu1⟩, hle, hin, e, he, by simp; omega⟩, kg.mono (fun q _ hq => ?_)⟩
  · rcases hv with hv | hv
    · exact tv1 g (hv.symm.trans hgv)
    · rw [hv] at hgv
      simp only [Option.some.injEq] at hgv
      right
      exact if_pos hgv.symm
  · have h1 := tu g hgu
    rcases tv g hx.symm with h2 | h2 <;> rw [h1] at h2 <;> cases h2
  · intro a
    rcases tv q hq.symm with h2 | h2 <;> rw [h2] <;> simp
/-- Its copy grows. -/
theorem Grows.want {w w' : World} {B : Nat} {lab : Nat → Tag} {Hb n i : Nat} {es : List Ent} {v u u' : Value} {l m x : List UInt8} (h : Grows w B lab Hb n i es v u l m) (ho : OwnX w' B u' (m ++ x)) (hg : w.grownBy w' u.ownBlock) (hv : u'.ownBlock = u.ownBlock ∨ u'.ownBlock = some w.heap.size) :
    Grows w' B (fun k => if k = w.heap.size then .want (n + i) else lab k) Hb n i es v u' l (m ++ x) ∧ Kept (NotUser lab) w w' := by
  obtain ⟨hh, ⟨ov, tv⟩, ⟨ou, tu⟩, hle, hin, e, he, hel⟩ := h
  have hlab : ∀ k, k < w.heap.size → (fun k => if k = w.heap.size then Tag.want (n + i) else lab k) k = lab k := fun k hk => if_neg (by omega)
  have tv1 : LTag (fun k => if k = w.heap.size then Tag.want (n + i) else lab k) n i v := fun g hgv => by rw [hlab g (ov.lt g hgv).2]; exact tv g hgv
  have tu1 := tu.congrX ou hlab
  have kg : Kept (fun q => some q = u.ownBlock) w w' := Kept.ofGrown hg (fun g hg => hg.symm)
  refine ⟨⟨(hh.relabel hlab).growWant u (by rw [hle]; exact tu1) hg, ⟨kg.OwnX ov (fun g hgv hx => ?_), tv1⟩, ⟨ho, fun g hgv => ?_⟩, hle, hin, e, he, hel⟩, kg.mono (fun q _ hq => ?_)⟩
  · have h1 := tu g hx.symm
    rcases tv g hgv with h2 | h2 <;> rw [h1] at h2 <;> cases h2
  · rcases hv with hv | hv
    · exact tu1 g (hv.symm.trans hgv)
    · rw [hv] at hgv
      simp only [Option.some.injEq] at hgv
      exact if_pos hgv.symm
  · intro a
    rw [tu q hq.symm]
    simp

/-- A copy is made, and the growing begins. -/
theorem Grows.start {w w1 : World} {B : Nat} {lab : Nat → Tag} {Hb n i : Nat} {es : List Ent} {u : Value} (h : Held w B lab Hb n es) (hle : es.length = n + i) (hin : i < n) (e : Ent) (he : es[i]? = some e) (hb : Below w.heap.size w w1) (ou : OwnX w1 w.heap.size u e.bytes) (hB : B ≤ w.heap.size) :
    Grows w1 B (fun k => if k < w.heap.size then lab k else .want (n + i)) Hb n i es e.out u e.bytes e.bytes := by
  have hlab : ∀ k, k < w.heap.size → (fun k => if k < w.heap.size then lab k else Tag.want (n + i)) k = lab k := fun k hk => if_pos hk
  have h1 := (h.relabel hlab).below hb
  obtain ⟨vo, vw, hr, hes⟩ := h
  obtain ⟨⟨o1, l1⟩, o2⟩ := hes i e he
  refine ⟨h1, ⟨o1.below hb, fun g hg => ?_⟩, ⟨ou.mono hB, fun g hg => ?_⟩, hle, hin, e, he, Nat.le_refl _⟩
  · left
    rw [hlab g (o1.lt g hg).2]
    rcases l1 g hg with h | ⟨hn, _⟩
    · exact h
    · omega
  · have := (ou.lt g hg).1
    exact if_neg (by omega)

/-- Both are put into the lists. -/
theorem Grows.entry {w : World} {B : Nat} {lab : Nat → Tag} {Hb n i : Nat} {es : List Ent} {v u : Value} {l : List UInt8} (h : Grows w B lab Hb n i es v u l l) : EntAt w B lab n es.length ⟨v, u, l⟩ := by
  obtain ⟨_, ⟨ov, tv⟩, ⟨ou, tu⟩, hle, _⟩ := h
  rw [hle]
  exact ⟨⟨ov, fun g hg => by rcases tv g hg with h | h; exact .inr ⟨by omega, by rw [h]; congr 1; omega⟩; exact .inl h⟩, ⟨ou, tu⟩⟩

/-- One entry more: what both appends and both stores make. -/
theorem Held.pushed {w w2 w4 : World} {B : Nat} {lab : Nat → Tag} {Hb n : Nat} {es : List Ent} {vo vw vo' vw' : Value} {e : Ent} (hr : HRows w B lab Hb vo vw (es.map (·.out)) (es.map (·.want))) (hes : Ents w B lab n es) (hnew : EntAt w B lab n es.length e) (o1 o2 : Obj)
    (ho1 : w2.ownsRow B 22 1 vo' ((es.map (·.out)).length + 1) (es.map (·.out) ++ [e.out])) (hg1 : (w.alloc o1).grownBy w2 vo.ownBlock) (hv1 : vo'.ownBlock = vo.ownBlock ∨ vo'.ownBlock = some (w.alloc o1).heap.size)
    (ho2 : w4.ownsRow B 22 1 vw' ((es.map (·.want)).length + 1) (es.map (·.want) ++ [e.want])) (hg2 : ((w2.setCell ⟨Hb, 0, none⟩ vo').alloc o2).grownBy w4 vw.ownBlock) (hv2 : vw'.ownBlock = vw.ownBlock ∨ vw'.ownBlock = some ((w2.setCell ⟨Hb, 0, none⟩ vo').alloc o2).heap.size) :
    ∃ lab', Held (w4.setCell ⟨Hb, 1, none⟩ vw') B lab' Hb n (es ++ [e]) ∧ (∀ k, k < w.heap.size → lab' k = lab k) ∧ Kept (Lists lab) w (w4.setCell ⟨Hb, 1, none⟩ vw') := by
  have hal1 : Below w.heap.size w (w.alloc o1) := (Below.refl _ w).alloc (Nat.le_refl _) _
  obtain ⟨hr3, k3⟩ := (hr.alloc o1).pushOut ho1 hg1 hv1
  obtain ⟨hr5, k5⟩ := (hr3.alloc o2).pushWant ho2 hg2 hv2
  have hz2 := hg1.size
  have chain : ∀ j f, EntAt w B lab n j f → EntAt (w4.setCell ⟨Hb, 1, none⟩ vw') B _ n j f := fun j f h => (((h.below hal1).push k3 .outs (.inl rfl)).below ((Below.refl _ _).alloc (Nat.le_refl _) o2)).push k5 .wants (.inr rfl)
  refine ⟨_, ⟨_, _, by rw [List.map_append, List.map_append]; exact hr5, ?_⟩, ?_, ?_⟩
  · intro j f hj
    refine chain j f ?_
    by_cases hjl : j < es.length
    · rw [List.getElem?_append_left hjl] at hj
      exact hes j f hj
    · rw [List.getElem?_append_right (by omega)] at hj
      have hj0 : j - es.length = 0 := by have := (List.getElem?_eq_some_iff.1 hj).1; simp at this; omega
      obtain rfl : j = es.length := by omega
      rw [hj0] at hj
      simp only [List.getElem?_cons_zero, Option.some.injEq] at hj
      subst hj
      exact hnew
  · intro k hk
    simp at hz2 ⊢
    rw [if_neg (by omega), if_neg (by omega)]
  · refine (((Kept.ofBelow hal1 : Kept (Lists lab) w _).step k3 ?_).trans (Kept.ofBelow ((Below.refl _ _).alloc (Nat.le_refl _) o2))).step k5 ?_
    · intro k hk h
      exact h
    · intro k hk h
      unfold Lists at h ⊢
      simp only [World.size_alloc] at h
      rw [if_neg (by omega)] at h
      exact h
end Go.Proofs.YtienggblpmkjjaaDoor
