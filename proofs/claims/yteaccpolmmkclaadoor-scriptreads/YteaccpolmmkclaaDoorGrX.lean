/-
  GrA, MoW, MoX, GrH.
-/
import Derived.Test.YteaccpolmmkclaaDoorBkX
namespace Go.Proofs.YteaccpolmmkclaaDoor
open Go.RowKit

def gt : Nat → TypeId
  | 0 => 29
  | 1 => 29
  | 2 => 37
  | 3 => 37
  | _ => 38
def upd {α : Type} (f : Nat → α) (i : Nat) (x : α) : Nat → α := fun n => if n = i then x else f n
/-- The lists of 'grown' in memory: six rows of slices. -/
structure GrAt (w : World) (B gb : Nat) (V : Nat → Value) (R : Nat → List Value) : Prop where
  box : w.heap[gb]? = some (.cells #[V 0, V 1, V 2, V 3, V 4, V 5] 64 (0, 0))
  row : ∀ i, i < 6 → w.ownsRow B (gt i) 1 (V i) (R i).length (R i)
  ne : ∀ i j, i < 6 → j < 6 → i ≠ j → ∀ g, (V i).ownBlock = some g → (V j).ownBlock ≠ some g
/-- Which blocks are theirs. -/
def GQ (gb : Nat) (V : Nat → Value) (g : Nat) : Prop := g = gb ∨ ∃ i, i < 6 ∧ (V i).ownBlock = some g
theorem gt_cases {i : Nat} (hi : i < 6) : gt i = 29 ∨ gt i = 37 ∨ gt i = 38 := by
  match i, hi with
  | 0, _ => exact .inl rfl
  | 1, _ => exact .inl rfl
  | 2, _ => exact .inr (.inl rfl)
  | 3, _ => exact .inr (.inl rfl)
  | 4, _ => exact .inr (.inr rfl)
  | 5, _ => exact .inr (.inr rfl)
def isG (t : TypeId) : Prop := t = 64 ∨ t = 29 ∨ t = 37 ∨ t = 38
section
variable {w w' w2 : World} {B gb : Nat} {V : Nat → Value} {R : Nat → List Value}
theorem GrAt.lt (h : GrAt w B gb V R) : gb < w.heap.size := (Array.getElem?_eq_some_iff.1 h.box).1
theorem GrAt.typ (h : GrAt w B gb V R) {g : Nat} (hg : GQ gb V g) : ∃ cur t, w.heap[g]? = some (.cells cur t (0, 0)) ∧ isG t := by
  rcases hg with rfl | ⟨i, hi, e⟩
  · exact ⟨_, _, h.box, .inl rfl⟩
  · obtain ⟨c, hc⟩ := row_typeG (h.row i hi) e
    exact ⟨c, _, hc, .inr (gt_cases hi)⟩
theorem GrAt.tne (h : GrAt w B gb V R) {g : Nat} (hg : GQ gb V g) {cur : Array Value} {t : TypeId} (hc : w.heap[g]? = some (.cells cur t (0, 0))) : isG t := by
  obtain ⟨c, t2, h2, h3⟩ := h.typ hg
  rw [hc] at h2
  simp only [Option.some.injEq, Obj.cells.injEq] at h2
  rw [h2.2.1]
  exact h3
theorem GrAt.no (h : GrAt w B gb V R) {i : Nat} (hi : i < 6) : (V i).ownBlock ≠ some gb := fun e => by
  obtain ⟨c, hc⟩ := row_typeG (h.row i hi) e
  rw [h.box] at hc
  simp only [Option.some.injEq, Obj.cells.injEq] at hc
  have := hc.2.1
  rcases gt_cases hi with e | e | e <;> rw [e] at this <;> revert this <;> decide
theorem GrAt.kept {P : Nat → Prop} (h : GrAt w B gb V R) (hk : Kept P w w') (hP : ∀ g, GQ gb V g → ¬ P g) : GrAt w' B gb V R :=
  ⟨(hk.block gb h.lt (hP _ (.inl rfl))).trans h.box, fun i hi => row_keptG (h.row i hi) hk (fun g e => hP g (.inr ⟨i, hi, e⟩)), h.ne⟩
theorem GrAt.later (h : GrAt w B gb V R) (hb : Below w.heap.size w w') : GrAt w' B gb V R := h.kept (P := fun _ => False) (Kept.ofBelow hb) (fun _ _ h => h)
theorem GrAt.cell (h : GrAt w B gb V R) {i : Nat} (hi : i < 6) : w.cell? ⟨gb, i, none⟩ = some (V i) := by
  match i, hi with
  | 0, _ => simp [World.cell?, h.box]
  | 1, _ => simp [World.cell?, h.box]
  | 2, _ => simp [World.cell?, h.box]
  | 3, _ => simp [World.cell?, h.box]
  | 4, _ => simp [World.cell?, h.box]
  | 5, _ => simp [World.cell?, h.box]
theorem GrAt.frozen (h : GrAt w B gb V R) (i : Nat) : w.frozen? ⟨gb, i, none⟩ = false := by simp [World.frozen?, h.box]
theorem GrAt.lts (h : GrAt w B gb V R) {g : Nat} (hg : GQ gb V g) : g < w.heap.size := by
  rcases hg with rfl | ⟨i, hi, e⟩
  · exact h.lt
  · exact ((h.row i hi).lt g e).2
theorem GrAt.push (h : GrAt w B gb V R) {i : Nat} (hi : i < 6) {o : Obj} {v2 u : Value} (ho : w2.ownsRow B (gt i) 1 v2 (R i ++ [u]).length (R i ++ [u])) (hg : (w.alloc o).grownBy w2 (V i).ownBlock) (hv : v2.ownBlock = (V i).ownBlock ∨ v2.ownBlock = some (w.alloc o).heap.size) :
    GrAt (w2.setCell ⟨gb, i, none⟩ v2) B gb (upd V i v2) (upd R i (R i ++ [u])) ∧ Kept (GQ gb V) w (w2.setCell ⟨gb, i, none⟩ v2) ∧ w2.frozen? ⟨gb, i, none⟩ = false ∧ w2.cell? ⟨gb, i, none⟩ = some (V i) := by
  have ka : Kept (fun g => (V i).ownBlock = some g) w w2 := (Kept.ofBelow ((Below.refl _ w).alloc (Nat.le_refl _) o)).trans (Kept.ofGrown hg (fun g e => e))
  have ks : Kept (fun g => g = gb) w2 (w2.setCell ⟨gb, i, none⟩ v2) := Kept.setCell _ _ _ _ _ rfl
  have hbx := (ka.block gb h.lt (h.no hi)).trans h.box
  have nb : v2.ownBlock ≠ some gb := fun e => by
    obtain ⟨c, hc⟩ := row_typeG ho e
    rw [hbx] at hc
    simp only [Option.some.injEq, Obj.cells.injEq] at hc
    have := hc.2.1
    rcases gt_cases hi with e | e | e <;> rw [e] at this <;> revert this <;> decide
  have hcell : w2.cell? ⟨gb, i, none⟩ = some (V i) := by
    match i, hi with
    | 0, _ => simp [World.cell?, hbx]
    | 1, _ => simp [World.cell?, hbx]
    | 2, _ => simp [World.cell?, hbx]
    | 3, _ => simp [World.cell?, hbx]
    | 4, _ => simp [World.cell?, hbx]
    | 5, _ => simp [World.cell?, hbx]
  refine ⟨⟨?_, fun j hj => ?_, fun a b ha hb hab g e e2 => ?_⟩, (ka.mono (fun g _ e => .inr ⟨i, hi, e⟩)).trans (ks.mono (fun g _ e => .inl e)), by simp [World.frozen?, hbx], hcell⟩
  · rw [(set_cells hbx i v2).1]
    match i, hi with
    | 0, _ => rfl
    | 1, _ => rfl
    | 2, _ => rfl
    | 3, _ => rfl
    | 4, _ => rfl
    | 5, _ => rfl
  · by_cases hji : j = i
    · subst hji
      simp only [upd, if_true]
      exact row_keptG ho ks (fun g e e2 => nb (by rw [e, e2]))
    · simp only [upd, hji, if_false]
      exact row_keptG (row_keptG (h.row j hj) ka (fun g e e2 => h.ne i j hi hj (fun e => hji e.symm) g e2 e)) ks (fun g e e2 => h.no hj (by rw [e, e2]))
  · have key : ∀ c, c < 6 → c ≠ i → (V c).ownBlock = some g → v2.ownBlock ≠ some g := fun c hc hci e1 e2 => by
      rcases hv with hv | hv
      · exact h.ne c i hc hi hci g e1 (by rw [← hv, e2])
      · rw [hv] at e2
        have := ((h.row c hc).lt g e1).2
        simp at e2
        omega
    by_cases hai : a = i
    · subst hai
      have hba : ¬ b = a := fun e => hab e.symm
      simp only [upd, if_true, hba, if_false] at e e2
      exact key b hb hba e2 e
    · simp only [upd, hai, if_false] at e
      by_cases hbi : b = i
      · subst hbi
        simp only [upd, if_true] at e2
        exact key a ha hai e e2
      · simp only [upd, hbi, if_false] at e2
        exact h.ne a b ha hb hab g e e2
end
theorem info_stepl : (Tryd.prog.info? 29).map (fun i => (i.zero, i.size, i.bytes)) = some (some (.slice none 0 0), 1, 24) := by kernel_rfl
/-- 'append' of one slice onto a row of slices. -/
theorem wpList_pushV {w : World} {ops : Array Oper} {rest : List Oper} {o : Oper} {a : Act} {Q : Exit → Act → World → Prop} (hgd : o.guard = none) (s x : Operand) (t e : TypeId)
    (ho : o.op = .call { callee := .builtin .append, args := #[s, x], argTypes := #[t, t] }) (ht : Tryd.prog.underlying t = some (.slice e)) (hinfo : (Tryd.prog.info? e).map (fun i => (i.zero, i.size, i.bytes)) = some (some (.slice none 0 0), 1, 24))
    (B : Nat) (v : Value) (xs : List Value) (hs : a.eval s = v) (w0 : World) (u : Value) (hw : w = w0.alloc (.cells #[u] e)) (hown : w0.ownsRow B e 1 v xs.length xs) (hx : a.eval x = .slice (some ⟨w0.heap.size, 0, none⟩) 1 1) (h1 : u.oneCell' = true) (hb : xs.length ≤ 2147483647) (hbase : B ≤ w0.heap.size)
    (h : ∀ v' w', w'.ownsRow B e 1 v' (xs ++ [u]).length (xs ++ [u]) → (w0.alloc (.cells #[u] e)).grownBy w' v.ownBlock → (v'.ownBlock = v.ownBlock ∨ v'.ownBlock = some (w0.alloc (.cells #[u] e)).heap.size) → wpList Tryd.prog ops Q rest (a.put o.dst v') w') : wpList Tryd.prog ops Q (o :: rest) a w := by
  obtain ⟨i, hi, hz0, hz1, hz2⟩ := info_parts hinfo
  subst hw
  refine wpList_append_keeps hgd s x t ho B e i (.slice none 0 0) ht hi hz0 hz1 rfl v xs.length xs hs (World.ownsRow.alloc hown _) (some ⟨w0.heap.size, 0, none⟩) 1 1 [u] hx rfl (.inr ⟨_, rfl, fun j z hj => ?_⟩) (by intro z hz; simp at hz; subst hz; exact h1) (by unfold maxLen; omega) (by rw [hz2]; omega) (by rw [World.size_alloc]; omega) ?_
  · cases j with
    | zero =>
      simp at hj
      subst hj
      simp [Addr.add]
    | succ j => simp at hj
  · intro v' w' h1 h2 h3 h4 h5
    refine h v' w' ?_ h2 h4
    rw [List.length_append]
    exact h1
end Go.Proofs.YteaccpolmmkclaaDoor

namespace Go.Proofs.YteaccpolmmkclaaDoor
open Go.RowKit

/-- Which blocks more may turn. -/
def MQ (gb : Nat) (V : Nat → Value) (dv kv : Value) (g : Nat) : Prop := GQ gb V g ∨ dv.ownBlock = some g ∨ kv.ownBlock = some g
/-- Where more is. -/
structure MoI (W w : World) (B S gb : Nat) (V V' : Nat → Value) (R' : Nat → List Value) (p : StepP) (dv kv dv' kv' : Value) : Prop where
  b5 : w.heap[W.heap.size]? = some (.cells #[.int .i64 p.kind, .int .i64 p.conn, dv, .int .i64 p.brk, kv] 40 (0, 0))
  b6 : w.heap[W.heap.size + 1]? = some (.cells #[.int .i64 p.kind, .int .i64 p.conn, dv', .int .i64 p.brk, kv'] 40 (0, 0))
  gr : GrAt w S gb V' R'
  kept : Kept (MQ gb V dv kv) W w
  vn : ∀ i, i < 6 → ∀ g, (V' i).ownBlock = some g → (V i).ownBlock = some g ∨ W.heap.size + 2 ≤ g
  lts : ∀ g, MQ gb V dv kv g → g < W.heap.size
  lt2 : ∀ g, dv'.ownBlock = some g ∨ kv'.ownBlock = some g → g < W.heap.size
  d : Own w B dv p.data
  k : OwnI w B kv p.keep
  d' : Own w B dv' p.data
  k' : OwnI w B kv' p.keep
/-- Blocks that are the list's own, or new. -/
def Nw (W : World) (dv v : Value) : Prop := ∀ g, v.ownBlock = some g → dv.ownBlock = some g ∨ W.heap.size + 2 ≤ g
section
variable {W w w' : World} {B S gb : Nat} {V V' : Nat → Value} {R' : Nat → List Value} {p : StepP} {dv kv dv' kv' : Value}
theorem MoI.big (h : MoI W w B S gb V V' R' p dv kv dv' kv') : W.heap.size + 2 ≤ w.heap.size := by
  have := (Array.getElem?_eq_some_iff.1 h.b6).1
  omega
theorem MoI.later (h : MoI W w B S gb V V' R' p dv kv dv' kv') (hb : Below w.heap.size w w') : MoI W w' B S gb V V' R' p dv kv dv' kv' :=
  ⟨(hb.block _ (Array.getElem?_eq_some_iff.1 h.b5).1).trans h.b5, (hb.block _ (Array.getElem?_eq_some_iff.1 h.b6).1).trans h.b6, h.gr.later hb, h.kept.trans (Kept.ofBelow hb), h.vn, h.lts, h.lt2, h.d.below hb, h.k.below hb, h.d'.below hb, h.k'.below hb⟩
theorem MoI.cells (h : MoI W w B S gb V V' R' p dv kv dv' kv') : w.cell? ⟨W.heap.size, 2, none⟩ = some dv ∧ w.cell? ⟨W.heap.size, 4, none⟩ = some kv ∧ w.cell? ⟨W.heap.size + 1, 2, none⟩ = some dv' ∧ w.cell? ⟨W.heap.size + 1, 4, none⟩ = some kv' := by
  simp [World.cell?, h.b5, h.b6]
/-- Bytes grow: a list that is the step's own or new. -/
theorem MoI.grow8 (h : MoI W w B S gb V V' R' p dv kv dv' kv') {v : Value} {x : List UInt8} {Bv : Nat} (hv : Own w Bv v x) (hn : Nw W dv v) (hg : w.grownBy w' v.ownBlock) (hk : ∀ (b0 : Nat) (u : Value) (ys : List UInt8), Own w b0 u ys → (u.ownBlock = v.ownBlock → ys.length ≤ x.length) → Own w' b0 u ys) (hx : p.data.length ≤ x.length ∨ ∀ g, v.ownBlock = some g → W.heap.size + 2 ≤ g) : MoI W w' B S gb V V' R' p dv kv dv' kv' := by
  have kg : Kept (fun g => v.ownBlock = some g) w w' := Kept.ofGrown hg (fun g e => e)
  have nt : ∀ {g : Nat} {cur : Array Value} {t : TypeId}, w.heap[g]? = some (.cells cur t (0, 0)) → t ≠ 5 → ¬ v.ownBlock = some g := fun {g cur t} hc ht e => by
    obtain ⟨c2, h2⟩ := row_of_type hv e
    rw [hc] at h2
    simp only [Option.some.injEq, Obj.cells.injEq] at h2
    exact ht h2.2.1
  have d1 : Own w' B dv p.data := by
    rcases hx with hx | hx
    · exact hk _ _ _ h.d (fun _ => hx)
    · exact Kept.own kg h.d (fun g e e2 => by have := hx g e2; have := h.lts g (.inr (.inl e)); omega)
  have d2 : Own w' B dv' p.data := by
    rcases hx with hx | hx
    · exact hk _ _ _ h.d' (fun _ => hx)
    · exact Kept.own kg h.d' (fun g e e2 => by have := hx g e2; have := h.lt2 g (.inl e); omega)
  refine ⟨(kg.block _ (Array.getElem?_eq_some_iff.1 h.b5).1 (nt h.b5 (by decide))).trans h.b5, (kg.block _ (Array.getElem?_eq_some_iff.1 h.b6).1 (nt h.b6 (by decide))).trans h.b6, h.gr.kept kg (fun g hg e => ?_), h.kept.step kg (fun g hg e => ?_), h.vn, h.lts, h.lt2, d1, Kept.own kg h.k (fun g e e2 => own_8_64 hv h.k e2 e), d2, Kept.own kg h.k' (fun g e e2 => own_8_64 hv h.k' e2 e)⟩
  · obtain ⟨c2, h2⟩ := row_of_type hv e
    rcases h.gr.tne hg h2 with e | e | e | e <;> revert e <;> decide
  · rcases hn g e with e | e
    · exact .inr (.inl e)
    · omega
theorem MoI.grow64 (h : MoI W w B S gb V V' R' p dv kv dv' kv') {v : Value} {x : List Int} {Bv : Nat} (hv : OwnI w Bv v x) (hn : Nw W kv v) (hg : w.grownBy w' v.ownBlock) (hk : ∀ (b0 : Nat) (u : Value) (ys : List Int), OwnI w b0 u ys → (u.ownBlock = v.ownBlock → ys.length ≤ x.length) → OwnI w' b0 u ys) (hx : p.keep.length ≤ x.length ∨ ∀ g, v.ownBlock = some g → W.heap.size + 2 ≤ g) : MoI W w' B S gb V V' R' p dv kv dv' kv' := by
  have kg : Kept (fun g => v.ownBlock = some g) w w' := Kept.ofGrown hg (fun g e => e)
  have nt : ∀ {g : Nat} {cur : Array Value} {t : TypeId}, w.heap[g]? = some (.cells cur t (0, 0)) → t ≠ 3 → ¬ v.ownBlock = some g := fun {g cur t} hc ht e => by
    obtain ⟨c2, h2⟩ := row_of_type hv e
    rw [hc] at h2
    simp only [Option.some.injEq, Obj.cells.injEq] at h2
    exact ht h2.2.1
  have k1 : OwnI w' B kv p.keep := by
    rcases hx with hx | hx
    · exact hk _ _ _ h.k (fun _ => hx)
    · exact Kept.own kg h.k (fun g e e2 => by have := hx g e2; have := h.lts g (.inr (.inr e)); omega)
  have k2 : OwnI w' B kv' p.keep := by
    rcases hx with hx | hx
    · exact hk _ _ _ h.k' (fun _ => hx)
    · exact Kept.own kg h.k' (fun g e e2 => by have := hx g e2; have := h.lt2 g (.inr e); omega)
  refine ⟨(kg.block _ (Array.getElem?_eq_some_iff.1 h.b5).1 (nt h.b5 (by decide))).trans h.b5, (kg.block _ (Array.getElem?_eq_some_iff.1 h.b6).1 (nt h.b6 (by decide))).trans h.b6, h.gr.kept kg (fun g hg e => ?_), h.kept.step kg (fun g hg e => ?_), h.vn, h.lts, h.lt2, Kept.own kg h.d (fun g e e2 => own_8_64 h.d hv e e2), k1, Kept.own kg h.d' (fun g e e2 => own_8_64 h.d' hv e e2), k2⟩
  · obtain ⟨c2, h2⟩ := row_of_type hv e
    rcases h.gr.tne hg h2 with e | e | e | e <;> revert e <;> decide
  · rcases hn g e with e | e
    · exact .inr (.inr e)
    · omega
/-- A slice is put behind one of the six rows. -/
theorem MoI.push (h : MoI W w B S gb V V' R' p dv kv dv' kv') {w2 : World} {i : Nat} (hi : i < 6) {o : Obj} {v2 u : Value} (ho : w2.ownsRow S (gt i) 1 v2 (R' i ++ [u]).length (R' i ++ [u])) (hg : (w.alloc o).grownBy w2 (V' i).ownBlock) (hv : v2.ownBlock = (V' i).ownBlock ∨ v2.ownBlock = some (w.alloc o).heap.size) :
    MoI W (w2.setCell ⟨gb, i, none⟩ v2) B S gb V (upd V' i v2) (upd R' i (R' i ++ [u])) p dv kv dv' kv' ∧ Kept (GQ gb V') w (w2.setCell ⟨gb, i, none⟩ v2) ∧ w2.frozen? ⟨gb, i, none⟩ = false ∧ w2.cell? ⟨gb, i, none⟩ = some (V' i) := by
  obtain ⟨p1, p2, p3, p4⟩ := h.gr.push hi ho hg hv
  have nt : ∀ {g : Nat} {cur : Array Value} {t : TypeId}, w.heap[g]? = some (.cells cur t (0, 0)) → ¬ isG t → ¬ GQ gb V' g := fun {g cur t} hc ht e => ht (h.gr.tne e hc)
  have nS : ¬ isG 40 := by unfold isG; decide
  have n8 : ¬ isG 5 := by unfold isG; decide
  have n64 : ¬ isG 3 := by unfold isG; decide
  have o8 : ∀ {v : Value} {x : List UInt8}, Own w B v x → Own (w2.setCell ⟨gb, i, none⟩ v2) B v x := fun {v x} ho => Kept.own p2 ho (fun g e => by obtain ⟨c, hc⟩ := row_of_type ho e; exact nt hc n8)
  have o64 : ∀ {v : Value} {x : List Int}, OwnI w B v x → OwnI (w2.setCell ⟨gb, i, none⟩ v2) B v x := fun {v x} ho => Kept.own p2 ho (fun g e => by obtain ⟨c, hc⟩ := row_of_type ho e; exact nt hc n64)
  refine ⟨⟨(p2.block _ (Array.getElem?_eq_some_iff.1 h.b5).1 (nt h.b5 nS)).trans h.b5, (p2.block _ (Array.getElem?_eq_some_iff.1 h.b6).1 (nt h.b6 nS)).trans h.b6, p1, h.kept.step p2 (fun g hg e => ?_), fun j hj g e => ?_, h.lts, h.lt2, o8 h.d, o64 h.k, o8 h.d', o64 h.k'⟩, p2, p3, p4⟩
  · rcases e with e | ⟨j, hj, e⟩
    · exact .inl (.inl e)
    · rcases h.vn j hj g e with e | e
      · exact .inl (.inr ⟨j, hj, e⟩)
      · omega
  · by_cases hji : j = i
    · subst hji
      simp only [upd, if_true] at e
      rcases hv with hv | hv
      · exact h.vn j hj g (by rw [← hv, e])
      · rw [hv] at e
        have := h.big
        simp at e
        exact .inr (by omega)
    · simp only [upd, hji, if_false] at e
      exact h.vn j hj g e
theorem MoI.push8 (h : MoI W w B S gb V V' R' p dv kv dv' kv') (hk : Kept (GQ gb V') w w') {Bv : Nat} {v : Value} {x : List UInt8} (ho : Own w Bv v x) : Own w' Bv v x := Kept.own hk ho (fun g e e2 => by
  obtain ⟨c, hc⟩ := row_of_type ho e
  have := h.gr.tne e2 hc
  revert this
  unfold isG
  decide)
theorem MoI.push64 (h : MoI W w B S gb V V' R' p dv kv dv' kv') (hk : Kept (GQ gb V') w w') {Bv : Nat} {v : Value} {x : List Int} (ho : OwnI w Bv v x) : OwnI w' Bv v x := Kept.own hk ho (fun g e e2 => by
  obtain ⟨c, hc⟩ := row_of_type ho e
  have := h.gr.tne e2 hc
  revert this
  unfold isG
  decide)
end
theorem mo_start (W : World) (B S gb : Nat) (V : Nat → Value) (R : Nat → List Value) (p : StepP) (dv kv dv' kv' : Value) (hg : GrAt W S gb V R) (hd : Own W B dv p.data) (hk : OwnI W B kv p.keep) (hd' : Own W B dv' p.data) (hk' : OwnI W B kv' p.keep) :
    MoI W ((W.alloc (.cells #[.int .i64 p.kind, .int .i64 p.conn, dv, .int .i64 p.brk, kv] 40)).alloc (.cells #[.int .i64 p.kind, .int .i64 p.conn, dv', .int .i64 p.brk, kv'] 40)) B S gb V V R p dv kv dv' kv' := by
  have a1 := heap_alloc_new W (.cells #[.int .i64 p.kind, .int .i64 p.conn, dv, .int .i64 p.brk, kv] 40)
  have a2 := heap_alloc_new (W.alloc (.cells #[.int .i64 p.kind, .int .i64 p.conn, dv, .int .i64 p.brk, kv] 40)) (.cells #[.int .i64 p.kind, .int .i64 p.conn, dv', .int .i64 p.brk, kv'] 40)
  rw [World.size_alloc] at a2
  have b : Below W.heap.size W ((W.alloc (.cells #[.int .i64 p.kind, .int .i64 p.conn, dv, .int .i64 p.brk, kv] 40)).alloc (.cells #[.int .i64 p.kind, .int .i64 p.conn, dv', .int .i64 p.brk, kv'] 40)) := ((Below.refl _ W).alloc (Nat.le_refl _) _).alloc (by simp) _
  refine ⟨(heap_alloc_old _ _ (by simp)).trans a1, a2, hg.later b, Kept.ofBelow b, fun i hi g e => .inl e, fun g e => ?_, fun g e => ?_, hd.below b, hk.below b, hd'.below b, hk'.below b⟩
  · rcases e with e | e | e
    · exact hg.lts e
    · exact (hd.lt g e).2
    · exact (hk.lt g e).2
  · rcases e with e | e
    · exact (hd'.lt g e).2
    · exact (hk'.lt g e).2
end Go.Proofs.YteaccpolmmkclaaDoor

namespace Go.Proofs.YteaccpolmmkclaaDoor
open Go.RowKit

/-- Two lists that grow side by side: the step's own (or new), and a new one. -/
structure LP8 (W w : World) (B : Nat) (dv bv cv : Value) (bs cs : List UInt8) : Prop where
  b : Own w B bv bs
  c : Own w B cv cs
  nb : Nw W dv bv
  nc : ∀ g, cv.ownBlock = some g → W.heap.size + 2 ≤ g
  bc : ∀ g, bv.ownBlock = some g → cv.ownBlock ≠ some g
section
variable {W w w1 : World} {B : Nat} {dv b c v1 : Value} {bs cs : List UInt8} {x : UInt8}
theorem LP8.later (h : LP8 W w B dv b c bs cs) (hb : Below w.heap.size w w1) : LP8 W w1 B dv b c bs cs := ⟨h.b.below hb, h.c.below hb, h.nb, h.nc, h.bc⟩
theorem LP8.growB (h : LP8 W w B dv b c bs cs) (ho : Own w1 B v1 (bs ++ [x])) (hg : w.grownBy w1 b.ownBlock) (hv : v1.ownBlock = b.ownBlock ∨ v1.ownBlock = some w.heap.size) (hb : W.heap.size + 2 ≤ w.heap.size) : LP8 W w1 B dv v1 c (bs ++ [x]) cs := by
  refine ⟨ho, Kept.own (Kept.ofGrown hg (fun g e => e)) h.c (fun g e e2 => h.bc g e2 e), fun g e => ?_, h.nc, fun g e e2 => ?_⟩
  · rcases hv with hv | hv
    · exact h.nb g (by rw [← hv, e])
    · rw [hv] at e; simp at e; exact .inr (by omega)
  · rcases hv with hv | hv
    · exact h.bc g (by rw [← hv, e]) e2
    · rw [hv] at e
      have := (h.c.lt g e2).2
      simp at e; omega
theorem LP8.growC (h : LP8 W w B dv b c bs cs) (ho : Own w1 B v1 (cs ++ [x])) (hg : w.grownBy w1 c.ownBlock) (hv : v1.ownBlock = c.ownBlock ∨ v1.ownBlock = some w.heap.size) (hb : W.heap.size + 2 ≤ w.heap.size) : LP8 W w1 B dv b v1 bs (cs ++ [x]) := by
  refine ⟨Kept.own (Kept.ofGrown hg (fun g e => e)) h.b (fun g e e2 => h.bc g e e2), ho, h.nb, fun g e => ?_, fun g e e2 => ?_⟩
  · rcases hv with hv | hv
    · exact h.nc g (by rw [← hv, e])
    · rw [hv] at e; simp at e; omega
  · rcases hv with hv | hv
    · exact h.bc g e (by rw [← hv, e2])
    · rw [hv] at e2
      have := (h.b.lt g e).2
      simp at e2; omega
theorem LP8.nwc (h : LP8 W w B dv b c bs cs) : Nw W dv c := fun g e => .inr (h.nc g e)
end
/-- Two lists that grow side by side: the step's own (or new), and a new one. -/
structure LP64 (W w : World) (B : Nat) (dv bv cv : Value) (bs cs : List Int) : Prop where
  b : OwnI w B bv bs
  c : OwnI w B cv cs
  nb : Nw W dv bv
  nc : ∀ g, cv.ownBlock = some g → W.heap.size + 2 ≤ g
  bc : ∀ g, bv.ownBlock = some g → cv.ownBlock ≠ some g
section
variable {W w w1 : World} {B : Nat} {dv b c v1 : Value} {bs cs : List Int} {x : Int}
theorem LP64.later (h : LP64 W w B dv b c bs cs) (hb : Below w.heap.size w w1) : LP64 W w1 B dv b c bs cs := ⟨h.b.below hb, h.c.below hb, h.nb, h.nc, h.bc⟩
theorem LP64.growB (h : LP64 W w B dv b c bs cs) (ho : OwnI w1 B v1 (bs ++ [x])) (hg : w.grownBy w1 b.ownBlock) (hv : v1.ownBlock = b.ownBlock ∨ v1.ownBlock = some w.heap.size) (hb : W.heap.size + 2 ≤ w.heap.size) : LP64 W w1 B dv v1 c (bs ++ [x]) cs := by
  refine ⟨ho, Kept.own (Kept.ofGrown hg (fun g e => e)) h.c (fun g e e2 => h.bc g e2 e), fun g e => ?_, h.nc, fun g e e2 => ?_⟩
  · rcases hv with hv | hv
    · exact h.nb g (by rw [← hv, e])
    · rw [hv] at e; simp at e; exact .inr (by omega)
  · rcases hv with hv | hv
    · exact h.bc g (by rw [← hv, e]) e2
    · rw [hv] at e
      have := (h.c.lt g e2).2
      simp at e; omega
theorem LP64.growC (h : LP64 W w B dv b c bs cs) (ho : OwnI w1 B v1 (cs ++ [x])) (hg : w.grownBy w1 c.ownBlock) (hv : v1.ownBlock = c.ownBlock ∨ v1.ownBlock = some w.heap.size) (hb : W.heap.size + 2 ≤ w.heap.size) : LP64 W w1 B dv b v1 bs (cs ++ [x]) := by
  refine ⟨Kept.own (Kept.ofGrown hg (fun g e => e)) h.b (fun g e e2 => h.bc g e e2), ho, h.nb, fun g e => ?_, fun g e e2 => ?_⟩
  · rcases hv with hv | hv
    · exact h.nc g (by rw [← hv, e])
    · rw [hv] at e; simp at e; omega
  · rcases hv with hv | hv
    · exact h.bc g e (by rw [← hv, e2])
    · rw [hv] at e2
      have := (h.b.lt g e).2
      simp at e2; omega
theorem LP64.nwc (h : LP64 W w B dv b c bs cs) : Nw W dv c := fun g e => .inr (h.nc g e)
end
theorem LP8.pushed {W w w' : World} {B S gb : Nat} {V V' : Nat → Value} {R' : Nat → List Value} {p : StepP} {dv kv dv' kv' : Value} {b c : Value} {bs cs : List UInt8} (h : LP8 W w B dv b c bs cs) (hm : MoI W w B S gb V V' R' p dv kv dv' kv') (hk : Kept (GQ gb V') w w') : LP8 W w' B dv b c bs cs := ⟨hm.push8 hk h.b, hm.push8 hk h.c, h.nb, h.nc, h.bc⟩
theorem LP64.pushed {W w w' : World} {B S gb : Nat} {V V' : Nat → Value} {R' : Nat → List Value} {p : StepP} {dv kv dv' kv' : Value} {b c : Value} {bs cs : List Int} (h : LP64 W w B kv b c bs cs) (hm : MoI W w B S gb V V' R' p dv kv dv' kv') (hk : Kept (GQ gb V') w w') : LP64 W w' B kv b c bs cs := ⟨hm.push64 hk h.b, hm.push64 hk h.c, h.nb, h.nc, h.bc⟩
theorem LP8.of64 {W w w' : World} {B Bv : Nat} {dv b c v : Value} {bs cs : List UInt8} {x : List Int} (h : LP8 W w B dv b c bs cs) (hv : OwnI w Bv v x) (hg : w.grownBy w' v.ownBlock) : LP8 W w' B dv b c bs cs :=
  have kg : Kept (fun g => v.ownBlock = some g) w w' := Kept.ofGrown hg (fun _ e => e)
  ⟨Kept.own kg h.b (fun _ e e2 => own_8_64 h.b hv e e2), Kept.own kg h.c (fun _ e e2 => own_8_64 h.c hv e e2), h.nb, h.nc, h.bc⟩
def MorePost (W : World) (B S gb : Nat) (V : Nat → Value) (R : Nat → List Value) (p : StepP) (dv kv dv' kv' : Value) (n : Nat) (e : Ending) (w' : World) : Prop :=
  e = .returned (.tuple #[]) ∧ ∃ V' vb vc kb kc, GrAt w' S gb V' (upd (upd (upd (upd R 2 (R 2 ++ [vb])) 3 (R 3 ++ [vc])) 4 (R 4 ++ [kb])) 5 (R 5 ++ [kc])) ∧ Kept (MQ gb V dv kv) W w' ∧ (∀ i, i < 6 → ∀ g, (V' i).ownBlock = some g → (V i).ownBlock = some g ∨ W.heap.size + 2 ≤ g) ∧
    LP8 W w' B dv vb vc (p.data ++ List.replicate 40 (mk2 n)) (p.data ++ List.replicate 40 (mk2 n)) ∧ LP64 W w' B kv kb kc (p.keep ++ List.replicate 12 (-(n : Int))) (p.keep ++ List.replicate 12 (-(n : Int))) ∧ Own w' B dv p.data ∧ OwnI w' B kv p.keep ∧ Own w' B dv' p.data ∧ OwnI w' B kv' p.keep
set_option maxHeartbeats 8000000 in
set_option maxRecDepth 1000000 in
theorem more_any (W : World) (B S gb n : Nat) (V : Nat → Value) (R : Nat → List Value) (p : StepP) (dv kv dv' kv' : Value) (hg : GrAt W S gb V R) (hd : Own W B dv p.data) (hk : OwnI W B kv p.keep) (hd' : Own W B dv' p.data) (hk' : OwnI W B kv' p.keep) (hB : B ≤ W.heap.size) (hS : S ≤ W.heap.size) (hn : n ≤ 1000000) (hL : p.data.length ≤ 2147483647) (hM : p.keep.length ≤ 2147483647) (hR : ∀ i, i < 6 → (R i).length ≤ 1000000) :
    Calls Tryd.prog 22 #[.pointer (some ⟨gb, 0, none⟩), .agg #[.int .i64 p.kind, .int .i64 p.conn, dv, .int .i64 p.brk, kv], .agg #[.int .i64 p.kind, .int .i64 p.conn, dv', .int .i64 p.brk, kv'], .int .i64 (n : Int)] W (MorePost W B S gb V R p dv kv dv' kv' n) := by
  have H0 := hide (mo_start W B S gb V R p dv kv dv' kv' hg hd hk hd' hk')
  obtain ⟨ad, cd, e1, i1⟩ := hd.shape
  obtain ⟨ad', cd', e2, i2⟩ := hd'.shape
  obtain ⟨ak, ck, e3, i3⟩ := hk.shape
  obtain ⟨ak', ck', e4, i4⟩ := hk'.shape
  subst e1 e2 e3 e4
  clear i1 i2 i3 i4 hd hd' hk hk' hg
  obtain ⟨L, hL1⟩ : ∃ L, L = p.data.length := ⟨_, rfl⟩
  obtain ⟨M, hM1⟩ : ∃ M, M = p.keep.length := ⟨_, rfl⟩
  rw [← hL1, ← hM1] at H0 ⊢
  rw [← hL1] at hL
  rw [← hM1] at hM
  have HL := hide hL1
  have HM := hide hM1
  have HR := hide hR
  clear hL1 hM1 hR
  have hx1 : IntKind.u8.wrap (7 * (n : Int) + 2) = ((mk2 n).toNat : Int) := by rw [IntKind.wrap_u8, mk2, UInt8.toNat_ofNat']; omega
  unfold MorePost
  obtain ⟨x, hx⟩ : ∃ x, x = mk2 n := ⟨_, rfl⟩
  rw [← hx] at hx1 ⊢
  clear hx
  have wx1 : IntKind.i64.wrap (7 * (n : Int)) = 7 * (n : Int) := by rw [IntKind.wrap_i64]; omega
  have wx2 : IntKind.i64.wrap (7 * (n : Int) + 2) = 7 * (n : Int) + 2 := by rw [IntKind.wrap_i64]; omega
  have wx3 : IntKind.i64.wrap (-(n : Int)) = -(n : Int) := by rw [IntKind.wrap_i64]; omega
  obtain ⟨y, hy⟩ : ∃ y, y = -(n : Int) := ⟨_, rfl⟩
  have HY := hide hy
  rw [← hy] at wx3
  rw [← hy]
  have wx4 : IntKind.i64.wrap (-(n : Int)) = y := by rw [← hy]; exact wx3
  generalize hw0 : (W.alloc (.cells #[.int .i64 p.kind, .int .i64 p.conn, .slice ad L cd, .int .i64 p.brk, .slice ak M ck] 40)).alloc (.cells #[.int .i64 p.kind, .int .i64 p.conn, .slice ad' L cd', .int .i64 p.brk, .slice ak' M ck'] 40) = w0 at H0
  have HW0 := hide hw0
  clear hw0 hy
  go_enter Tryd.func22, Tryd.ntmps22
  go_upto_region 1 with fail
  rw [HW0.out]
  clear HW0
  obtain ⟨y2, y4, _, _⟩ := H0.out.cells
  have A1 : Hid (Below w0.heap.size w0 (w0.alloc (.cells #[] 5))) := (Below.refl _ w0).alloc (Nat.le_refl _) _
  have H1 := hide (H0.out.later A1.out)
  have hz1 : B ≤ w0.heap.size := by have := H0.out.big; omega
  have hzb := H0.out.big
  have O1 : Hid (Own (w0.alloc (.cells #[] 5)) B (.slice (some ⟨w0.heap.size, 0, none⟩) 0 0) []) := own_made w0 B [] #[] rfl (by omega) (by simp)
  obtain ⟨_, _, z2, z4⟩ := H1.out.cells
  have I1 : Hid (IsBytes (w0.alloc (.cells #[] 5)) ad' cd' p.data) := by
    obtain ⟨a9, c9, e9, i9⟩ := H1.out.d'.shape
    simp only [Value.slice.injEq] at e9
    obtain ⟨rfl, _, rfl⟩ := e9
    exact i9
  have HZ1 : Hid ((w0.alloc (.cells #[] 5)).heap.size = w0.heap.size + 1) := by simp [Hid]
  go_wp2_with (at_builtin
               refine wpList_append8 rfl (.tmp 17) (.tmp 19) rfl B (.slice (some ⟨w0.heap.size, 0, none⟩) 0 0) [] rfl O1.out ad' cd' p.data (by rw [← HL.out]; rfl) I1.out (by rw [← HL.out]; simp; omega) (by rw [HZ1.out]; omega) ?_
               intro v3 w3 ho hg hk hv _
               rw [List.nil_append] at ho
               obtain ⟨a3, c3, e3, _⟩ := ho.shape
               rw [← HL.out] at e3
               subst e3
               have nw3 : ∀ g, (Value.slice (some ⟨w0.heap.size, 0, none⟩) 0 0).ownBlock = some g → W.heap.size + 2 ≤ g := fun g e => by simp [Value.ownBlock] at e; omega
               have H3 : Hid (MoI W w3 B S gb V V R p (.slice ad L cd) (.slice ak M ck) (.slice ad' L cd') (.slice ak' M ck')) := H1.out.grow8 O1.out (fun g e => .inr (nw3 g e)) hg hk (.inr nw3)
               have nc3 : ∀ g, (Value.slice a3 L c3).ownBlock = some g → W.heap.size + 2 ≤ g := fun g e => by
                 rcases hv with hv | hv
                 · exact nw3 g (by rw [← hv, e])
                 · rw [hv, HZ1.out] at e; simp at e; omega
               have P3 : Hid (LP8 W w3 B (.slice ad L cd) (.slice ad L cd) (.slice a3 L c3) p.data p.data) := ⟨H3.out.d, ho, fun g e => .inl e, nc3, fun g e e2 => by have := nc3 g e2; have := H3.out.lts g (.inr (.inl e)); omega⟩
               clear ho hg hk hv nw3 nc3)
  clear H1 A1 O1 I1 HZ1 z2 z4 y2 y4 hz1
  go_loopg [8, 9, 10] 40 (fun gk b c i wr => ∃ (t : Nat) (ab : Option Addr) (cb : Nat) (ac : Option Addr) (cc : Nat), b = .slice ab (L + t) cb ∧ c = .slice ac (L + t) cc ∧ i = .int .i64 (t : Int) ∧ 40 - t ≤ gk ∧ t ≤ 40 ∧ Hid (MoI W wr B S gb V V R p (.slice ad L cd) (.slice ak M ck) (.slice ad' L cd') (.slice ak' M ck')) ∧ Hid (LP8 W wr B (.slice ad L cd) (.slice ab (L + t) cb) (.slice ac (L + t) cc) (p.data ++ List.replicate t x) (p.data ++ List.replicate t x)))
  case atStart => exact ⟨0, _, _, _, _, rfl, rfl, rfl, by omega, by omega, H3, by simpa using P3⟩
  case round =>
    obtain ⟨t, ab, cb, ac, cc, rfl, rfl, rfl, hgk, ht, HI, HP⟩ := hrel
    have hzb := HI.out.big
    by_cases hlt : t < 40
    · have tlt : (t : Int) < 40 := by omega
      have hln : (p.data ++ List.replicate t x).length = L + t := by rw [List.length_append, List.length_replicate, ← HL.out]
      have HLN := hide hln
      have HRS : Hid (List.replicate (t + 1) x = List.replicate t x ++ [x]) := List.replicate_succ'
      clear hln
      have A1 : Hid (Below wr.heap.size wr (wr.alloc (.cells #[.int .u8 (x.toNat : Int)] 5))) := (Below.refl _ wr).alloc (Nat.le_refl _) _
      have M1 := hide (HI.out.later A1.out)
      have Q1 := hide (HP.out.later A1.out)
      have HZ1 : Hid ((wr.alloc (.cells #[.int .u8 (x.toNat : Int)] 5)).heap.size = wr.heap.size + 1) := by simp [Hid]
      go_wp2_with (first
        | (at_builtin
           refine wpList_append8 rfl (.tmp 25) (.tmp 30) rfl B (.slice ab (L + t) cb) (p.data ++ List.replicate t x) rfl Q1.out.b (some ⟨wr.heap.size, 0, none⟩) 1 [x] rfl (Own8.one wr x) (by rw [HLN.out]; simp; omega) (by rw [HZ1.out]; omega) ?_
           intro v5 w5 ho hg hk hv _
           obtain ⟨a5, c5, e5, _⟩ := ho.shape
           rw [List.length_append, HLN.out] at e5
           simp only [List.length_cons, List.length_nil, Nat.zero_add] at e5
           subst e5
           have M5 : Hid (MoI W w5 B S gb V V R p (.slice ad L cd) (.slice ak M ck) (.slice ad' L cd') (.slice ak' M ck')) := M1.out.grow8 Q1.out.b Q1.out.nb hg hk (.inl (by rw [HLN.out, ← HL.out]; omega))
           have Q5 := hide (Q1.out.growB ho hg hv (by rw [HZ1.out]; omega))
           have A6 : Hid (Below w5.heap.size w5 (w5.alloc (.cells #[.int .u8 (x.toNat : Int)] 5))) := (Below.refl _ w5).alloc (Nat.le_refl _) _
           have hzb5 := M5.out.big
           have M6 := hide (M5.out.later A6.out)
           have Q6 := hide (Q5.out.later A6.out)
           have HZ6 : Hid ((w5.alloc (.cells #[.int .u8 (x.toNat : Int)] 5)).heap.size = w5.heap.size + 1) := by simp [Hid]
           clear ho hg hk hv)
        | (at_builtin
           refine wpList_append8 rfl (.tmp 32) (.tmp 37) rfl B (.slice ac (L + t) cc) (p.data ++ List.replicate t x) rfl Q6.out.c (some ⟨w5.heap.size, 0, none⟩) 1 [x] rfl (Own8.one w5 x) (by rw [HLN.out]; simp; omega) (by rw [HZ6.out]; omega) ?_
           intro v7 w7 ho hg hk hv _
           obtain ⟨a7, c7, e7, _⟩ := ho.shape
           rw [List.length_append, HLN.out] at e7
           simp only [List.length_cons, List.length_nil, Nat.zero_add] at e7
           subst e7
           have M7 : Hid (MoI W w7 B S gb V V R p (.slice ad L cd) (.slice ak M ck) (.slice ad' L cd') (.slice ak' M ck')) := M6.out.grow8 Q6.out.c Q6.out.nwc hg hk (.inr Q6.out.nc)
           have Q7 := hide (Q6.out.growC ho hg hv (by rw [HZ6.out]; omega))
           rw [List.append_assoc, ← HRS.out] at Q7
           clear ho hg hk hv))
      go_roundg (40 - (t + 1))
      case measure => omega
      case rel => exact ⟨t + 1, a5, c5, a7, c7, by rw [Nat.add_assoc], by rw [Nat.add_assoc], by go_num, Nat.le_refl _, hlt, M7, by rw [← Nat.add_assoc]; exact Q7⟩
    · have tlt : ¬ (t : Int) < 40 := by omega
      obtain rfl : t = 40 := by omega
      have HRL : Hid ((R 2).length ≤ 2147483647 ∧ (R 3).length ≤ 2147483647) := ⟨by have := HR.out 2 (by omega); omega, by have := HR.out 3 (by omega); omega⟩
      have cA := HI.out.gr.cell (i := 2) (by omega)
      have hSr : S ≤ wr.heap.size := by omega
      have hRi : (R 2).length ≤ 2147483647 ∧ (R 3).length ≤ 2147483647 := HRL.out
      obtain ⟨hRi, hRj⟩ := hRi
      go_upto_region 11 with (first
        | (at_builtin
           refine wpList_pushV rfl (.tmp 43) (.tmp 45) 61 37 rfl Tryd.underlying61 info_lists S (V 2) (R 2) rfl wr (.slice ab (L + 40) cb) rfl (HI.out.gr.row 2 (by omega)) rfl rfl hRi hSr ?_
           intro v5 w5 ho hg hv
           obtain ⟨a5, c5, e5⟩ := row5_form ho
           rw [List.length_append] at e5
           simp only [List.length_cons, List.length_nil, Nat.zero_add] at e5
           subst e5
           obtain ⟨q1, q2, q3, q4⟩ := HI.out.push (i := 2) (by omega) ho hg hv
           have N5 : Hid (MoI W (w5.setCell ⟨gb, 2, none⟩ (.slice a5 ((R 2).length + 1) c5)) B S gb V (upd V 2 (.slice a5 ((R 2).length + 1) c5)) (upd R 2 (R 2 ++ [.slice ab (L + 40) cb])) p (.slice ad L cd) (.slice ak M ck) (.slice ad' L cd') (.slice ak' M ck')) := q1
           have PP5 := hide (HP.out.pushed HI.out q2)
           have cB : (w5.setCell ⟨gb, 2, none⟩ (.slice a5 ((R 2).length + 1) c5)).cell? ⟨gb, 3, none⟩ = some (V 3) := q1.gr.cell (i := 3) (by omega)
           have HSZ : Hid ((w5.setCell ⟨gb, 2, none⟩ (.slice a5 ((R 2).length + 1) c5)).heap.size = w5.heap.size) := by simp [Hid]
           have hz5 : S ≤ (w5.setCell ⟨gb, 2, none⟩ (.slice a5 ((R 2).length + 1) c5)).heap.size := by have := q1.big; omega
           clear ho hg hv q1 q2)
        | (at_builtin
           refine wpList_pushV rfl (.tmp 53) (.tmp 55) 61 37 rfl Tryd.underlying61 info_lists S (V 3) (R 3) rfl (w5.setCell ⟨gb, 2, none⟩ (.slice a5 ((R 2).length + 1) c5)) (.slice ac (L + 40) cc) rfl (N5.out.gr.row 3 (by omega)) (by rw [HSZ.out]; rfl) rfl hRj hz5 ?_
           intro v7 w7 ho hg hv
           obtain ⟨a7, c7, e7⟩ := row5_form ho
           rw [List.length_append] at e7
           simp only [List.length_cons, List.length_nil, Nat.zero_add] at e7
           subst e7
           obtain ⟨q1, q2, q5, q6⟩ := N5.out.push (i := 3) (by omega) ho hg hv
           have N7 := hide q1
           have PP7 := hide (PP5.out.pushed N5.out q2)
           clear ho hg hv q1 q2))
      clear N5 PP5 HSZ cA cB q3 q4 q5 q6 hRi hRj hz5 hSr HI HP
      generalize hW8 : w7.setCell ⟨gb, 3, none⟩ (.slice a7 ((R 3).length + 1) c7) = w8 at N7 PP7
      have N8 : Hid (MoI W w8 B S gb V (upd (upd V 2 (.slice a5 ((R 2).length + 1) c5)) 3 (.slice a7 ((R 3).length + 1) c7)) (upd (upd R 2 (R 2 ++ [.slice ab (L + 40) cb])) 3 (R 3 ++ [.slice ac (L + 40) cc])) p (.slice ad L cd) (.slice ak M ck) (.slice ad' L cd') (.slice ak' M ck')) := N7.out
      generalize upd (upd V 2 (.slice a5 ((R 2).length + 1) c5)) 3 (.slice a7 ((R 3).length + 1) c7) = V2 at N8
      obtain ⟨R2, hR2⟩ : ∃ R2, R2 = (upd (upd R 2 (R 2 ++ [.slice ab (L + 40) cb])) 3 (R 3 ++ [.slice ac (L + 40) cc])) := ⟨_, rfl⟩
      rw [← hR2] at N8
      have HR2 := hide hR2
      clear hR2 N7 hW8
      obtain ⟨y2, y4, _, _⟩ := N8.out.cells
      have A1 : Hid (Below w8.heap.size w8 (w8.alloc (.cells #[] 3))) := (Below.refl _ w8).alloc (Nat.le_refl _) _
      have H1 := hide (N8.out.later A1.out)
      have hz1 : B ≤ w8.heap.size := by have := N8.out.big; omega
      have hzb := N8.out.big
      have O1 : Hid (OwnI (w8.alloc (.cells #[] 3)) B (.slice (some ⟨w8.heap.size, 0, none⟩) 0 0) []) := OwnI.lit w8 B (by omega)
      obtain ⟨_, _, z2, z4⟩ := H1.out.cells
      have I1 : Hid (IsInts (w8.alloc (.cells #[] 3)) ak' ck' p.keep) := by
        obtain ⟨a9, c9, e9, i9⟩ := H1.out.k'.shape
        simp only [Value.slice.injEq] at e9
        obtain ⟨rfl, _, rfl⟩ := e9
        exact i9
      have P1 := hide (PP7.out.later A1.out)
      have HZ1 : Hid ((w8.alloc (.cells #[] 3)).heap.size = w8.heap.size + 1) := by simp [Hid]
      go_wp2_with (at_builtin
                   refine wpList_appendS rfl (.tmp 62) (.tmp 64) rfl B (.slice (some ⟨w8.heap.size, 0, none⟩) 0 0) [] rfl O1.out ak' ck' p.keep (by rw [← HM.out]; rfl) I1.out (by rw [← HM.out]; simp; omega) (by rw [HZ1.out]; omega) ?_
                   intro v3 w3 ho hg hk hv _
                   rw [List.nil_append] at ho
                   obtain ⟨a3, c3, e3, _⟩ := ho.shape
                   rw [← HM.out] at e3
                   subst e3
                   have nw3 : ∀ g, (Value.slice (some ⟨w8.heap.size, 0, none⟩) 0 0).ownBlock = some g → W.heap.size + 2 ≤ g := fun g e => by simp [Value.ownBlock] at e; omega
                   have H3 : Hid (MoI W w3 B S gb V V2 R2 p (.slice ad L cd) (.slice ak M ck) (.slice ad' L cd') (.slice ak' M ck')) := H1.out.grow64 O1.out (fun g e => .inr (nw3 g e)) hg hk (.inr nw3)
                   have nc3 : ∀ g, (Value.slice a3 M c3).ownBlock = some g → W.heap.size + 2 ≤ g := fun g e => by
                     rcases hv with hv | hv
                     · exact nw3 g (by rw [← hv, e])
                     · rw [hv, HZ1.out] at e; simp at e; omega
                   have P3 : Hid (LP64 W w3 B (.slice ak M ck) (.slice ak M ck) (.slice a3 M c3) p.keep p.keep) := ⟨H3.out.k, ho, fun g e => .inl e, nc3, fun g e e2 => by have := nc3 g e2; have := H3.out.lts g (.inr (.inr e)); omega⟩
                   have P8 := hide (P1.out.of64 O1.out hg)
                   clear ho hg hk hv nw3 nc3)
      clear H1 A1 O1 I1 HZ1 z2 z4 y2 y4 hz1
      go_loopg [11, 12, 13] 12 (fun gk b c i wr => ∃ (t : Nat) (ab' : Option Addr) (cb' : Nat) (ac' : Option Addr) (cc' : Nat), b = .slice ab' (M + t) cb' ∧ c = .slice ac' (M + t) cc' ∧ i = .int .i64 (t : Int) ∧ 12 - t ≤ gk ∧ t ≤ 12 ∧ Hid (MoI W wr B S gb V V2 R2 p (.slice ad L cd) (.slice ak M ck) (.slice ad' L cd') (.slice ak' M ck')) ∧ Hid (LP64 W wr B (.slice ak M ck) (.slice ab' (M + t) cb') (.slice ac' (M + t) cc') (p.keep ++ List.replicate t y) (p.keep ++ List.replicate t y)) ∧ Hid (LP8 W wr B (.slice ad L cd) (.slice ab (L + 40) cb) (.slice ac (L + 40) cc) (p.data ++ List.replicate 40 x) (p.data ++ List.replicate 40 x)))
      case atStart => exact ⟨0, _, _, _, _, rfl, rfl, rfl, by omega, by omega, H3, by simpa using P3, P8⟩
      case round =>
        obtain ⟨t, ab', cb', ac', cc', rfl, rfl, rfl, hgk, ht, HI, HP, HB⟩ := hrel
        have hzb := HI.out.big
        by_cases hlt : t < 12
        · have tlt : (t : Int) < 12 := by omega
          have hln : (p.keep ++ List.replicate t y).length = M + t := by rw [List.length_append, List.length_replicate, ← HM.out]
          have HLN := hide hln
          have HRS : Hid (List.replicate (t + 1) y = List.replicate t y ++ [y]) := List.replicate_succ'
          clear hln
          have A1 : Hid (Below wr.heap.size wr (wr.alloc (.cells #[.int .i64 y] 3))) := (Below.refl _ wr).alloc (Nat.le_refl _) _
          have M1 := hide (HI.out.later A1.out)
          have Q1 := hide (HP.out.later A1.out)
          have P1 := hide (HB.out.later A1.out)
          have HZ1 : Hid ((wr.alloc (.cells #[.int .i64 y] 3)).heap.size = wr.heap.size + 1) := by simp [Hid]
          go_wp2_with (first
            | (at_builtin
               refine wpList_appendS rfl (.tmp 70) (.tmp 73) rfl B (.slice ab' (M + t) cb') (p.keep ++ List.replicate t y) rfl Q1.out.b (some ⟨wr.heap.size, 0, none⟩) 1 [y] rfl (IsInts.ofNew wr y) (by rw [HLN.out]; simp; omega) (by rw [HZ1.out]; omega) ?_
               intro v5 w5 ho hg hk hv _
               obtain ⟨a5, c5, e5, _⟩ := ho.shape
               rw [List.length_append, HLN.out] at e5
               simp only [List.length_cons, List.length_nil, Nat.zero_add] at e5
               subst e5
               have M5 : Hid (MoI W w5 B S gb V V2 R2 p (.slice ad L cd) (.slice ak M ck) (.slice ad' L cd') (.slice ak' M ck')) := M1.out.grow64 Q1.out.b Q1.out.nb hg hk (.inl (by rw [HLN.out, ← HM.out]; omega))
               have Q5 := hide (Q1.out.growB ho hg hv (by rw [HZ1.out]; omega))
               have P5 := hide (P1.out.of64 Q1.out.b hg)
               have A6 : Hid (Below w5.heap.size w5 (w5.alloc (.cells #[.int .i64 y] 3))) := (Below.refl _ w5).alloc (Nat.le_refl _) _
               have hzb5 := M5.out.big
               have M6 := hide (M5.out.later A6.out)
               have Q6 := hide (Q5.out.later A6.out)
               have P6 := hide (P5.out.later A6.out)
               have HZ6 : Hid ((w5.alloc (.cells #[.int .i64 y] 3)).heap.size = w5.heap.size + 1) := by simp [Hid]
               clear ho hg hk hv)
            | (at_builtin
               refine wpList_appendS rfl (.tmp 75) (.tmp 78) rfl B (.slice ac' (M + t) cc') (p.keep ++ List.replicate t y) rfl Q6.out.c (some ⟨w5.heap.size, 0, none⟩) 1 [y] rfl (IsInts.ofNew w5 y) (by rw [HLN.out]; simp; omega) (by rw [HZ6.out]; omega) ?_
               intro v7 w7 ho hg hk hv _
               obtain ⟨a7, c7, e7, _⟩ := ho.shape
               rw [List.length_append, HLN.out] at e7
               simp only [List.length_cons, List.length_nil, Nat.zero_add] at e7
               subst e7
               have M7 : Hid (MoI W w7 B S gb V V2 R2 p (.slice ad L cd) (.slice ak M ck) (.slice ad' L cd') (.slice ak' M ck')) := M6.out.grow64 Q6.out.c Q6.out.nwc hg hk (.inr Q6.out.nc)
               have Q7 := hide (Q6.out.growC ho hg hv (by rw [HZ6.out]; omega))
               rw [List.append_assoc, ← HRS.out] at Q7
               have P7 := hide (P6.out.of64 Q6.out.c hg)
               clear ho hg hk hv))
          go_roundg (12 - (t + 1))
          case measure => omega
          case rel => exact ⟨t + 1, a5, c5, a7, c7, by rw [Nat.add_assoc], by rw [Nat.add_assoc], by go_num, Nat.le_refl _, hlt, M7, by rw [← Nat.add_assoc]; exact Q7, P7⟩
        · have tlt : ¬ (t : Int) < 12 := by omega
          obtain rfl : t = 12 := by omega
          have HRL : Hid ((R2 4).length ≤ 2147483647 ∧ (R2 5).length ≤ 2147483647) := by
            rw [HR2.out]
            exact ⟨by have := HR.out 4 (by omega); show (R 4).length ≤ _; omega, by have := HR.out 5 (by omega); show (R 5).length ≤ _; omega⟩
          have cA := HI.out.gr.cell (i := 4) (by omega)
          have hSr : S ≤ wr.heap.size := by omega
          have hRi : (R2 4).length ≤ 2147483647 ∧ (R2 5).length ≤ 2147483647 := HRL.out
          obtain ⟨hRi, hRj⟩ := hRi
          go_wp2_with (first
            | (at_builtin
               refine wpList_pushV rfl (.tmp 84) (.tmp 86) 62 38 rfl Tryd.underlying62 info_strs S (V2 4) (R2 4) rfl wr (.slice ab' (M + 12) cb') rfl (HI.out.gr.row 4 (by omega)) rfl rfl hRi hSr ?_
               intro v5 w5 ho hg hv
               obtain ⟨a5, c5, e5⟩ := row5_form ho
               rw [List.length_append] at e5
               simp only [List.length_cons, List.length_nil, Nat.zero_add] at e5
               subst e5
               obtain ⟨q1, q2, q3, q4⟩ := HI.out.push (i := 4) (by omega) ho hg hv
               have N5 : Hid (MoI W (w5.setCell ⟨gb, 4, none⟩ (.slice a5 ((R2 4).length + 1) c5)) B S gb V (upd V2 4 (.slice a5 ((R2 4).length + 1) c5)) (upd R2 4 (R2 4 ++ [.slice ab' (M + 12) cb'])) p (.slice ad L cd) (.slice ak M ck) (.slice ad' L cd') (.slice ak' M ck')) := q1
               have PP5 := hide (HB.out.pushed HI.out q2)
               have PK5 := hide (HP.out.pushed HI.out q2)
               have cB : (w5.setCell ⟨gb, 4, none⟩ (.slice a5 ((R2 4).length + 1) c5)).cell? ⟨gb, 5, none⟩ = some (V2 5) := q1.gr.cell (i := 5) (by omega)
               have HSZ : Hid ((w5.setCell ⟨gb, 4, none⟩ (.slice a5 ((R2 4).length + 1) c5)).heap.size = w5.heap.size) := by simp [Hid]
               have hz5 : S ≤ (w5.setCell ⟨gb, 4, none⟩ (.slice a5 ((R2 4).length + 1) c5)).heap.size := by have := q1.big; omega
               clear ho hg hv q1 q2)
            | (at_builtin
               refine wpList_pushV rfl (.tmp 94) (.tmp 96) 62 38 rfl Tryd.underlying62 info_strs S (V2 5) (R2 5) rfl (w5.setCell ⟨gb, 4, none⟩ (.slice a5 ((R2 4).length + 1) c5)) (.slice ac' (M + 12) cc') rfl (N5.out.gr.row 5 (by omega)) (by rw [HSZ.out]; rfl) rfl hRj hz5 ?_
               intro v7 w7 ho hg hv
               obtain ⟨a7, c7, e7⟩ := row5_form ho
               rw [List.length_append] at e7
               simp only [List.length_cons, List.length_nil, Nat.zero_add] at e7
               subst e7
               obtain ⟨q1, q2, q5, q6⟩ := N5.out.push (i := 5) (by omega) ho hg hv
               have N7 := hide q1
               have PP7 := hide (PP5.out.pushed N5.out q2)
               have PK7 := hide (PK5.out.pushed N5.out q2)
               clear ho hg hv q1 q2))
          go_end0
          refine ⟨rfl, _, .slice ab (L + 40) cb, .slice ac (L + 40) cc, .slice ab' (M + 12) cb', .slice ac' (M + 12) cc', ?_, N7.out.kept, N7.out.vn, PP7.out, PK7.out, N7.out.d, N7.out.k, N7.out.d', N7.out.k'⟩
          have e4 : R2 4 = R 4 := by rw [HR2.out]; rfl
          have e5 : R2 5 = R 5 := by rw [HR2.out]; rfl
          rw [← HR2.out, ← e4, ← e5]
          exact N7.out.gr
end Go.Proofs.YteaccpolmmkclaaDoor

namespace Go.Proofs.YteaccpolmmkclaaDoor
open Go.RowKit

def Is8 (w : World) (v : Value) (x : List UInt8) : Prop := ∃ a c, v = .slice a x.length c ∧ IsBytes w a c x
def Is64 (w : World) (v : Value) (x : List Int) : Prop := ∃ a c, v = .slice a x.length c ∧ IsInts w a c x
/-- All lists that have grown read as they must. -/
structure GHold (w : World) (R : Nat → List Value) : Prop where
  sl : (R 0).length = (R 1).length
  s : ∀ (n : Nat) v v', (R 0)[n]? = some v → (R 1)[n]? = some v' → ∃ l l', PlayIn w v l ∧ PlayIn w v' l' ∧ l.map (·.p) = l'.map (·.p)
  dl : (R 2).length = (R 3).length
  d : ∀ (n : Nat) v v', (R 2)[n]? = some v → (R 3)[n]? = some v' → ∃ x, Is8 w v x ∧ Is8 w v' x
  kl : (R 4).length = (R 5).length
  k : ∀ (n : Nat) v v', (R 4)[n]? = some v → (R 5)[n]? = some v' → ∃ x, Is64 w v x ∧ Is64 w v' x
theorem GHold.later {w w' : World} {R : Nat → List Value} (h : GHold w R) (hb : Below w.heap.size w w') : GHold w' R := by
  refine ⟨h.sl, fun n v v' h1 h2 => ?_, h.dl, fun n v v' h1 h2 => ?_, h.kl, fun n v v' h1 h2 => ?_⟩
  · obtain ⟨l, l', a, b, c⟩ := h.s n v v' h1 h2
    exact ⟨l, l', a.later hb, b.later hb, c⟩
  · obtain ⟨x, ⟨a, c, e, i⟩, a', c', e', i'⟩ := h.d n v v' h1 h2
    exact ⟨x, ⟨a, c, e, i.below hb⟩, a', c', e', i'.below hb⟩
  · obtain ⟨x, ⟨a, c, e, i⟩, a', c', e', i'⟩ := h.k n v v' h1 h2
    exact ⟨x, ⟨a, c, e, i.below hb⟩, a', c', e', i'.below hb⟩
theorem rowV_at {w : World} {B e : Nat} {v : Value} {xs : List Value} (h : w.ownsRow B e 1 v xs.length xs) {i : Nat} {u : Value} (hu : xs[i]? = some u) : ∃ g c, v = .slice (some ⟨g, 0, none⟩) xs.length c ∧ w.cell? ⟨g, i, none⟩ = some u := by
  have hl : 0 < xs.length := by have := (List.getElem?_eq_some_iff.1 hu).1; omega
  rcases h.2 with ⟨_, h0⟩ | ⟨g, c, cur, rfl, _⟩
  · omega
  · refine ⟨g, c, rfl, ?_⟩
    have := h.cells (g := g) rfl i u hu
    cases i with
    | zero => simpa [Addr.add] using this
    | succ n => simpa [Addr.add] using this
set_option maxHeartbeats 8000000 in
set_option maxRecDepth 1000000 in
theorem gholds_any (W : World) (B gb : Nat) (V : Nat → Value) (R : Nat → List Value) (h : GrAt W B gb V R) (ha : GHold W R) (hl : ∀ i, i < 6 → (R i).length ≤ 1000000) :
    Calls Tryd.prog 23 #[.pointer (some ⟨gb, 0, none⟩)] W fun e w' => e = .returned (.bool true) ∧ Below W.heap.size W w' := by
  have hf : ∀ i, i < 6 → ∃ a c, V i = .slice a (R i).length c := fun i hi => row5_form (h.row i hi)
  obtain ⟨a0, c0, e0⟩ := hf 0 (by omega)
  obtain ⟨a1, c1, e1⟩ := hf 1 (by omega)
  obtain ⟨a2, c2, e2⟩ := hf 2 (by omega)
  obtain ⟨a3, c3, e3⟩ := hf 3 (by omega)
  obtain ⟨a4, c4, e4⟩ := hf 4 (by omega)
  obtain ⟨a5, c5, e5⟩ := hf 5 (by omega)
  rw [← ha.sl] at e1
  rw [← ha.dl] at e3
  rw [← ha.kl] at e5
  have HB := hide h
  have HA := hide ha
  have HE := hide (And.intro e0 (And.intro e1 (And.intro e2 (And.intro e3 (And.intro e4 e5)))))
  have l0 := hl 0 (by omega)
  have l2 := hl 2 (by omega)
  have l4 := hl 4 (by omega)
  have HCL : Hid (∀ X, Below W.heap.size W X → X.cell? ⟨gb, 0, none⟩ = some (.slice a0 (R 0).length c0) ∧ X.cell? ⟨gb, 1, none⟩ = some (.slice a1 (R 0).length c1) ∧ X.cell? ⟨gb, 2, none⟩ = some (.slice a2 (R 2).length c2) ∧ X.cell? ⟨gb, 3, none⟩ = some (.slice a3 (R 2).length c3) ∧ X.cell? ⟨gb, 4, none⟩ = some (.slice a4 (R 4).length c4) ∧ X.cell? ⟨gb, 5, none⟩ = some (.slice a5 (R 4).length c5)) := fun X hX => by
    have hg := HB.out.later hX
    rw [← e0, ← e1, ← e2, ← e3, ← e4, ← e5]
    exact ⟨hg.cell (i := 0) (by omega), hg.cell (i := 1) (by omega), hg.cell (i := 2) (by omega), hg.cell (i := 3) (by omega), hg.cell (i := 4) (by omega), hg.cell (i := 5) (by omega)⟩
  obtain ⟨N0, hN0⟩ : ∃ N, N = (R 0).length := ⟨_, rfl⟩
  obtain ⟨N2, hN2⟩ : ∃ N, N = (R 2).length := ⟨_, rfl⟩
  obtain ⟨N4, hN4⟩ : ∃ N, N = (R 4).length := ⟨_, rfl⟩
  rw [← hN0, ← hN2, ← hN4] at HCL HE
  rw [← hN0] at l0
  rw [← hN2] at l2
  rw [← hN4] at l4
  have HN := hide (And.intro hN0 (And.intro hN2 hN4))
  clear h ha hf e0 e1 e2 e3 e4 e5 hN0 hN2 hN4 hl
  go_enter Tryd.func23, Tryd.ntmps23
  go_wp2_with fail
  go_loopg [3] N0 (fun gk i wr => ∃ j : Nat, i = .int .i64 (j : Int) ∧ N0 - j ≤ gk ∧ j ≤ N0 ∧ Hid (Below W.heap.size W wr))
  case atStart => exact ⟨0, rfl, by omega, by omega, Below.refl _ _⟩
  case round =>
    obtain ⟨j, rfl, hgk, hj, HW⟩ := hrel
    obtain ⟨k0, k1, k2, k3, k4, k5⟩ := HCL.out wr HW.out
    by_cases hlt : j < N0
    · have tlt : (j : Int) < (N0 : Int) := by omega
      obtain ⟨x, hx⟩ : ∃ x, (R 0)[j]? = some x := ⟨_, List.getElem?_eq_getElem (by have := HN.out.1; omega)⟩
      obtain ⟨y, hy⟩ : ∃ y, (R 1)[j]? = some y := ⟨_, List.getElem?_eq_getElem (by have := HN.out.1; have := HA.out.sl; omega)⟩
      obtain ⟨l, l', p1, p2, hm⟩ := HA.out.s j x y hx hy
      have BK := HB.out.later HW.out
      obtain ⟨g, c, ee1, m0⟩ := rowV_at (BK.row 0 (by omega)) hx
      obtain ⟨g', c', ee2, n0⟩ := rowV_at (BK.row 1 (by omega)) hy
      rw [HE.out.1] at ee1
      rw [HE.out.2.1] at ee2
      simp only [Value.slice.injEq] at ee1 ee2
      obtain ⟨rfl, q1, rfl⟩ := ee1
      obtain ⟨rfl, q2, rfl⟩ := ee2
      obtain ⟨ax, cx, ex, _⟩ := id p1.1
      obtain ⟨ay, cy, ey, _⟩ := id p2.1
      subst ex ey
      have CS : Hid (∀ X, Below wr.heap.size wr X → Calls Tryd.prog 9 #[.agg #[.int .i64 0, .int .i64 0, .int .i64 0, .slice ax l.length cx], .agg #[.int .i64 0, .int .i64 0, .int .i64 0, .slice ay l'.length cy]] X fun e w' => e = .returned (.bool true) ∧ Below X.heap.size X w') := fun X hX => same_same X 0 0 0 _ _ l l' ((p1.later HW.out).later hX) ((p2.later HW.out).later hX) hm
      clear q1 q2 hx hy p1 p2 hm BK k2 k3 k4 k5
      go_upto_region 4 with fail
      go_cut [4] from 17 to 33 (fun s4 wx => s4 = .bool true ∧ Hid (Below W.heap.size W wx))
      case first =>
        go_region_law (first
          | (go_simp
             go_at_call 9
             refine (CS.out _ (by first | exact (Below.refl _ wr).drew | exact Below.refl _ wr)).mono ?_
             rintro e w2 ⟨rfl, b2⟩
             have HB2 : Hid (Below W.heap.size W w2) := HW.out.trans ((show Below wr.heap.size wr w2 from ⟨b2.os, b2.tape, b2.output, b2.size, b2.block⟩).mono HW.out.size)
             clear b2))
        all_goals (
          go_wp2_with fail
          go_meet
          exact ⟨rfl, HB2⟩)
      case rest =>
        obtain ⟨rfl, HB2⟩ := hcut
        clear m0 n0 k0 k1
        go_wp2_with fail
        go_roundg (N0 - (j + 1))
        case measure => omega
        case rel => exact ⟨j + 1, by go_num, Nat.le_refl _, hlt, HB2⟩
    · have tlt : ¬ (j : Int) < (N0 : Int) := by omega
      clear k1 k2 k3 k4 k5
      go_wp2_with fail
      clear k0
      go_loopg [5] N2 (fun gk i wr => ∃ j : Nat, i = .int .i64 (j : Int) ∧ N2 - j ≤ gk ∧ j ≤ N2 ∧ Hid (Below W.heap.size W wr))
      case atStart => exact ⟨0, rfl, by omega, by omega, HW⟩
      case round =>
        clear tlt
        obtain ⟨j, rfl, hgk, hj, HW⟩ := hrel
        obtain ⟨k0, k1, k2, k3, k4, k5⟩ := HCL.out wr HW.out
        by_cases hlt : j < N2
        · have tlt : (j : Int) < (N2 : Int) := by omega
          obtain ⟨x, hx⟩ : ∃ x, (R 2)[j]? = some x := ⟨_, List.getElem?_eq_getElem (by have := HN.out.2.1; omega)⟩
          obtain ⟨y, hy⟩ : ∃ y, (R 3)[j]? = some y := ⟨_, List.getElem?_eq_getElem (by have := HN.out.2.1; have := HA.out.dl; omega)⟩
          obtain ⟨z, ⟨ax, cx, ex, i1⟩, ay, cy, ey, i2⟩ := (HA.out.later HW.out).d j x y hx hy
          have BK := HB.out.later HW.out
          obtain ⟨g, c, ee1, m0⟩ := rowV_at (BK.row 2 (by omega)) hx
          obtain ⟨g', c', ee2, n0⟩ := rowV_at (BK.row 3 (by omega)) hy
          rw [HE.out.2.2.1] at ee1
          rw [HE.out.2.2.2.1] at ee2
          simp only [Value.slice.injEq] at ee1 ee2
          obtain ⟨rfl, q1, rfl⟩ := ee1
          obtain ⟨rfl, q2, rfl⟩ := ee2
          subst ex ey
          have q1' : ∀ m, (convert 37 9 (.slice ax z.length cx)).run Tryd.prog (wr.drewN m) = .ok (.string ⟨z.toArray⟩) (wr.drewN m) := fun m => conv_is (i1.below ⟨rfl, rfl, rfl, Nat.le_refl _, fun _ _ => rfl⟩) rfl
          have q2' : ∀ m, (convert 37 9 (.slice ay z.length cy)).run Tryd.prog (wr.drewN m) = .ok (.string ⟨z.toArray⟩) (wr.drewN m) := fun m => conv_is (i2.below ⟨rfl, rfl, rfl, Nat.le_refl _, fun _ _ => rfl⟩) rfl
          clear q1 q2 hx hy i1 i2 BK k0 k1 k4 k5
          go_upto_region 10 with fail
          go_quiet (fail)
          generalize hWd : wr.drewN _ = Wd
          have HB2 : Hid (Below W.heap.size W Wd) := HW.out.trans (by rw [← hWd]; exact ⟨rfl, rfl, rfl, Nat.le_refl _, fun _ _ => rfl⟩)
          clear hWd m0 n0 k2 k3 q1' q2'
          go_wp2_with fail
          go_roundg (N2 - (j + 1))
          case measure => omega
          case rel => exact ⟨j + 1, by go_num, Nat.le_refl _, hlt, HB2⟩
        · have tlt : ¬ (j : Int) < (N2 : Int) := by omega
          clear k0 k1 k3 k4 k5
          go_wp2_with fail
          clear k2
          go_loopg [6] N4 (fun gk i wr => ∃ j : Nat, i = .int .i64 (j : Int) ∧ N4 - j ≤ gk ∧ j ≤ N4 ∧ Hid (Below W.heap.size W wr))
          case atStart => exact ⟨0, rfl, by omega, by omega, HW⟩
          case round =>
            clear tlt
            obtain ⟨j, rfl, hgk, hj, HW⟩ := hrel
            obtain ⟨k0, k1, k2, k3, k4, k5⟩ := HCL.out wr HW.out
            by_cases hlt : j < N4
            · have tlt : (j : Int) < (N4 : Int) := by omega
              obtain ⟨x, hx⟩ : ∃ x, (R 4)[j]? = some x := ⟨_, List.getElem?_eq_getElem (by have := HN.out.2.2; omega)⟩
              obtain ⟨y, hy⟩ : ∃ y, (R 5)[j]? = some y := ⟨_, List.getElem?_eq_getElem (by have := HN.out.2.2; have := HA.out.kl; omega)⟩
              obtain ⟨z, ⟨ax, cx, ex, i1⟩, ay, cy, ey, i2⟩ := (HA.out.later HW.out).k j x y hx hy
              have BK := HB.out.later HW.out
              obtain ⟨g, c, ee1, m0⟩ := rowV_at (BK.row 4 (by omega)) hx
              obtain ⟨g', c', ee2, n0⟩ := rowV_at (BK.row 5 (by omega)) hy
              rw [HE.out.2.2.2.2.1] at ee1
              rw [HE.out.2.2.2.2.2] at ee2
              simp only [Value.slice.injEq] at ee1 ee2
              obtain ⟨rfl, q1, rfl⟩ := ee1
              obtain ⟨rfl, q2, rfl⟩ := ee2
              subst ex ey
              have CS : Hid (∀ X, Below wr.heap.size wr X → Calls Tryd.prog 40 #[.slice ax z.length cx, .slice ay z.length cy] X fun e w' => e = .returned (.bool true) ∧ Below X.heap.size X w') := fun X hX => numbers_same X ax ay cx cy z (i1.below hX) (i2.below hX)
              clear q1 q2 hx hy i1 i2 BK k0 k1 k2 k3
              go_upto_region 15 with fail
              go_cut [7] from 71 to 85 (fun s7 wx => s7 = .bool true ∧ Hid (Below W.heap.size W wx))
              case first =>
                go_region_law (first
                  | (go_simp
                     go_at_call 40
                     refine (CS.out _ (by first | exact (Below.refl _ wr).drew | exact Below.refl _ wr)).mono ?_
                     rintro e w2 ⟨rfl, b2⟩
                     have HB2 : Hid (Below W.heap.size W w2) := HW.out.trans ((show Below wr.heap.size wr w2 from ⟨b2.os, b2.tape, b2.output, b2.size, b2.block⟩).mono HW.out.size)
                     clear b2))
                all_goals (
                  go_wp2_with fail
                  go_meet
                  exact ⟨rfl, HB2⟩)
              case rest =>
                obtain ⟨rfl, HB2⟩ := hcut
                clear m0 n0 k4 k5
                go_wp2_with fail
                go_roundg (N4 - (j + 1))
                case measure => omega
                case rel => exact ⟨j + 1, by go_num, Nat.le_refl _, hlt, HB2⟩
            · have tlt : ¬ (j : Int) < (N4 : Int) := by omega
              clear k0 k1 k2 k3 k5
              go_wp2_with fail
              go_ret
              exact ⟨rfl, HW.out⟩
end Go.Proofs.YteaccpolmmkclaaDoor
