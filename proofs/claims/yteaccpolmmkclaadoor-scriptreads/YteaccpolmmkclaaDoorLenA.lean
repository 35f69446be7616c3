/-
  LentK, OwnedW.
-/
import Derived.Test.YteaccpolmmkclaaDoorSameS
import Derived.Test.YteaccpolmmkclaaDoorRemA
import Derived.Test.YteaccpolmmkclaaDoorRStepW
import Derived.Test.YteaccpolmmkclaaDoorSmaP
namespace Go.Proofs.YteaccpolmmkclaaDoor
open Go.RowKit

/-- Bytes, numbers of the call's own that lie somewhere, with e behind them. -/
def DRow (w : World) (B : Nat) (v : Value) (d e : List UInt8) : Prop := ∃ g c, v = .slice (some ⟨g, 0, none⟩) d.length c ∧ Own w B (.slice (some ⟨g, 0, none⟩) (d ++ e).length c) (d ++ e)
def KRow (w : World) (B : Nat) (v : Value) (d e : List Int) : Prop := ∃ g c, v = .slice (some ⟨g, 0, none⟩) d.length c ∧ OwnI w B (.slice (some ⟨g, 0, none⟩) (d ++ e).length c) (d ++ e)
section
variable {w w' : World} {B : Nat} {v : Value} {d e : List UInt8} {k f : List Int} {P : Nat → Prop}
theorem DRow.kept (h : DRow w B v d e) (hk : Kept P w w') (hP : ∀ g, v.ownBlock = some g → ¬ P g) : DRow w' B v d e := by
  obtain ⟨g, c, rfl, ho⟩ := h
  exact ⟨g, c, rfl, Kept.own hk ho (fun g' e' => hP g' e')⟩
theorem KRow.kept (h : KRow w B v k f) (hk : Kept P w w') (hP : ∀ g, v.ownBlock = some g → ¬ P g) : KRow w' B v k f := by
  obtain ⟨g, c, rfl, ho⟩ := h
  exact ⟨g, c, rfl, Kept.own hk ho (fun g' e' => hP g' e')⟩
theorem DRow.block (h : DRow w B v d e) : ∃ g cur, v.ownBlock = some g ∧ B ≤ g ∧ g < w.heap.size ∧ w.heap[g]? = some (.cells cur 5 (0, 0)) := by
  obtain ⟨g, c, rfl, ho⟩ := h
  obtain ⟨cur, hc⟩ := row_of_type ho (g := g) rfl
  have := ho.lt g rfl
  exact ⟨g, cur, rfl, this.1, this.2, hc⟩
theorem KRow.block (h : KRow w B v k f) : ∃ g cur, v.ownBlock = some g ∧ B ≤ g ∧ g < w.heap.size ∧ w.heap[g]? = some (.cells cur 3 (0, 0)) := by
  obtain ⟨g, c, rfl, ho⟩ := h
  obtain ⟨cur, hc⟩ := row_of_type ho (g := g) rfl
  have := ho.lt g rfl
  exact ⟨g, cur, rfl, this.1, this.2, hc⟩
theorem DRow.is (h : DRow w B v d e) : ∃ a c, v = .slice a d.length c ∧ IsBytes w a c d := by
  obtain ⟨g, c, rfl, ho⟩ := h
  obtain ⟨a, c', e', h1, h2, h3⟩ := ho.shape
  simp only [Value.slice.injEq, true_and] at e'
  obtain ⟨rfl, rfl⟩ := e'
  rw [List.length_append] at h1
  refine ⟨_, _, rfl, by omega, h2, ?_⟩
  rcases h3 with h0 | ⟨b, o, e1, hb, hc⟩
  · left; simp at h0; exact h0.1
  · exact .inr ⟨b, o, e1, hb, fun j x hj => hc j x (by rw [List.getElem?_append_left (List.getElem?_eq_some_iff.1 hj).1]; exact hj)⟩
theorem KRow.is (h : KRow w B v k f) : ∃ a c, v = .slice a k.length c ∧ IsInts w a c k := by
  obtain ⟨g, c, rfl, ho⟩ := h
  obtain ⟨a, c', e', h1, h2, h3⟩ := ho.shape
  simp only [Value.slice.injEq, true_and] at e'
  obtain ⟨rfl, rfl⟩ := e'
  rw [List.length_append] at h1 h2
  refine ⟨_, _, rfl, by omega, by omega, ?_⟩
  rcases h3 with h0 | ⟨b, o, e1, hb, hc⟩
  · left; simp at h0; exact h0.1
  · exact .inr ⟨b, o, e1, hb, fun j x hj => hc j x (by rw [List.getElem?_append_left (List.getElem?_eq_some_iff.1 hj).1]; exact hj)⟩
theorem DRow.own (h : DRow w B v d []) : Own w B v d := by
  obtain ⟨g, c, rfl, ho⟩ := h
  simpa using ho
theorem KRow.own (h : KRow w B v k []) : OwnI w B v k := by
  obtain ⟨g, c, rfl, ho⟩ := h
  simpa using ho
theorem drow_of (h : Own w B v d) (hn : v ≠ .slice none 0 0) : DRow w B v d [] := by
  rcases h.2 with ⟨rfl, _⟩ | ⟨g, c, cur, rfl, hr⟩
  · exact absurd rfl hn
  · exact ⟨g, c, rfl, by simpa using h⟩
theorem krow_of (h : OwnI w B v k) (hn : v ≠ .slice none 0 0) : KRow w B v k [] := by
  rcases h.2 with ⟨rfl, _⟩ | ⟨g, c, cur, rfl, hr⟩
  · exact absurd rfl hn
  · exact ⟨g, c, rfl, by simpa using h⟩
end
/-- The lists of some steps, apart from one another; of the first ed, ek there is one thing behind. -/
structure Rs (w : World) (B : Nat) (o : List Sq) (ed ek : Nat) : Prop where
  d : ∀ (i : Nat) (x : Sq), o[i]? = some x → DRow w B x.dv x.p.data (if i < ed then [165] else [])
  k : ∀ (i : Nat) (x : Sq), o[i]? = some x → KRow w B x.kv x.p.keep (if i < ek then [-99] else [])
  apart : ∀ (i j : Nat) (x y : Sq), o[i]? = some x → o[j]? = some y → i ≠ j → x.dv.ownBlock ≠ y.dv.ownBlock ∧ x.kv.ownBlock ≠ y.kv.ownBlock
section
variable {w w' : World} {B : Nat} {o : List Sq} {ed ek : Nat} {P : Nat → Prop}
theorem Rs.keptT (h : Rs w B o ed ek) (hk : Kept P w w') (h8 : ∀ g cur, P g → w.heap[g]? ≠ some (.cells cur 5 (0, 0))) (h64 : ∀ g cur, P g → w.heap[g]? ≠ some (.cells cur 3 (0, 0))) : Rs w' B o ed ek := by
  refine ⟨fun i x hx => (h.d i x hx).kept hk (fun g hg hp => ?_), fun i x hx => (h.k i x hx).kept hk (fun g hg hp => ?_), h.apart⟩
  · obtain ⟨g', cur, e, _, _, hc⟩ := (h.d i x hx).block
    rw [e] at hg; cases hg
    exact h8 _ _ hp hc
  · obtain ⟨g', cur, e, _, _, hc⟩ := (h.k i x hx).block
    rw [e] at hg; cases hg
    exact h64 _ _ hp hc
theorem Rs.later (h : Rs w B o ed ek) (hb : Below w.heap.size w w') : Rs w' B o ed ek := h.keptT (P := fun _ => False) (Kept.ofBelow hb) (fun _ _ h => h.elim) (fun _ _ h => h.elim)
theorem Rs.ltD (h : Rs w B o ed ek) {i : Nat} {x : Sq} (hx : o[i]? = some x) : ∀ g, x.dv.ownBlock = some g → g < w.heap.size := by
  obtain ⟨g', cur, e, _, hl, _⟩ := (h.d i x hx).block
  intro g hg
  rw [e] at hg; cases hg
  exact hl
theorem Rs.ltK (h : Rs w B o ed ek) {i : Nat} {x : Sq} (hx : o[i]? = some x) : ∀ g, x.kv.ownBlock = some g → g < w.heap.size := by
  obtain ⟨g', cur, e, _, hl, _⟩ := (h.k i x hx).block
  intro g hg
  rw [e] at hg; cases hg
  exact hl
/-- One step more. -/
theorem Rs.snoc {w0 : World} (h0 : Rs w0 B o 0 0) (h : Rs w B o 0 0) {p : StepP} {dv kv : Value} (hd : DRow w B dv p.data []) (hk : KRow w B kv p.keep []) (hnd : ∀ g, dv.ownBlock = some g → w0.heap.size ≤ g) (hnk : ∀ g, kv.ownBlock = some g → w0.heap.size ≤ g) : Rs w B (o ++ [⟨p, dv, kv⟩]) 0 0 := by
  have key : ∀ i x, (o ++ [(⟨p, dv, kv⟩ : Sq)])[i]? = some x → o[i]? = some x ∨ (i = o.length ∧ x = ⟨p, dv, kv⟩) := by
    intro i x hx
    by_cases hi : i < o.length
    · rw [List.getElem?_append_left hi] at hx; exact .inl hx
    · rw [List.getElem?_append_right (by omega)] at hx
      have : i - o.length = 0 := by have := (List.getElem?_eq_some_iff.1 hx).1; simp at this; omega
      rw [this] at hx
      simp at hx
      exact .inr ⟨by omega, hx.symm⟩
  obtain ⟨gd, _, ed', _⟩ := hd.block
  obtain ⟨gk, _, ek', _⟩ := hk.block
  have nd := hnd gd ed'
  have nk := hnk gk ek'
  have other : ∀ (i : Nat) (x : Sq), o[i]? = some x → x.dv.ownBlock ≠ dv.ownBlock ∧ x.kv.ownBlock ≠ kv.ownBlock := by
    intro i x hx
    refine ⟨fun e => ?_, fun e => ?_⟩
    · have := h0.ltD hx gd (e.trans ed'); omega
    · have := h0.ltK hx gk (e.trans ek'); omega
  refine ⟨fun i x hx => ?_, fun i x hx => ?_, fun i j x y hx hy hij => ?_⟩
  · rcases key i x hx with h1 | ⟨_, rfl⟩
    · exact h.d i x h1
    · simpa using hd
  · rcases key i x hx with h1 | ⟨_, rfl⟩
    · exact h.k i x h1
    · simpa using hk
  · rcases key i x hx with h1 | ⟨e1, rfl⟩
    · rcases key j y hy with h2 | ⟨e2, rfl⟩
      · exact h.apart i j x y h1 h2 hij
      · exact other i x h1
    · rcases key j y hy with h2 | ⟨e2, rfl⟩
      · exact ⟨fun e => (other j y h2).1 e.symm, fun e => (other j y h2).2 e.symm⟩
      · omega
theorem set_key {i : Nat} {z : Sq} {j : Nat} {y : Sq} (hy : (o.set i z)[j]? = some y) : (j = i ∧ y = z) ∨ (j ≠ i ∧ o[j]? = some y) := by
  by_cases hj : j = i
  · subst hj
    have hl : j < (o.set j z).length := (List.getElem?_eq_some_iff.1 hy).1
    rw [List.length_set] at hl
    rw [List.getElem?_set_self hl] at hy
    exact .inl ⟨rfl, (Option.some.inj hy).symm⟩
  · rw [List.getElem?_set_ne (Ne.symm hj)] at hy
    exact .inr ⟨hj, hy⟩
/-- One byte is put behind the bytes of a step. -/
theorem Rs.setD (h : Rs w B o ed ek) {x : Sq} (hx : o[ed]? = some x) {a : Option Addr} {n c : Nat} (ho : Own w' B (.slice a n c) (x.p.data ++ [165])) (hg : w.grownBy w' x.dv.ownBlock)
    (hv : (Value.slice a n c).ownBlock = x.dv.ownBlock ∨ (Value.slice a n c).ownBlock = some w.heap.size) : Rs w' B (o.set ed ⟨x.p, .slice a x.p.data.length c, x.kv⟩) (ed + 1) ek := by
  obtain ⟨gx, cx, ex, _, _, hcx⟩ := (h.d ed x hx).block
  rw [ex] at hg hv
  have hk : Kept (fun i => i = gx) w w' := Kept.ofGrown hg (fun g e => by cases e; rfl)
  have hform : ∃ g, a = some ⟨g, 0, none⟩ ∧ n = x.p.data.length + 1 := by
    rcases ho.2 with ⟨e1, e2⟩ | ⟨g, cap, cur, e1, _⟩
    · simp at e2
    · simp only [Value.slice.injEq] at e1
      exact ⟨g, e1.1, by simpa using e1.2.1⟩
  obtain ⟨g, rfl, rfl⟩ := hform
  have hb : (Value.slice (some ⟨g, 0, none⟩) x.p.data.length c).ownBlock = some gx ∨ (Value.slice (some ⟨g, 0, none⟩) x.p.data.length c).ownBlock = some w.heap.size := hv
  have other : ∀ j y, o[j]? = some y → j ≠ ed → (Value.slice (some ⟨g, 0, none⟩) x.p.data.length c).ownBlock ≠ y.dv.ownBlock := by
    intro j y hy hj e
    rcases hb with hb | hb
    · rw [hb] at e
      exact (h.apart j ed y x hy hx hj).1 (by rw [← e, ex])
    · rw [hb] at e
      have := h.ltD hy _ e.symm
      omega
  refine ⟨fun j y hy => ?_, fun j y hy => ?_, fun i j y z hy hz hij => ?_⟩
  · rcases set_key hy with ⟨rfl, rfl⟩ | ⟨hj, hy⟩
    · rw [if_pos (by omega)]
      exact ⟨g, c, rfl, by simpa using ho⟩
    · have h1 := h.d j y hy
      have e : (if j < ed then [(165 : UInt8)] else []) = if j < ed + 1 then [165] else [] := by
        by_cases hlt : j < ed
        · rw [if_pos hlt, if_pos (by omega)]
        · rw [if_neg hlt, if_neg (by omega)]
      rw [← e]
      exact h1.kept hk (fun g' hg' e' => by subst e'; exact (h.apart j ed y x hy hx hj).1 (by rw [hg', ex]))
  · have n64 : ∀ (y : Sq) (k f : List Int), KRow w B y.kv k f → ∀ g', y.kv.ownBlock = some g' → ¬ g' = gx := by
      intro y k f hr g' hg' e'
      obtain ⟨g2, cur, e2, _, _, hc2⟩ := hr.block
      rw [e2] at hg'; cases hg'; subst e'
      rw [hcx] at hc2
      simp at hc2
    rcases set_key hy with ⟨rfl, rfl⟩ | ⟨hj, hy⟩
    · exact (h.k j x hx).kept hk (n64 x _ _ (h.k j x hx))
    · exact (h.k j y hy).kept hk (n64 y _ _ (h.k j y hy))
  · rcases set_key hy with ⟨rfl, rfl⟩ | ⟨hi, hy2⟩
    · rcases set_key hz with ⟨rfl, rfl⟩ | ⟨hj, hz2⟩
      · omega
      · exact ⟨other j z hz2 hj, (h.apart i j x z hx hz2 hij).2⟩
    · rcases set_key hz with ⟨rfl, rfl⟩ | ⟨hj, hz2⟩
      · exact ⟨fun e => other i y hy2 hi e.symm, (h.apart i j y x hy2 hx hij).2⟩
      · exact h.apart i j y z hy2 hz2 hij
/-- One number is put behind the numbers of a step. -/
theorem Rs.setK (h : Rs w B o ed ek) {x : Sq} (hx : o[ek]? = some x) {a : Option Addr} {n c : Nat} (ho : OwnI w' B (.slice a n c) (x.p.keep ++ [-99])) (hg : w.grownBy w' x.kv.ownBlock)
    (hv : (Value.slice a n c).ownBlock = x.kv.ownBlock ∨ (Value.slice a n c).ownBlock = some w.heap.size) : Rs w' B (o.set ek ⟨x.p, x.dv, .slice a x.p.keep.length c⟩) ed (ek + 1) := by
  obtain ⟨gx, cx, ex, _, _, hcx⟩ := (h.k ek x hx).block
  rw [ex] at hg hv
  have hk : Kept (fun i => i = gx) w w' := Kept.ofGrown hg (fun g e => by cases e; rfl)
  have hform : ∃ g, a = some ⟨g, 0, none⟩ ∧ n = x.p.keep.length + 1 := by
    rcases ho.2 with ⟨e1, e2⟩ | ⟨g, cap, cur, e1, _⟩
    · simp at e2
    · simp only [Value.slice.injEq] at e1
      exact ⟨g, e1.1, by simpa using e1.2.1⟩
  obtain ⟨g, rfl, rfl⟩ := hform
  have hb : (Value.slice (some ⟨g, 0, none⟩) x.p.keep.length c).ownBlock = some gx ∨ (Value.slice (some ⟨g, 0, none⟩) x.p.keep.length c).ownBlock = some w.heap.size := hv
  have other : ∀ j y, o[j]? = some y → j ≠ ek → (Value.slice (some ⟨g, 0, none⟩) x.p.keep.length c).ownBlock ≠ y.kv.ownBlock := by
    intro j y hy hj e
    rcases hb with hb | hb
    · rw [hb] at e
      exact (h.apart j ek y x hy hx hj).2 (by rw [← e, ex])
    · rw [hb] at e
      have := h.ltK hy _ e.symm
      omega
  refine ⟨fun j y hy => ?_, fun j y hy => ?_, fun i j y z hy hz hij => ?_⟩
  · have n8 : ∀ (y : Sq) (k f : List UInt8), DRow w B y.dv k f → ∀ g', y.dv.ownBlock = some g' → ¬ g' = gx := by
      intro y k f hr g' hg' e'
      obtain ⟨g2, cur, e2, _, _, hc2⟩ := hr.block
      rw [e2] at hg'; cases hg'; subst e'
      rw [hcx] at hc2
      simp at hc2
    rcases set_key hy with ⟨rfl, rfl⟩ | ⟨hj, hy⟩
    · exact (h.d j x hx).kept hk (n8 x _ _ (h.d j x hx))
    · exact (h.d j y hy).kept hk (n8 y _ _ (h.d j y hy))
  · rcases set_key hy with ⟨rfl, rfl⟩ | ⟨hj, hy⟩
    · rw [if_pos (by omega)]
      exact ⟨g, c, rfl, by simpa using ho⟩
    · have h1 := h.k j y hy
      have e : (if j < ek then [(-99 : Int)] else []) = if j < ek + 1 then [-99] else [] := by
        by_cases hlt : j < ek
        · rw [if_pos hlt, if_pos (by omega)]
        · rw [if_neg hlt, if_neg (by omega)]
      rw [← e]
      exact h1.kept hk (fun g' hg' e' => by subst e'; exact (h.apart j ek y x hy hx hj).2 (by rw [hg', ex]))
  · rcases set_key hy with ⟨rfl, rfl⟩ | ⟨hi, hy2⟩
    · rcases set_key hz with ⟨rfl, rfl⟩ | ⟨hj, hz2⟩
      · omega
      · exact ⟨(h.apart i j x z hx hz2 hij).1, other j z hz2 hj⟩
    · rcases set_key hz with ⟨rfl, rfl⟩ | ⟨hj, hz2⟩
      · exact ⟨(h.apart i j y x hy2 hx hij).1, fun e => other i y hy2 hi e.symm⟩
      · exact h.apart i j y z hy2 hz2 hij
end
/-- Steps in a row of the call's own, handed in. -/
theorem play_own {w : World} {B : Nat} {g n c m : Nat} {l e : List Sq} (hr : w.ownsRow B 40 5 (.slice (some ⟨g, 0, none⟩) m c) m (flatS (l ++ e))) (hn : n = l.length) (hl : l.length ≤ maxLen) (hs : ∀ q ∈ l, StepIn w q.p q.dv q.kv) : PlayIn w (.slice (some ⟨g, 0, none⟩) n c) l := by
  subst hn
  refine ⟨⟨_, _, rfl, hl, .inr ⟨g, 0, rfl, (hr.lt g rfl).2, fun i x hx => ?_⟩⟩, hs⟩
  have := hr.cells (g := g) rfl i x (by rw [flatS_append, List.getElem?_append_left (List.getElem?_eq_some_iff.1 hx).1]; exact hx)
  rw [Nat.zero_add]
  cases i with
  | zero => simpa [Addr.add] using this
  | succ i => simpa [Addr.add] using this
theorem Rs.ins {w : World} {B : Nat} {o : List Sq} {ed ek : Nat} (h : Rs w B o ed ek) : ∀ q ∈ o, StepIn w q.p q.dv q.kv := by
  intro q hq
  obtain ⟨i, hi⟩ := List.getElem?_of_mem hq
  obtain ⟨a, c, e1, h1⟩ := (h.d i q hi).is
  obtain ⟨a2, c2, e2, h2⟩ := (h.k i q hi).is
  exact ⟨⟨a, c, e1, h1⟩, a2, c2, e2, h2⟩
/-- A step's cells in a row that was turned in one place. -/
theorem flat_set (l : List Sq) (i k : Nat) (x z : Sq) (hx : l[i]? = some x) (v : Value) (hk : k < 5) (hz : sqCells z = (sqCells x).set k v) : (flatS l).set (i * 5 + k) v = flatS (l.set i z) := by
  induction l generalizing i with
  | nil => simp at hx
  | cons a l ih =>
    have hla : (sqCells a).length = 5 := rfl
    cases i with
    | zero =>
      simp only [List.getElem?_cons_zero, Option.some.injEq] at hx
      subst hx
      show (sqCells a ++ flatS l).set (0 * 5 + k) v = sqCells z ++ flatS l
      rw [Nat.zero_mul, Nat.zero_add, List.set_append_left _ _ (by omega), hz]
    | succ i =>
      show (sqCells a ++ flatS l).set ((i + 1) * 5 + k) v = sqCells a ++ flatS (l.set i z)
      rw [List.set_append_right _ _ (by omega), hla, show (i + 1) * 5 + k - 5 = i * 5 + k by omega, ih i (by simpa using hx)]
end Go.Proofs.YteaccpolmmkclaaDoor

namespace Go.Proofs.YteaccpolmmkclaaDoor
open Go.RowKit

theorem wpList_steps {w : World} {ops : Array Oper} {rest : List Oper} {o : Oper} {a : Act} {Q : Exit → Act → World → Prop} (hgd : o.guard = none) (s x : Operand)
    (ho : o.op = .call { callee := .builtin .append, args := #[s, x], argTypes := #[29, 29] })
    (B : Nat) (v : Value) (X : List Sq) (hs : a.eval s = v) (hown : w.ownsRow B 40 5 v X.length (flatS X)) (ad : Option Addr) (c : Nat) (Y : Sq) (hx : a.eval x = .slice ad 1 c)
    (hsrc : ∃ p, ad = some p ∧ ∀ j u, (flatS [Y])[j]? = some u → w.cell? (p.add j) = some u) (hone : ∀ u ∈ flatS [Y], u.oneCell' = true)
    (hb : X.length ≤ 2147483647) (hbase : B ≤ w.heap.size)
    (h : ∀ v' w', w'.ownsRow B 40 5 v' (X ++ [Y]).length (flatS (X ++ [Y])) → w.grownBy w' v.ownBlock → (v'.ownBlock = v.ownBlock ∨ v'.ownBlock = some w.heap.size) → wpList Tryd.prog ops Q rest (a.put o.dst v') w') :
    wpList Tryd.prog ops Q (o :: rest) a w := by
  refine wpList_plain hgd fun K hK => ?_
  obtain ⟨i, hi, hz0, hz1, hz2⟩ := info_parts info_step
  obtain ⟨v', w', hr, h2, h3, h4, h5, h6⟩ := run_append_keepsG (P := Tryd.prog) w 5 B 29 o.type 40 i _ Tryd.underlying29 hi hz0 hz1 rfl v X.length (flatS X) hown ad 1 c (flatS [Y]) (by rw [flatS_length]; rfl) (.inr hsrc) hone (by unfold maxLen; omega) (by rw [hz2]; omega) hbase
  unfold Oper.wp execOp
  simp only [ho, resolve, invoke, builtin, Sem.run_bind, Sem.run_pure, Result.andThen_ok, List.map_toArray, List.map_cons, List.map_nil, hs, hx, hr]
  refine hK _ _ (h v' w' ?_ h3 h5)
  rw [List.length_append, flatS_append]
  exact h2
/-- A play of the call's own. -/
def OwnedAt (w : World) (B : Nat) (ov : Value) (o : List Sq) : Prop := w.ownsRow B 40 5 ov o.length (flatS o) ∧ Rs w B o 0 0
/-- Where 'owned' is. -/
structure OwI (W w : World) (j s q : Int) (sv ov : Value) (o : List Sq) : Prop where
  low : Below W.heap.size W w
  pb : w.heap[W.heap.size]? = some (.cells #[.int .i64 j, .int .i64 s, .int .i64 q, sv] 31 (0, 0))
  rb : w.heap[W.heap.size + 1]? = some (.cells #[.int .i64 0, .int .i64 0, .int .i64 0, .slice none 0 0] 31 (0, 0))
  qb : w.heap[W.heap.size + 1 + 1]? = some (.cells #[.int .i64 j, .int .i64 s, .int .i64 q, ov] 31 (0, 0))
  own : OwnedAt w W.heap.size ov o
section
variable {W w w' : World} {j s q : Int} {sv ov : Value} {o : List Sq}
theorem OwI.big (h : OwI W w j s q sv ov o) : W.heap.size + 1 + 1 < w.heap.size := (Array.getElem?_eq_some_iff.1 h.qb).1
theorem own5_later {B : Nat} {v : Value} {n : Nat} {xs : List Value} (h : w.ownsRow B 40 5 v n xs) (hb : Below w.heap.size w w') : w'.ownsRow B 40 5 v n xs := by
  refine ⟨h.1, ?_⟩
  rcases h.2 with h0 | ⟨g, cap, cur, hv, hB, hg, rest⟩
  · exact .inl h0
  · exact .inr ⟨g, cap, cur, hv, hB, (hb.block g (Array.getElem?_eq_some_iff.1 hg).1).trans hg, rest⟩
theorem OwI.later (h : OwI W w j s q sv ov o) (hb : Below w.heap.size w w') : OwI W w' j s q sv ov o := by
  have := h.big
  exact ⟨h.low.trans (hb.mono h.low.size), (hb.block _ (by omega)).trans h.pb, (hb.block _ (by omega)).trans h.rb, (hb.block _ (by omega)).trans h.qb, own5_later h.own.1 hb, h.own.2.later hb⟩
theorem OwI.cells (h : OwI W w j s q sv ov o) : w.cell? ⟨W.heap.size, 3, none⟩ = some sv ∧ w.cell? ⟨W.heap.size + 1 + 1, 3, none⟩ = some ov ∧ w.frozen? ⟨W.heap.size + 1 + 1, 3, none⟩ = false := by
  simp [World.cell?, World.frozen?, h.pb, h.qb]
theorem OwI.done (h : OwI W w j s q sv ov o) {v' : Value} {p : StepP} {dv kv : Value} (wo : World) (ho : OwI W wo j s q sv ov o) (hbo : Below wo.heap.size wo w)
    (h1 : DRow w wo.heap.size dv p.data []) (h2 : KRow w wo.heap.size kv p.keep [])
    (hr : w'.ownsRow W.heap.size 40 5 v' (o ++ [(⟨p, dv, kv⟩ : Sq)]).length (flatS (o ++ [(⟨p, dv, kv⟩ : Sq)]))) (hg : w.grownBy w' ov.ownBlock) :
    OwI W (w'.setCell ⟨W.heap.size + 1 + 1, 3, none⟩ v') j s q sv v' (o ++ [⟨p, dv, kv⟩]) := by
  have kg : Kept (fun i => ov.ownBlock = some i) w w' := Kept.ofGrown hg (fun g e => e)
  have hst : ∀ g, ov.ownBlock = some g → ∃ cur, w.heap[g]? = some (.cells cur 40 (0, 0)) := fun g e => row5_type h.own.1 e
  have np : ∀ {g : Nat} {cs : Array Value}, w.heap[g]? = some (.cells cs 31 (0, 0)) → ¬ ov.ownBlock = some g := fun {g cs} hc e => by
    obtain ⟨cur, h9⟩ := hst g e
    rw [hc] at h9
    simp at h9
  have q2 : w'.heap[W.heap.size + 1 + 1]? = some (.cells #[.int .i64 j, .int .i64 s, .int .i64 q, ov] 31 (0, 0)) := (kg.block _ h.big (np h.qb)).trans h.qb
  have hsz := h.low.size
  have hbig := h.big
  have ks : Kept (fun i => i = W.heap.size + 1 + 1) w' (w'.setCell ⟨W.heap.size + 1 + 1, 3, none⟩ v') := Kept.setCell _ _ _ _ _ rfl
  have hB : ∀ g, ov.ownBlock = some g → W.heap.size ≤ g := fun g e => (h.own.1.lt g e).1
  have low : Below W.heap.size W (w'.setCell ⟨W.heap.size + 1 + 1, 3, none⟩ v') := by
    refine h.low.trans ((kg.below hsz (fun k hk e => by have := hB k e; omega)).trans ?_)
    exact ks.below (by have := kg.size; omega) (fun k hk e => by omega)
  have p2 : (w'.setCell ⟨W.heap.size + 1 + 1, 3, none⟩ v').heap[W.heap.size]? = some (.cells #[.int .i64 j, .int .i64 s, .int .i64 q, sv] 31 (0, 0)) := (ks.block _ (by have := kg.size; omega) (by omega)).trans ((kg.block _ (by omega) (np h.pb)).trans h.pb)
  have r2 : (w'.setCell ⟨W.heap.size + 1 + 1, 3, none⟩ v').heap[W.heap.size + 1]? = some (.cells #[.int .i64 0, .int .i64 0, .int .i64 0, .slice none 0 0] 31 (0, 0)) := (ks.block _ (by have := kg.size; omega) (by omega)).trans ((kg.block _ (by omega) (np h.rb)).trans h.rb)
  have rs0 : Rs w W.heap.size (o ++ [⟨p, dv, kv⟩]) 0 0 := by
    have hwo := ho.low.size
    have d1 : DRow w W.heap.size dv p.data [] := by obtain ⟨g, c, e, hq⟩ := h1; exact ⟨g, c, e, hq.mono hwo⟩
    have k1 : KRow w W.heap.size kv p.keep [] := by obtain ⟨g, c, e, hq⟩ := h2; exact ⟨g, c, e, hq.mono hwo⟩
    refine Rs.snoc ho.own.2 (ho.own.2.later hbo) d1 k1 (fun g e => ?_) (fun g e => ?_)
    · obtain ⟨g', _, e', hb', _⟩ := h1.block
      rw [e] at e'; cases e'; exact hb'
    · obtain ⟨g', _, e', hb', _⟩ := h2.block
      rw [e] at e'; cases e'; exact hb'
  have rs1 : Rs w' W.heap.size (o ++ [⟨p, dv, kv⟩]) 0 0 := rs0.keptT kg (fun g cur e hc => by obtain ⟨c2, h9⟩ := hst g e; rw [hc] at h9; simp at h9) (fun g cur e hc => by obtain ⟨c2, h9⟩ := hst g e; rw [hc] at h9; simp at h9)
  have rs2 : Rs (w'.setCell ⟨W.heap.size + 1 + 1, 3, none⟩ v') W.heap.size (o ++ [⟨p, dv, kv⟩]) 0 0 := rs1.keptT ks (fun g cur e hc => by subst e; rw [q2] at hc; simp at hc) (fun g cur e hc => by subst e; rw [q2] at hc; simp at hc)
  refine ⟨low, p2, r2, (set_cells q2 3 v').1, ⟨hr.1, ?_⟩, rs2⟩
  rcases hr.2 with h0 | ⟨g, cap, cur, e, hB, hgg, rest⟩
  · exact .inl h0
  · refine .inr ⟨g, cap, cur, e, hB, (ks.block g (Array.getElem?_eq_some_iff.1 hgg).1 (fun e2 => ?_)).trans hgg, rest⟩
    subst e2
    rw [q2] at hgg
    simp at hgg
end
theorem OwI.boxq {W w w' : World} {j s q : Int} {sv ov : Value} {o : List Sq} (h : OwI W w j s q sv ov o) (hg : w.grownBy w' ov.ownBlock) : w'.heap[W.heap.size + 1 + 1]? = some (.cells #[.int .i64 j, .int .i64 s, .int .i64 q, ov] 31 (0, 0)) := by
  refine (hg.block _ h.big (fun e => ?_)).trans h.qb
  obtain ⟨cur, h9⟩ := row5_type h.own.1 e.symm
  rw [h.qb] at h9
  simp at h9
theorem OwI.ret {W w : World} {j s q : Int} {sv ov : Value} {o : List Sq} (h : OwI W w j s q sv ov o) {cs : Array Value} : OwnedAt (w.setRow (W.heap.size + 1) cs) W.heap.size ov o := by
  have ks : Kept (fun i => i = W.heap.size + 1) w (w.setRow (W.heap.size + 1) cs) := ⟨rfl, rfl, rfl, by simp [World.setRow], fun k _ hk => setRow_other w _ k _ hk⟩
  refine ⟨⟨h.own.1.1, ?_⟩, h.own.2.keptT ks (fun g cur e hc => by subst e; rw [h.rb] at hc; simp at hc) (fun g cur e hc => by subst e; rw [h.rb] at hc; simp at hc)⟩
  rcases h.own.1.2 with h0 | ⟨g, cap, cur, e, hB, hgg, rest⟩
  · exact .inl h0
  · refine .inr ⟨g, cap, cur, e, hB, (ks.block g (Array.getElem?_eq_some_iff.1 hgg).1 (fun e2 => ?_)).trans hgg, rest⟩
    subst e2
    rw [h.rb] at hgg
    simp at hgg
theorem owi_start (W : World) (j s q : Int) (sv : Value) : OwI W (((W.alloc (.cells #[.int .i64 j, .int .i64 s, .int .i64 q, sv] 31)).alloc (.cells #[.int .i64 0, .int .i64 0, .int .i64 0, .slice none 0 0] 31)).alloc (.cells #[.int .i64 j, .int .i64 s, .int .i64 q, .slice none 0 0] 31)) j s q sv (.slice none 0 0) [] := by
  have a1 := heap_alloc_new W (.cells #[.int .i64 j, .int .i64 s, .int .i64 q, sv] 31)
  generalize hw1 : W.alloc (.cells #[.int .i64 j, .int .i64 s, .int .i64 q, sv] 31) = w1 at a1
  have s1 : w1.heap.size = W.heap.size + 1 := by rw [← hw1]; simp
  have b1 : Below W.heap.size W w1 := by rw [← hw1]; exact (Below.refl _ W).alloc (Nat.le_refl _) _
  have a2 := heap_alloc_new w1 (.cells #[.int .i64 0, .int .i64 0, .int .i64 0, .slice none 0 0] 31)
  have c1 := (heap_alloc_old w1 (.cells #[.int .i64 0, .int .i64 0, .int .i64 0, .slice none 0 0] 31) (r := W.heap.size) (by omega)).trans a1
  have b2 : Below W.heap.size W (w1.alloc (.cells #[.int .i64 0, .int .i64 0, .int .i64 0, .slice none 0 0] 31)) := b1.alloc (by omega) _
  generalize hw2 : w1.alloc (.cells #[.int .i64 0, .int .i64 0, .int .i64 0, .slice none 0 0] 31) = w2 at a2 c1 b2
  have s2 : w2.heap.size = W.heap.size + 1 + 1 := by rw [← hw2]; simp; omega
  rw [s1] at a2
  have a3 := heap_alloc_new w2 (.cells #[.int .i64 j, .int .i64 s, .int .i64 q, .slice none 0 0] 31)
  rw [s2] at a3
  exact ⟨b2.alloc (by omega) _, (heap_alloc_old w2 _ (by omega)).trans c1, (heap_alloc_old w2 _ (by omega)).trans a2, a3, World.ownsRow_nil _ _ _ _, ⟨fun i x hx => by simp at hx, fun i x hx => by simp at hx, fun i j x y hx => by simp at hx⟩⟩
/-- Where a round of 'owned' is, with the step's box. -/
structure OwR (wr w : World) (sb : Nat) (p : StepP) (dv kv : Value) : Prop where
  low : Below wr.heap.size wr w
  box : w.heap[sb]? = some (.cells #[.int .i64 p.kind, .int .i64 p.conn, dv, .int .i64 p.brk, kv] 40 (0, 0))
  hsb : sb = wr.heap.size
section
variable {wr w w3 : World} {sb : Nat} {p : StepP} {dv kv v3 : Value} {d : List UInt8} {ks : List Int}
theorem OwR.lt (h : OwR wr w sb p dv kv) : sb < w.heap.size := (Array.getElem?_eq_some_iff.1 h.box).1
theorem OwR.cells (h : OwR wr w sb p dv kv) : w.cell? ⟨sb, 0, none⟩ = some (.int .i64 p.kind) ∧ w.cell? ⟨sb, 1, none⟩ = some (.int .i64 p.conn) ∧ w.cell? ⟨sb, 2, none⟩ = some dv ∧ w.cell? ⟨sb, 3, none⟩ = some (.int .i64 p.brk) ∧ w.cell? ⟨sb, 4, none⟩ = some kv ∧ ∀ i, w.frozen? ⟨sb, i, none⟩ = false := by
  simp [World.cell?, World.frozen?, h.box]
theorem OwR.later (h : OwR wr w sb p dv kv) {w' : World} (hb : Below w.heap.size w w') : OwR wr w' sb p dv kv := ⟨h.low.trans (hb.mono h.low.size), (hb.block _ h.lt).trans h.box, h.hsb⟩
theorem owr_start (wr : World) (p : StepP) (dv kv : Value) : OwR wr (wr.alloc (.cells #[.int .i64 p.kind, .int .i64 p.conn, dv, .int .i64 p.brk, kv] 40)) wr.heap.size p dv kv :=
  ⟨(Below.refl _ wr).alloc (Nat.le_refl _) _, heap_alloc_new wr _, rfl⟩
theorem OwR.grown (h : OwR wr w sb p dv kv) {g : Nat} (hg : w.grownBy w3 (some g)) (hne : sb < g) : OwR wr w3 sb p dv kv := by
  have k : Kept (fun i => i = g) w w3 := Kept.ofGrown hg (fun x e => by cases e; rfl)
  have hs := h.hsb
  exact ⟨h.low.trans (k.below h.low.size (fun i hi e => by omega)), (k.block _ h.lt (by omega)).trans h.box, h.hsb⟩
theorem OwR.set2 (h : OwR wr w sb p dv kv) (v : Value) : OwR wr (w.setCell ⟨sb, 2, none⟩ v) sb p v kv := by
  have k : Kept (fun i => i = sb) w (w.setCell ⟨sb, 2, none⟩ v) := Kept.setCell _ _ _ _ _ rfl
  have hs := h.hsb
  exact ⟨h.low.trans (k.below h.low.size (fun i hi e => by omega)), (set_cells h.box 2 v).1, h.hsb⟩
theorem OwR.set4 (h : OwR wr w sb p dv kv) (v : Value) : OwR wr (w.setCell ⟨sb, 4, none⟩ v) sb p dv v := by
  have k : Kept (fun i => i = sb) w (w.setCell ⟨sb, 4, none⟩ v) := Kept.setCell _ _ _ _ _ rfl
  have hs := h.hsb
  exact ⟨h.low.trans (k.below h.low.size (fun i hi e => by omega)), (set_cells h.box 4 v).1, h.hsb⟩
theorem DRow.setBox (h : OwR wr w sb p dv kv) (hd : DRow w wr.heap.size v3 d []) (i : Nat) (v : Value) : DRow (w.setCell ⟨sb, i, none⟩ v) wr.heap.size v3 d [] :=
  hd.kept (P := fun i => i = sb) (Kept.setCell _ _ _ _ _ rfl) (fun g e e2 => by
    obtain ⟨g', cur, e', _, _, hc⟩ := hd.block
    rw [e] at e'; cases e'; subst e2
    rw [h.box] at hc
    simp at hc)
theorem KRow.setBox (h : OwR wr w sb p dv kv) (hd : KRow w wr.heap.size v3 ks []) (i : Nat) (v : Value) : KRow (w.setCell ⟨sb, i, none⟩ v) wr.heap.size v3 ks [] :=
  hd.kept (P := fun i => i = sb) (Kept.setCell _ _ _ _ _ rfl) (fun g e e2 => by
    obtain ⟨g', cur, e', _, _, hc⟩ := hd.block
    rw [e] at e'; cases e'; subst e2
    rw [h.box] at hc
    simp at hc)
end
theorem DRow.later {w w' : World} {B : Nat} {v : Value} {d e : List UInt8} (h : DRow w B v d e) (hb : Below w.heap.size w w') : DRow w' B v d e := h.kept (P := fun _ => False) (Kept.ofBelow hb) (fun _ _ h => h)
theorem KRow.later {w w' : World} {B : Nat} {v : Value} {d e : List Int} (h : KRow w B v d e) (hb : Below w.heap.size w w') : KRow w' B v d e := h.kept (P := fun _ => False) (Kept.ofBelow hb) (fun _ _ h => h)
theorem info_play : (Tryd.prog.info? 31).map (fun i => (i.zero, i.size, i.bytes)) = some (some (.agg #[.int .i64 0, .int .i64 0, .int .i64 0, .slice none 0 0]), 4, 48) := by kernel_rfl
theorem play_one {j s q : Int} {a : Option Addr} {n c : Nat} : (#[.int .i64 j, .int .i64 s, .int .i64 q, .slice a n c] : Array Value).all (·.oneCell') = true := by simp [Value.oneCell']
theorem play_size {a b c d : Value} : (Tryd.prog.info? 31).map (·.size) = some (#[a, b, c, d] : Array Value).size := by kernel_rfl
set_option maxHeartbeats 8000000 in
set_option maxRecDepth 1000000 in
theorem owned_any (W : World) (j s q : Int) (a : Option Addr) (c : Nat) (l : List Sq) (h : PlayIn W (.slice a l.length c) l) (hs : SmallP l) :
    Calls Tryd.prog 19 #[.agg #[.int .i64 j, .int .i64 s, .int .i64 q, .slice a l.length c]] W fun e w' => Below W.heap.size W w' ∧ ∃ ov o, e = .returned (.agg #[.int .i64 j, .int .i64 s, .int .i64 q, ov]) ∧ OwnedAt w' W.heap.size ov o ∧ o.map (·.p) = l.map (·.p) := by
  have H0 := hide (owi_start W j s q (.slice a l.length c))
  have HP := hide h
  have HS := hide hs
  have hml : l.length ≤ 2147483647 := hs.1
  clear h hs
  go_enter Tryd.func19, Tryd.ntmps19
  go_wp2_with fail
  go_loopg [4] l.length (fun gk i wr => ∃ (k : Nat) (ov : Value) (o : List Sq), i = .int .i64 (k : Int) ∧ l.length - k ≤ gk ∧ k ≤ l.length ∧ Hid (OwI W wr j s q (.slice a l.length c) ov o) ∧ Hid (o.map (·.p) = (l.map (·.p)).take k))
  case atStart => exact ⟨0, _, [], rfl, by omega, by omega, H0, by simp [Hid]⟩
  case round =>
    obtain ⟨k, ov, o, rfl, hgk, hk, HO, HM⟩ := hrel
    obtain ⟨y1, y2, y3⟩ := HO.out.cells
    by_cases hlt : k < l.length
    · have tlt : (k : Int) < (l.length : Int) := by omega
      obtain ⟨x, hx⟩ : ∃ x, l[k]? = some x := ⟨_, List.getElem?_eq_getElem hlt⟩
      obtain ⟨b, oo, e1, m0, m1, m2, m3, m4, hsi⟩ := HP.out.at HO.out.low hx
      obtain ⟨p, dv, kv⟩ := x
      obtain ⟨⟨ad, cd, e2, i2⟩, ak, ck, e4, i4⟩ := hsi
      have hsm := HS.out.2 _ (List.mem_of_getElem? hx)
      simp only [] at e2 e4 i2 i4 m0 m1 m2 m3 m4 hsm
      subst e1 e2 e4
      have HM2 : Hid ((l.map (·.p)).take (k + 1) = (l.map (·.p)).take k ++ [p]) := by
        show _ = _
        rw [List.take_add_one, List.getElem?_map, hx]
        rfl
      have HI : Hid (IsBytes wr ad cd p.data ∧ IsInts wr ak ck p.keep) := ⟨i2, i4⟩
      obtain ⟨hs1, hs2⟩ := hsm
      clear hx i2 i4
      -- the step's box
      have R1 := hide (owr_start wr p (.slice ad p.data.length cd) (.slice ak p.keep.length ck))
      have hsz1 : (wr.alloc (.cells #[.int .i64 p.kind, .int .i64 p.conn, .slice ad p.data.length cd, .int .i64 p.brk, .slice ak p.keep.length ck] 40)).heap.size = wr.heap.size + 1 := by simp
      generalize hw1 : wr.alloc (.cells #[.int .i64 p.kind, .int .i64 p.conn, .slice ad p.data.length cd, .int .i64 p.brk, .slice ak p.keep.length ck] 40) = w1 at R1 hsz1
      have HW1 := hide hw1
      have HZ1 := hide hsz1
      have O2 : Hid (Own (w1.alloc (.cells #[] 5)) wr.heap.size (.slice (some ⟨w1.heap.size, 0, none⟩) 0 0) []) := own_made w1 wr.heap.size [] #[] rfl (by omega) (by simp)
      have B2 : Hid (Below w1.heap.size w1 (w1.alloc (.cells #[] 5))) := (Below.refl _ w1).alloc (Nat.le_refl _) _
      have R2 := hide (R1.out.later B2.out)
      obtain ⟨z0, z1, z2, z3, z4, z5⟩ := R2.out.cells
      have z52 := z5 2
      clear hw1 hsz1
      go_upto_region 6 with fail
      rw [HW1.out]
      go_upto_region 8 with (at_builtin
                             refine wpList_append8 rfl (.tmp 24) (.tmp 26) rfl wr.heap.size (.slice (some ⟨w1.heap.size, 0, none⟩) 0 0) [] rfl O2.out ad cd p.data rfl (HI.out.1.below R2.out.low) (by simp only [List.length_nil]; omega) R2.out.low.size ?_
                             intro v3 w3 ho3 hg3 _ _ hn3
                             have D3 : Hid (DRow w3 wr.heap.size v3 p.data []) := drow_of ho3 (fun e => by simpa using (hn3.1 e).1)
                             have R3 : Hid (OwR wr w3 wr.heap.size p (.slice ad p.data.length cd) (.slice ak p.keep.length ck)) := R2.out.grown (g := w1.heap.size) hg3 (by have := HZ1.out; omega)
                             have z523 := R3.out.cells.2.2.2.2.2 2
                             have zl3 := R3.out.cells.2.2.1
                             obtain ⟨a3, c3, e3, _⟩ := D3.out.is
                             subst e3
                             clear ho3 hg3 hn3)
      have D4 := hide (D3.out.setBox R3.out 2 (.slice a3 p.data.length c3))
      have R4 := hide (R3.out.set2 (.slice a3 p.data.length c3))
      clear D3 R3 z523 zl3 z0 z1 z2 z3 z4 z5 z52 O2 B2 R2
      generalize hw4 : w3.setCell ⟨wr.heap.size, 2, none⟩ (.slice a3 p.data.length c3) = w4 at D4 R4
      have O5 : Hid (OwnI (w4.alloc (.cells #[] 3)) wr.heap.size (.slice (some ⟨w4.heap.size, 0, none⟩) 0 0) []) := OwnI.lit w4 wr.heap.size R4.out.low.size
      have B5 : Hid (Below w4.heap.size w4 (w4.alloc (.cells #[] 3))) := (Below.refl _ w4).alloc (Nat.le_refl _) _
      have R5 := hide (R4.out.later B5.out)
      have D5 := hide (D4.out.later B5.out)
      have hl4 := R4.out.lt
      obtain ⟨z0, z1, z2, z3, z4, z5⟩ := R5.out.cells
      clear hw4
      go_upto_region 10 with (at_builtin
                              refine wpList_appendS rfl (.tmp 30) (.tmp 32) rfl wr.heap.size (.slice (some ⟨w4.heap.size, 0, none⟩) 0 0) [] rfl O5.out ak ck p.keep rfl (HI.out.2.below R5.out.low) (by simp only [List.length_nil]; omega) R5.out.low.size ?_
                              intro v6 w6 ho6 hg6 _ _ hn6
                              have K6 : Hid (KRow w6 wr.heap.size v6 p.keep []) := krow_of ho6 (fun e => by simpa using (hn6.1 e).1)
                              have R6 : Hid (OwR wr w6 wr.heap.size p (.slice a3 p.data.length c3) (.slice ak p.keep.length ck)) := R5.out.grown (g := w4.heap.size) hg6 hl4
                              have D6 : Hid (DRow w6 wr.heap.size (.slice a3 p.data.length c3) p.data []) := D5.out.kept (Kept.ofGrown hg6 (fun g e => e)) (fun g e e2 => by
                                obtain ⟨g', cur, e', _, hl', _⟩ := D4.out.block
                                rw [e] at e'
                                cases e'
                                simp [Value.ownBlock] at e2
                                omega)
                              have z546 := R6.out.cells.2.2.2.2.2 4
                              have zl6 := R6.out.cells.2.2.2.2.1
                              obtain ⟨a6, c6, e6, _⟩ := K6.out.is
                              subst e6
                              clear ho6 hg6 hn6)
      have K7 := hide (K6.out.setBox R6.out 4 (.slice a6 p.keep.length c6))
      have D7 := hide (D6.out.setBox R6.out 4 (.slice a6 p.keep.length c6))
      have R7 := hide (R6.out.set4 (.slice a6 p.keep.length c6))
      clear D4 R4 D5 R5 O5 B5 D6 R6 K6 z546 zl6 z0 z1 z2 z3 z4 z5 hl4
      generalize hw7 : w6.setCell ⟨wr.heap.size, 4, none⟩ (.slice a6 p.keep.length c6) = w7 at D7 R7 K7
      clear hw7
      have A8 : Hid (Below w7.heap.size w7 (w7.alloc (.cells #[.int .i64 p.kind, .int .i64 p.conn, .slice a3 p.data.length c3, .int .i64 p.brk, .slice a6 p.keep.length c6] 40))) := (Below.refl _ w7).alloc (Nat.le_refl _) _
      have O7 := hide (HO.out.later R7.out.low)
      have O8 := hide (O7.out.later A8.out)
      have D8 := hide (D7.out.later A8.out)
      have K8 := hide (K7.out.later A8.out)
      have B8 := hide (R7.out.low.trans (A8.out.mono R7.out.low.size))
      have hlo : o.length ≤ 2147483647 := by
        have := congrArg List.length HM.out
        simp at this
        omega
      obtain ⟨z0, z1, z2, z3, z4, _⟩ := R7.out.cells
      obtain ⟨_, y2, y3⟩ := O7.out.cells
      go_wp2_with (at_builtin
                   refine wpList_steps rfl (.tmp 36) (.tmp 38) rfl W.heap.size ov o rfl O8.out.own.1 (some ⟨w7.heap.size, 0, none⟩) 1 ⟨p, .slice a3 p.data.length c3, .slice a6 p.keep.length c6⟩ rfl (src_step w7 p _ _ p.kind rfl) (by intro u hu; simp [flatS, sqCells] at hu; rcases hu with rfl | rfl | rfl | rfl | rfl <;> rfl) hlo O8.out.low.size ?_
                   intro v9 w9 ho9 hg9 _
                   obtain ⟨va9, vc9, hv9e⟩ := row5_form ho9
                   rw [List.length_append] at hv9e
                   simp only [List.length_cons, List.length_nil, Nat.zero_add] at hv9e
                   subst hv9e
                   have BQ := O8.out.boxq hg9
                   have y29 : w9.cell? ⟨W.heap.size + 1 + 1, 3, none⟩ = some ov := by simp [World.cell?, BQ]
                   have y39 : w9.frozen? ⟨W.heap.size + 1 + 1, 3, none⟩ = false := by simp [World.frozen?, BQ]
                   have HF := hide (O8.out.done wr HO.out B8.out D8.out K8.out ho9 hg9)
                   clear ho9 hg9 BQ)
      go_roundg (l.length - (k + 1))
      case measure => omega
      case rel => exact ⟨k + 1, _, _, by go_num, Nat.le_refl _, hlt, HF, by show _ = _; rw [List.map_append, HM.out, HM2.out]; rfl⟩
    · have tlt : ¬ (k : Int) < (l.length : Int) := by omega
      obtain ⟨ova, ovc, eov⟩ := row5_form HO.out.own.1
      subst eov
      have HR := hide HO.out.rb
      have HM3 : Hid (o.map (·.p) = l.map (·.p)) := by
        show _ = _
        rw [HM.out, List.take_of_length_le (by simp; omega)]
      go_wp2_with (first
        | (refine wpList_load_row rfl 31 (.tmp 3) rfl (W.heap.size + 1 + 1) rfl 31 _ (0, 0) _ HO.out.qb Tryd.underlying31 rfl play_size ?_)
        | (refine wpList_store_row rfl 31 (.tmp 2) (.tmp 41) rfl (W.heap.size + 1) #[.int .i64 j, .int .i64 s, .int .i64 q, .slice ova o.length ovc] rfl rfl 31 _ HR.out play_size rfl play_one ?_))
      have hrow : (wr.setRow (W.heap.size + 1) #[.int .i64 j, .int .i64 s, .int .i64 q, .slice ova o.length ovc]).heap[W.heap.size + 1]? = some (.cells #[.int .i64 j, .int .i64 s, .int .i64 q, .slice ova o.length ovc] 31 (0, 0)) := setRow_heap wr _ _ _ _ _ HR.out
      refine bodyPost_ret (results_cell_row rfl _ _ (W.heap.size + 1) 31 _ (0, 0) _ rfl hrow Tryd.underlying31 rfl play_size) rfl ?_
      exact ⟨below_setRow HO.out.low (by omega) _, _, rfl, o, HO.out.ret, HM3.out⟩
end Go.Proofs.YteaccpolmmkclaaDoor
