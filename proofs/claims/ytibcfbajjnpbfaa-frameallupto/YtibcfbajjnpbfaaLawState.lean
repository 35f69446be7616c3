/-
  What a statement with kept lists and lent bytes has in memory.
-/
import Derived.Test.YtibcfbajjnpbfaaSpoil
namespace Go.Proofs.Ytibcfbajjnpbfaa
open Go.RowKit

/-- Kept lists at Hb, lent bytes at g; nothing elder has turned. -/
def LS (w0 w : World) (lab : Nat → Tag) (Hb g cap m : Nat) (X : List UInt8) (es : List Ent) : Prop :=
  Below w0.heap.size w0 w ∧ Held w w0.heap.size lab Hb 0 es ∧ Own w w0.heap.size (.slice (some ⟨g, 0, none⟩) m cap) X ∧ lab g = .user 0 ∧ (∀ (j : Nat) e, es[j]? = some e → e.bytes.length ≤ 4294967296) ∧ (∀ k, k < w0.heap.size → lab k = .user 0)

theorem LS.below {w0 w w' : World} {lab : Nat → Tag} {Hb g cap m : Nat} {X : List UInt8} {es : List Ent} (h : LS w0 w lab Hb g cap m X es) (hb : Below w.heap.size w w') : LS w0 w' lab Hb g cap m X es :=
  ⟨h.1.trans (hb.mono h.1.size), h.2.1.below hb, h.2.2.1.below hb, h.2.2.2⟩
theorem LS.drew {w0 w : World} {lab : Nat → Tag} {Hb g cap m : Nat} {X : List UInt8} {es : List Ent} (h : LS w0 w lab Hb g cap m X es) (n : Nat) : LS w0 (w.drewN n) lab Hb g cap m X es := h.below (below_drewN (Below.refl _ w) n)

/-- What was handed out since is kept: its label. -/
theorem LS.label {w0 w w1 : World} {lab : Nat → Tag} {Hb g cap m : Nat} {X : List UInt8} {es : List Ent} (h : LS w0 w lab Hb g cap m X es) (hb : Below w.heap.size w w1) {v : Value} {l : List UInt8} (ov : Own w1 w.heap.size v l) :
    LS w0 w1 (fun k => if k < w.heap.size then lab k else .out es.length) Hb g cap m X es ∧ Own w1 w0.heap.size v l ∧ Tagged (fun k => if k < w.heap.size then lab k else .out es.length) v (.out es.length) := by
  have hz := h.1.size
  have hlab : ∀ k, k < w.heap.size → (fun k => if k < w.heap.size then lab k else Tag.out es.length) k = lab k := fun k hk => if_pos hk
  obtain ⟨h1, h2, h3, h4, h5, h6⟩ := h
  refine ⟨⟨h1.trans (hb.mono hz), (h2.relabel hlab).below hb, h3.below hb, (hlab g h3.block.2).trans h4, h5, fun k hk => (hlab k (by omega)).trans (h6 k hk)⟩, ov.mono hz, fun q hq => ?_⟩
  have := (ov.lt q hq).1
  exact if_neg (by omega)
/-- .. and kept. -/
theorem LS.kept {w0 w w1 : World} {lab lab' : Nat → Tag} {Hb g cap m : Nat} {X : List UInt8} {es : List Ent} {e : Ent} (h : LS w0 w lab Hb g cap m X es) (hh : Held w1 w0.heap.size lab' Hb 0 (es ++ [e])) (hl : ∀ k, k < w.heap.size → lab' k = lab k) (hk : Kept (Lists lab) w w1) (he : e.bytes.length ≤ 4294967296) :
    LS w0 w1 lab' Hb g cap m X (es ++ [e]) := by
  have hz := h.1.size
  obtain ⟨h1, h2, h3, h4, h5, h6⟩ := h
  refine ⟨h1.trans (hk.below hz (fun k hk hL => ?_)), hh, hk.Own h3 (fun q hq hL => ?_), (hl g h3.block.2).trans h4, fun j f hf => ?_, fun k hk => (hl k (by omega)).trans (h6 k hk)⟩
  · unfold Lists at hL
    rw [h6 k hk] at hL
    simp at hL
  · simp only [Value.ownBlock, Option.some.injEq] at hq
    subst hq
    unfold Lists at hL
    simp only [h4] at hL
    simp at hL
  · by_cases hjl : j < es.length
    · rw [List.getElem?_append_left hjl] at hf
      exact h5 j f hf
    · rw [List.getElem?_append_right (by omega)] at hf
      have hj0 : j - es.length = 0 := by have := (List.getElem?_eq_some_iff.1 hf).1; simp at this; omega
      rw [hj0] at hf
      simp only [List.getElem?_cons_zero, Option.some.injEq] at hf
      rw [← hf]
      exact he
/-- A byte that was lent is written. -/
theorem LS.set {w0 w : World} {lab : Nat → Tag} {Hb g cap m : Nat} {X : List UInt8} {es : List Ent} (h : LS w0 w lab Hb g cap m X es) (k : Nat) (y : UInt8) : LS w0 (w.setCell ⟨g, k, none⟩ (.int .u8 (y.toNat : Int))) lab Hb g cap m (X.set k y) es := by
  obtain ⟨h1, h2, h3, h4, h5, h6⟩ := h
  refine ⟨h1.setCell h3.block.1 _, h2.kept (Kept.setCell (fun q => q = g) w g k _ rfl) (fun q hq e => ?_), (h3.set k y).1, h4, h5, h6⟩
  exact hq 0 (by rw [e]; exact h4)
/-- The end: all is spoilt. -/
theorem LS.ends {w0 w w1 : World} {lab : Nat → Tag} {Hb g cap m : Nat} {X : List UInt8} {es : List Ent} (h : LS w0 w lab Hb g cap m X es) (hk : Kept (NotUser lab) w w1) : Below w0.heap.size w0 w1 :=
  h.1.trans (hk.below h.1.size (fun k hk hn => hn 0 (h.2.2.2.2.2 k hk)))
theorem LS.start {w0 w1 w2 : World} (h1 : Below w0.heap.size w0 w1) (g cap m : Nat) (X : List UInt8) (hb : Below (w1.heap.size + 1) (w1.alloc (.cells #[.slice none 0 0, .slice none 0 0] 29)) w2) (ho : Own w2 (w1.heap.size + 1) (.slice (some ⟨g, 0, none⟩) m cap) X) :
    LS w0 w2 (fun k => if k = w1.heap.size then .box else .user 0) w1.heap.size g cap m X [] := by
  have hz := h1.size
  have hs : (w1.alloc (.cells #[.slice none 0 0, .slice none 0 0] 29)).heap.size = w1.heap.size + 1 := by simp
  have hlt := ho.block
  refine ⟨(h1.alloc hz _).trans (hb.mono (by omega)), (Held.start w1 _ _ hz (by simp)).below (by rw [hs]; exact hb), ho.mono (by omega), if_neg (by omega), (fun j e he => by simp at he), fun k hk => if_neg (by omega)⟩
end Go.Proofs.Ytibcfbajjnpbfaa
