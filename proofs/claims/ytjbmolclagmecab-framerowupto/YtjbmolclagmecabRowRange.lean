/-
  What FrameRow has at hand while it ranges over All.
-/
import Derived.Test.YtjbmolclagmecabRowMem
namespace Go.Proofs.Ytjbmolclagmecab
open Go.RowKit

theorem Own.nil0 {w : World} {B : Nat} {a : Option Addr} {n c : Nat} {l : List UInt8} (h : Own w B (.slice a n c) l) : a = none → c = 0 := by
  rintro rfl
  rcases h.2 with ⟨h0, _⟩ | ⟨g, cap, cur, hv, _⟩
  · cases h0; rfl
  · cases hv
theorem wrap_small (x : Int) (h0 : -9223372036854775808 ≤ x) (h1 : x ≤ 9223372036854775807) : IntKind.i64.wrap x = x := by rw [IntKind.wrap_i64]; omega
theorem seq_nil (w : World) (fn : Fn) (b c : Array Value) : (binOp .eql 35 (.func fn b c) .nilFunc).run Try.prog w = .ok (.bool false) w := by
  have h : ∀ d : Nat, (Op.equalIn (d + 1) 35 (.func fn b c) .nilFunc).run Try.prog w = .ok false w := fun d => by
    simp [Op.equalIn, run_underlying Try.underlying35]
  simp only [binOp]
  simp [Op.equal, Op.maxDepth, h 9999]
theorem row_turned {w w' : World} {B e : Nat} {v : Value} {n : Nat} {xs : List Value} {row : Option Nat} (h : w.ownsRow B e 1 v n xs) (hg : w.grownBy w' row) (hr : ∀ r, row = some r → ∃ o : Obj, w.heap[r]? = some o ∧ o.isCells = false) : w'.ownsRow B e 1 v n xs := by
  refine ⟨h.1, ?_⟩
  rcases h.2 with h0 | ⟨g, cap, cur, hv, hB, hgc, rest⟩
  · exact .inl h0
  · exact .inr ⟨g, cap, cur, hv, hB, (grownBy_keeps_cells hg hr hgc rfl).trans hgc, rest⟩

structure RangeInv (w : World) (vp v7 v8 : Value) (b8 b12 b15 b16 : Nat) (al : List UInt8) (ns : List Nat) (made : Nat) (e : Int) (n : Nat) (W : World) : Prop where
  b4 : Boxed W w.heap.size 31 vp
  b6 : ∃ q, Boxed W (w.heap.size + 1) 4 (.bool q)
  bx8 : Boxed W b8 33 v8
  bx12 : Boxed W b12 3 (.int .i64 made)
  bx15 : Boxed W b15 25 (.int .i64 e)
  bx16 : Boxed W b16 3 (.int .i64 n)
  own : Own W (w.heap.size + 2) v7 al
  nums : Nums W (w.heap.size + 2) v8 ns
  bel : Below w.heap.size w W
  lies : ∀ g, v8.ownBlock = some g → g < b12
  apart : w.heap.size + 2 ≤ b8 ∧ w.heap.size + 2 ≤ b12 ∧ b12 < b15 ∧ b16 = b15 + 1 ∧ b8 < b12

variable {w : World} {vp v7 v8 : Value} {b8 b12 b15 b16 : Nat} {al : List UInt8} {ns : List Nat} {made : Nat} {e : Int} {n : Nat} {W W' : World}

theorem RangeInv.below (h : RangeInv w vp v7 v8 b8 b12 b15 b16 al ns made e n W) (hb : Below W.heap.size W W') : RangeInv w vp v7 v8 b8 b12 b15 b16 al ns made e n W' := by
  have hg : W.grownBy W' none := grown_of_below hb
  obtain ⟨q, h6⟩ := h.b6
  exact ⟨h.b4.kept hg (by simp), ⟨q, h6.kept hg (by simp)⟩, h.bx8.kept hg (by simp), h.bx12.kept hg (by simp), h.bx15.kept hg (by simp), h.bx16.kept hg (by simp), h.own.below hb, World.ownsRow.kept h.nums hg (by cases v8.ownBlock <;> simp), h.bel.trans (hb.mono h.bel.size), h.lies, h.apart⟩
theorem rangeInv_own {B : Nat} (hB : w.heap.size ≤ B) (G : Nat → Prop) : OwnFrom B (fun (pre : List Given) W => RangeInv w vp v7 v8 b8 b12 b15 b16 al ns made e pre.length W ∧ G pre.length) := by
  rintro s A C row ⟨h, hG⟩ hg hr
  have bx : ∀ b t u, Boxed A b t u → Boxed C b t u := fun b t u hb => boxed_own (β := Unit) b t (fun _ => u) () A C row hb hg (fun r e => (hr r e).2)
  obtain ⟨q, h6⟩ := h.b6
  exact ⟨⟨bx _ _ _ h.b4, ⟨q, bx _ _ _ h6⟩, bx _ _ _ h.bx8, bx _ _ _ h.bx12, bx _ _ _ h.bx15, bx _ _ _ h.bx16, row_turned h.own hg (fun r e => (hr r e).2), row_turned h.nums hg (fun r e => (hr r e).2),
    h.bel.grown hg h.bel.size (fun k e => Nat.le_trans hB (hr k e).1), h.lies, h.apart⟩, hG⟩
theorem RangeInv.count (h : RangeInv w vp v7 v8 b8 b12 b15 b16 al ns made e n W) (n' : Nat) : RangeInv w vp v7 v8 b8 b12 b15 b16 al ns made e n' (W.setCell ⟨b16, 0, none⟩ (.int .i64 (n' : Int))) := by
  have hs := grownBy_setCell' W b16 (.int .i64 (n' : Int))
  obtain ⟨q, h6⟩ := h.b6
  have ap := h.apart
  exact ⟨h.b4.kept hs (by simp; omega), ⟨q, h6.kept hs (by simp; omega)⟩, h.bx8.kept hs (by simp; omega), h.bx12.kept hs (by simp; omega), h.bx15.kept hs (by simp; omega), h.bx16.set _, World.ownsRow.kept h.own hs (row_box h.own h.bx16 (by decide)),
    World.ownsRow.kept h.nums hs (.inr (fun e => by have := h.lies b16 e; omega)), h.bel.setCell (p := ⟨b16, 0, none⟩) (by show w.heap.size ≤ b16; omega) _, h.lies, ap⟩
theorem RangeInv.answer (h : RangeInv w vp v7 v8 b8 b12 b15 b16 al ns made e n W) (q : Bool) : Boxed (W.setCell ⟨w.heap.size + 1, 0, none⟩ (.bool q)) (w.heap.size + 1) 4 (.bool q) ∧ Below w.heap.size w (W.setCell ⟨w.heap.size + 1, 0, none⟩ (.bool q)) := by
  obtain ⟨q0, h6⟩ := h.b6
  exact ⟨h6.set _, h.bel.setCell (p := ⟨w.heap.size + 1, 0, none⟩) (by show w.heap.size ≤ w.heap.size + 1; omega) _⟩
end Go.Proofs.Ytjbmolclagmecab
