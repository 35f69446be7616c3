/-
  What all texts of the heap share.
-/
import Derived.Test.YtonfdmbcbfpgdaaProg
import Derived.WalkKit
import Derived.WalkSpells
import Derived.WalkLawsBesides
import Derived.WalkSmall
import Derived.StillTailTactics
import Derived.BigRegion
import Derived.BigQuiet
import Derived.Deep.LoopGhost
import Derived.Maps.OwnSet
import Derived.Maps.AppendAt
import Derived.Shelf.Abstract
import Derived.Lib.OthersKept
namespace Go.Proofs.Ytonfdmbcbfpgdaa
open Go.RowKit
/-- A region of reads that ends in a forced tail, the world by its short name. -/
theorem wp_tail {P : Program} {id : Nat} {Q : Exit → Act → World → Prop} {a : Act} {w : World} {l : List Oper} (n : Nat) (hm : P.follows .mixedOrders = true) (hB : Region.lexTailB .any l.toArray n = true)
    (h : wpStill P l.toArray w.drew (fun a' => wpList P l.toArray Q (l.drop n) a' w.drew) (l.take n) a) : (Code.region id l.toArray true).wp P Q a w :=
  wp_region_still_tail n hm hB h
theorem cell_lt {w : World} {p : Addr} {v : Value} (h : w.cell? p = some v) : p.block < w.heap.size := by
  unfold World.cell? at h
  cases hb : w.heap[p.block]? with
  | none => rw [hb] at h; simp at h
  | some o => exact (Array.getElem?_eq_some_iff.1 hb).1
/-- Nothing but blocks of P, and new ones, has turned. -/
structure Kept (P : Nat → Prop) (w w' : World) : Prop where
  os : w'.os = w.os
  tape : w'.tape = w.tape
  output : w'.output = w.output
  size : w.heap.size ≤ w'.heap.size
  block : ∀ k, k < w.heap.size → ¬ P k → w'.heap[k]? = w.heap[k]?

theorem Kept.refl (P : Nat → Prop) (w : World) : Kept P w w := ⟨rfl, rfl, rfl, Nat.le_refl _, fun _ _ _ => rfl⟩
theorem Kept.trans {P : Nat → Prop} {w w1 w2 : World} (h : Kept P w w1) (k : Kept P w1 w2) : Kept P w w2 :=
  ⟨k.os.trans h.os, k.tape.trans h.tape, k.output.trans h.output, Nat.le_trans h.size k.size, fun j hj hP => (k.block j (Nat.lt_of_lt_of_le hj h.size) hP).trans (h.block j hj hP)⟩
theorem Kept.mono {P Q : Nat → Prop} {w w1 : World} (h : Kept P w w1) (hPQ : ∀ k, k < w.heap.size → P k → Q k) : Kept Q w w1 :=
  ⟨h.os, h.tape, h.output, h.size, fun j hj hQ => h.block j hj (fun hP => hQ (hPQ j hj hP))⟩
theorem Kept.step {P Q : Nat → Prop} {w w1 w2 : World} (h : Kept P w w1) (k : Kept Q w1 w2) (hq : ∀ j, j < w.heap.size → Q j → P j) : Kept P w w2 :=
  ⟨k.os.trans h.os, k.tape.trans h.tape, k.output.trans h.output, Nat.le_trans h.size k.size, fun j hj hP => (k.block j (Nat.lt_of_lt_of_le hj h.size) (fun e => hP (hq j hj e))).trans (h.block j hj hP)⟩
theorem Kept.ofBelow {P : Nat → Prop} {w w1 : World} (h : Below w.heap.size w w1) : Kept P w w1 := ⟨h.os, h.tape, h.output, h.size, fun k hk _ => h.block k hk⟩
theorem Kept.ofGrown {P : Nat → Prop} {w w1 : World} {row : Option Nat} (h : w.grownBy w1 row) (hP : ∀ g, row = some g → P g) : Kept P w w1 :=
  ⟨h.os, h.tape, h.output, h.size, fun k hk hnP => h.block k hk (fun e => hnP (hP k e.symm))⟩
theorem Kept.below {P : Nat → Prop} {w w1 : World} {B : Nat} (h : Kept P w w1) (hB : B ≤ w.heap.size) (hP : ∀ k, k < B → ¬ P k) : Below B w w1 :=
  ⟨h.os, h.tape, h.output, h.size, fun k hk => h.block k (Nat.lt_of_lt_of_le hk hB) (hP k hk)⟩
theorem Kept.setCell (P : Nat → Prop) (w : World) (b i : Nat) (v : Value) (hP : P b) : Kept P w (w.setCell ⟨b, i, none⟩ v) :=
  ⟨rfl, rfl, rfl, by simp, fun k _ hk => Below.heap_setCell w ⟨b, i, none⟩ v k (fun e => hk (by rw [show k = b from e]; exact hP))⟩
theorem Kept.own {P : Nat → Prop} {w w1 : World} {B e : Nat} {v : Value} {n : Nat} {xs : List Value} (h : Kept P w w1) (ho : w.ownsRow B e 1 v n xs) (hP : ∀ g, v.ownBlock = some g → ¬ P g) : w1.ownsRow B e 1 v n xs := by
  refine ⟨ho.1, ?_⟩
  rcases ho.2 with h0 | ⟨g, cap, cur, rfl, hB, hg, rest⟩
  · exact .inl h0
  · exact .inr ⟨g, cap, cur, rfl, hB, (h.block g (Array.getElem?_eq_some_iff.1 hg).1 (hP g rfl)).trans hg, rest⟩
theorem Kept.cell {P : Nat → Prop} {w w' : World} (h : Kept P w w') {b i : Nat} {v : Value} (hb : ¬ P b) (hc : w.cell? ⟨b, i, none⟩ = some v) : w'.cell? ⟨b, i, none⟩ = some v :=
  (World.cell?_of_block (h.block b (cell_lt hc) hb)).trans hc
/-- Does one row rank ahead of another one? -/
def rankB {α : Type} (lt : α → α → Bool) (a b : Int × α) : Bool := if a.1 < b.1 then !lt b.2 a.2 else lt a.2 b.2
theorem below_two (w : World) (o1 o2 : Obj) : Below w.heap.size w ((w.alloc o1).alloc o2).drew := (((Below.refl _ w).alloc (Nat.le_refl _) _).alloc (by simp) _).drew
theorem set_cells {w : World} {rb : Nat} {cur : Array Value} {t : TypeId} (hg : w.heap[rb]? = some (.cells cur t (0, 0))) (q : Nat) (u : Value) :
    (w.setCell ⟨rb, q, none⟩ u).heap[rb]? = some (.cells (cur.setIfInBounds q u) t (0, 0)) ∧ w.grownBy (w.setCell ⟨rb, q, none⟩ u) (some rb) := by
  rw [setCell_eq_setRow w rb q _ t (0, 0) _ hg]
  exact ⟨setRow_heap w rb _ _ t _ hg, ⟨rfl, rfl, rfl, by simp [World.setRow], fun k _ hk => setRow_other w rb k _ (fun e => hk (by rw [e]))⟩⟩
theorem grown_trans {w w1 w2 : World} {g : Option Nat} (h1 : w.grownBy w1 g) (h2 : w1.grownBy w2 g) : w.grownBy w2 g :=
  ⟨h2.os.trans h1.os, h2.tape.trans h1.tape, h2.output.trans h1.output, Nat.le_trans h1.size h2.size, fun k hk hg => (h2.block k (Nat.lt_of_lt_of_le hk h1.size) hg).trans (h1.block k hk hg)⟩
theorem grown_of_drew {w w1 : World} {g : Option Nat} (h : w.drew.grownBy w1 g) : w.grownBy w1 g := ⟨h.os, h.tape, h.output, h.size, h.block⟩
theorem mixed : Try.prog.follows .mixedOrders = true := by kernel_rfl
end Go.Proofs.Ytonfdmbcbfpgdaa
