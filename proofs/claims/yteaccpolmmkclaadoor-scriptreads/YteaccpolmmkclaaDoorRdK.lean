/-
  What lies about while texts are read and kept.
-/
import Derived.Test.YteaccpolmmkclaaDoorSpX
import Derived.Test.YteaccpolmmkclaaDoorRdX
namespace Go.Proofs.YteaccpolmmkclaaDoor
open Go.RowKit

def plBox (z : Pl) : Array Value := #[.int .i64 z.j, .int .i64 z.s, .int .i64 z.q, z.sv]
/-- While texts are read. -/
structure RS (W w : World) (B hb : Nat) (bx : List (Nat × Pl)) (P : List Pl) : Prop where
  low : Below W.heap.size W w
  book : w.heap[hb]? = some (.cells #[.slice none 0 0, .slice none 0 0] 26 (0, 0))
  box : ∀ z ∈ bx, w.heap[z.1]? = some (.cells (plBox z.2) 31 (0, 0))
  al : Al w B P
  hb1 : W.heap.size ≤ hb
  hB : W.heap.size ≤ B
  hz : B ≤ w.heap.size
section
variable {W w w' : World} {B hb : Nat} {bx : List (Nat × Pl)} {P D : List Pl}
theorem RS.later (h : RS W w B hb bx P) (hb' : Below w.heap.size w w') : RS W w' B hb bx P :=
  ⟨h.low.trans (hb'.mono h.low.size), (hb'.block _ (Array.getElem?_eq_some_iff.1 h.book).1).trans h.book, fun z hz => (hb'.block _ (Array.getElem?_eq_some_iff.1 (h.box z hz)).1).trans (h.box z hz), h.al.later hb', h.hb1, h.hB, Nat.le_trans h.hz hb'.size⟩
theorem RS.addBox (h : RS W w B hb bx P) (z : Pl) : RS W (w.alloc (.cells (plBox z) 31)) B hb (bx ++ [(w.heap.size, z)]) P := by
  have hb' := (Below.refl w.heap.size w).alloc (Nat.le_refl _) (.cells (plBox z) 31)
  have hl := h.later hb'
  refine ⟨hl.low, hl.book, fun y hy => ?_, hl.al, hl.hb1, hl.hB, hl.hz⟩
  rcases List.mem_append.1 hy with hy | hy
  · exact hl.box y hy
  · have : y = (w.heap.size, z) := by simpa using hy
    subst this
    exact heap_alloc_new w _
theorem RS.addPlay (h : RS W w B hb bx P) (hb' : Below w.heap.size w w') {z : Pl} (hs : StepsAt w' w.heap.size z.sv z.l) (ha : ApartS z.l) : RS W w' B hb bx (P ++ [z]) := by
  have hl := h.later hb'
  exact ⟨hl.low, hl.book, hl.box, h.al.snoc hl.al hs (Nat.le_refl _) h.hz ha, hl.hb1, hl.hB, hl.hz⟩
end
/-- While plays are kept. -/
structure KS (W w w8 : World) (B B3 hb : Nat) (ov wv : Value) (O Wn P : List Pl) (bx : List (Nat × Pl)) (D : List Pl) : Prop where
  low : Below W.heap.size W w
  bk : BkAt w w8.heap.size hb ov wv O Wn
  al : Al w B (P ++ Wn)
  box : ∀ z ∈ bx, w.heap[z.1]? = some (.cells (plBox z.2) 31 (0, 0)) ∧ z.1 < w8.heap.size ∧ z.1 ≠ hb
  dc : ∀ z ∈ D, StepsAt w B3 z.sv z.l ∧ StepsAt w8 B3 z.sv z.l
  wn : ∀ (i : Nat) y, Wn[i]? = some y → StepsAt w w8.heap.size y.sv y.l
  pl : ∀ g, SpQ (skel P) g → g < B3
  hz : w8.heap.size ≤ w.heap.size
  h8 : B3 ≤ w8.heap.size
  hbW : W.heap.size ≤ hb
  hBW : W.heap.size ≤ B
  hBz : B ≤ w.heap.size
  h8W : W.heap.size ≤ w8.heap.size
section
variable {W w w' w8 : World} {B B3 hb : Nat} {ov wv : Value} {O Wn P D : List Pl} {bx : List (Nat × Pl)}
theorem KS.start {w : World} (h : RS W w B hb bx P) (hd : ∀ z ∈ D, StepsAt w B3 z.sv z.l) (hp : ∀ g, SpQ (skel P) g → g < B3) (h3 : B3 ≤ w.heap.size) : KS W w w B B3 hb (.slice none 0 0) (.slice none 0 0) [] [] P bx D := by
  refine ⟨h.low, ⟨h.book, World.ownsRow_nil _ _ _ _, World.ownsRow_nil _ _ _ _, fun g e => by cases e⟩, by simpa using h.al, fun z hz => ⟨h.box z hz, (Array.getElem?_eq_some_iff.1 (h.box z hz)).1, fun e => ?_⟩, fun z hz => ⟨hd z hz, hd z hz⟩, fun i y hy => by simp at hy, hp, Nat.le_refl _, h3, h.hb1, h.hB, h.hz, h.low.size⟩
  have h1 := h.box z hz
  rw [e, h.book] at h1
  simp at h1
theorem KS.keep (h : KS W w w8 B B3 hb ov wv O Wn P bx D) {p : Pl} {e : Ending} (hp : KeepBP w w8.heap.size hb ov wv O Wn p e w') :
    e = .returned (.bool true) ∧ ∃ ov' wv' owv o, KS W w' w8 B B3 hb ov' wv' (O ++ [p]) (Wn ++ [⟨p.j, p.s, p.q, owv, o⟩]) P bx D ∧ o.map (·.p) = p.l.map (·.p) := by
  obtain ⟨rfl, ov', wv', owv, o, b1, s1, ap, hm, kp, n1, n2⟩ := hp
  have bqz : ∀ g, BQ hb ov wv g → W.heap.size ≤ g := fun g q => by
    rcases q with rfl | e | e
    · exact h.hbW
    · have := (h.bk.out.lt g e).1; have := h.h8W; omega
    · have := (h.bk.want.lt g e).1; have := h.h8W; omega
  have ty : ∀ g cur t, BQ hb ov wv g → w.heap[g]? = some (.cells cur t (0, 0)) → t ≠ 40 ∧ t ≠ 5 ∧ t ≠ 3 := fun g cur t q hc => by
    obtain ⟨c2, t2, h2, h3⟩ := h.bk.typ q
    rw [hc] at h2
    simp only [Option.some.injEq, Obj.cells.injEq] at h2
    rw [h2.2.1]
    rcases h3 with rfl | rfl <;> decide
  have al1 := h.al.kept kp ty
  have hwl := h.low.size
  refine ⟨rfl, ov', wv', owv, o, ⟨h.low.trans (kp.below hwl (fun g hg q => by have := bqz g q; omega)), b1, ?_, fun z hz => ?_, fun z hz => ⟨(h.dc z hz).1.keptT kp ty, (h.dc z hz).2⟩, fun i y hy => ?_, h.pl, Nat.le_trans h.hz kp.size, h.h8, h.hbW, h.hBW, Nat.le_trans h.hBz kp.size, h.h8W⟩, hm⟩
  · rw [← List.append_assoc]
    exact h.al.snoc al1 s1 (Nat.le_refl _) h.hBz ap
  · obtain ⟨h1, h2, h3⟩ := h.box z hz
    refine ⟨(kp.block _ (Array.getElem?_eq_some_iff.1 h1).1 (fun q => ?_)).trans h1, h2, h3⟩
    rcases q with e | e | e
    · exact h3 e
    · have := (h.bk.out.lt _ e).1; omega
    · have := (h.bk.want.lt _ e).1; omega
  · rcases snoc_key hy with hy | ⟨_, rfl⟩
    · exact (h.wn i y hy).keptT kp ty
    · exact s1.mono h.hz
end
end Go.Proofs.YteaccpolmmkclaaDoor
