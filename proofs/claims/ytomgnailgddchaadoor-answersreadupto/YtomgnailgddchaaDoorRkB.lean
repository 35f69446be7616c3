/-
  In the midst of the script: the boxes of both pairs.
-/
import Derived.Test.YtomgnailgddchaaDoorRkR
import Derived.Test.YtomgnailgddchaaDoorReadOps
import Derived.Test.YtomgnailgddchaaDoorRQF
namespace Go.Proofs.YtomgnailgddchaaDoor
open Go.RowKit Go.Sort

theorem wpList_load_wanted8 {P : Program} {ops : Array Oper} {rest : List Oper} {o : Oper} {a : Act} {w : World} {Q : Exit → Act → World → Prop} (hw : Region.wanted o (yielded ops a.tmps) = true) (ty : TypeId) (x : Operand) (ho : o.op = .load ty x)
    (g : Nat) (hx : a.eval x = .pointer (some ⟨g, 0, none⟩)) (t : TypeId) (cs : Array Value) (fr : Nat × Nat) (d : TypeDesc) (hg : w.heap[g]? = some (.cells cs t fr))
    (hu : P.underlying ty = some d) (hd : (match d with | .struct _ | .array _ _ => true | _ => false) = true) (hi : (P.info? ty).map (·.size) = some cs.size)
    (h : wpList P ops Q rest (a.put o.dst (.agg cs)) w) : wpList P ops Q (o :: rest) a w := by
  unfold wpList
  rw [if_pos hw]
  exact .inl (wp_load_row ty x ho g hx t cs fr d hg hu hd hi h)
/-- Between the steps. -/
structure Bx2 (w0 W : World) (lab : Nat → Tag) (Hb : Nat) (es : List Ent) (X Y : Pq) (i1 i2 bX bY k z : Nat) : Prop where
  bs : BS w0 W lab Hb es X Y i1 i2
  few : es.length ≤ k ∧ X.A.length ≤ z ∧ Y.A.length ≤ z
  pX : PairB W bX X
  pY : PairB W bY Y
  lX : lab bX = .user 0 ∧ w0.heap.size ≤ bX
  lY : lab bY = .user 0 ∧ w0.heap.size ≤ bY
  ne : bX ≠ bY
/-- Within a step: the step's own boxes besides. -/
structure Rd2 (w0 W : World) (lab : Nat → Tag) (Hb : Nat) (es : List Ent) (X Y X0 : Pq) (i1 i2 bX bY B7 B8 B9 k z : Nat) (o : Array Value) : Prop where
  bs : BS w0 W lab Hb es X Y i1 i2
  few : es.length ≤ k ∧ X.A.length ≤ z ∧ Y.A.length ≤ z
  pX : PairB W bX X0
  pY : PairB W bY Y
  p8 : PairB W B8 X
  p9 : PairB W B9 Y
  o7 : W.heap[B7]? = some (.cells o 36 (0, 0))
  lX : lab bX = .user 0 ∧ w0.heap.size ≤ bX
  lY : lab bY = .user 0 ∧ w0.heap.size ≤ bY
  l7 : lab B7 = .user 0 ∧ w0.heap.size ≤ B7
  l8 : lab B8 = .user 0 ∧ w0.heap.size ≤ B8
  l9 : lab B9 = .user 0 ∧ w0.heap.size ≤ B9
  ne : bX ≠ bY ∧ B8 ≠ bX ∧ B8 ≠ bY ∧ B8 ≠ B9 ∧ B8 ≠ B7
section
variable {w0 W W' : World} {lab lab' : Nat → Tag} {Hb : Nat} {es es' : List Ent} {X Y X' X0 : Pq} {i1 i2 bX bY B7 B8 B9 k k' z z' : Nat} {o : Array Value}
theorem Bx2.swap (h : Bx2 w0 W lab Hb es X Y i1 i2 bX bY k z) : Bx2 w0 W lab Hb es Y X i2 i1 bY bX k z := ⟨h.bs.swap, ⟨h.few.1, h.few.2.2, h.few.2.1⟩, h.pY, h.pX, h.lY, h.lX, fun e => h.ne e.symm⟩
theorem PairB.congr {b : Nat} (h : PairB W b X) (e1 : X'.rb = X.rb) (e2 : X'.db = X.db) : PairB W b X' := by
  unfold PairB
  rw [e1, e2]
  exact h
/-- A step was done to the first pair. -/
theorem Rd2.step (h : Rd2 w0 W lab Hb es X Y X0 i1 i2 bX bY B7 B8 B9 k z o) (hb : BS w0 W' lab' Hb es' X' Y i1 i2) (mv : Mv lab W lab' W') (e1 : X'.rb = X.rb) (e2 : X'.db = X.db) (hk : es'.length ≤ k') (hz : X'.A.length ≤ z') (hzz : z ≤ z') : Rd2 w0 W' lab' Hb es' X' Y X0 i1 i2 bX bY B7 B8 B9 k' z' o := by
  have u : ∀ {b : Nat}, b < W.heap.size → lab b = .user 0 → lab' b = .user 0 := fun hb e => (mv.same _ hb).trans e
  refine ⟨hb, ⟨hk, hz, Nat.le_trans h.few.2.2 hzz⟩, mv.pair h.pX h.lX.1, mv.pair h.pY h.lY.1, (mv.pair h.p8 h.l8.1).congr e1 e2, mv.pair h.p9 h.l9.1, ?_, ⟨u h.pX.cell.2.2 h.lX.1, h.lX.2⟩, ⟨u h.pY.cell.2.2 h.lY.1, h.lY.2⟩, ⟨u (Array.getElem?_eq_some_iff.1 h.o7).1 h.l7.1, h.l7.2⟩, ⟨u h.p8.cell.2.2 h.l8.1, h.l8.2⟩, ⟨u h.p9.cell.2.2 h.l9.1, h.l9.2⟩, h.ne⟩
  exact (mv.kept.block B7 (Array.getElem?_eq_some_iff.1 h.o7).1 (fun e => e h.l7.1)).trans h.o7
theorem Rd2.later (h : Rd2 w0 W lab Hb es X Y X0 i1 i2 bX bY B7 B8 B9 k z o) (hb : Below W.heap.size W W') : Rd2 w0 W' lab Hb es X Y X0 i1 i2 bX bY B7 B8 B9 k z o := h.step (h.bs.later hb) (Mv.later hb) rfl rfl h.few.1 h.few.2.1 (Nat.le_refl _)
theorem Rd2.weak (h : Rd2 w0 W lab Hb es X Y X0 i1 i2 bX bY B7 B8 B9 k z o) (hk : k ≤ k') (hz : z ≤ z') : Rd2 w0 W lab Hb es X Y X0 i1 i2 bX bY B7 B8 B9 k' z' o := h.step h.bs (Mv.refl _ _) rfl rfl (Nat.le_trans h.few.1 hk) (Nat.le_trans h.few.2.1 hz) hz
def pairA (p : Pq) : Array Value := #[.pointer (some ⟨p.rb, 0, none⟩), .pointer (some ⟨p.db, 0, none⟩)]
theorem pair_set {b : Nat} (h : PairB W b X0) : PairB (W.setRow b (pairA X)) b X ∧ Kept (fun j => j = b) W (W.setRow b (pairA X)) := ⟨setRow_heap _ _ _ _ _ _ h, keptRow _ _ _⟩
/-- The pair is laid back. -/
theorem Rd2.back (h : Rd2 w0 W lab Hb es X Y X0 i1 i2 bX bY B7 B8 B9 k z o) : Bx2 w0 (W.setRow bX (pairA X)) lab Hb es X Y i1 i2 bX bY k z := by
  obtain ⟨p1, k1⟩ := pair_set (X := X) h.pX
  exact ⟨h.bs.nobody k1 (fun j e _ => by subst e; exact ⟨h.lX.2, h.lX.1⟩), h.few, p1, h.pY.kept k1 (fun e => h.ne.1 e.symm), h.lX, h.lY, h.ne.1⟩
/-- The clone of the second pair is the first one now. -/
theorem Rd2.cloned (h : Rd2 w0 W lab Hb es X Y X0 i1 i2 bX bY B7 B8 B9 k z o) (hX : X'.Ok w0 W') (hb : Below W.heap.size W W') (hn : ∀ j, X'.mine j → W.heap.size ≤ j) (hA : X'.A = Y.A) :
    ∃ lab', Rd2 w0 (W'.setRow B8 (pairA X')) lab' Hb es X' Y X0 i1 i2 bX bY B7 B8 B9 k z o := by
  obtain ⟨lab', bs, mv⟩ := h.bs.swap.clone X' hX hb hn
  have p8 : PairB W' B8 X := mv.pair h.p8 h.l8.1
  obtain ⟨q8, k8⟩ := pair_set (X := X') p8
  have u : ∀ {b : Nat}, b < W.heap.size → lab b = .user 0 → lab' b = .user 0 := fun hb e => (mv.same _ hb).trans e
  have l8 := u h.p8.cell.2.2 h.l8.1
  refine ⟨lab', bs.swap.nobody k8 (fun j e _ => by subst e; exact ⟨h.l8.2, l8⟩), ⟨h.few.1, by rw [hA]; exact h.few.2.2, h.few.2.2⟩, (mv.pair h.pX h.lX.1).kept k8 (fun e => h.ne.2.1 e.symm), (mv.pair h.pY h.lY.1).kept k8 (fun e => h.ne.2.2.1 e.symm), q8, (mv.pair h.p9 h.l9.1).kept k8 (fun e => h.ne.2.2.2.1 e.symm), ?_, ⟨u h.pX.cell.2.2 h.lX.1, h.lX.2⟩, ⟨u h.pY.cell.2.2 h.lY.1, h.lY.2⟩, ⟨u (Array.getElem?_eq_some_iff.1 h.o7).1 h.l7.1, h.l7.2⟩, ⟨l8, h.l8.2⟩, ⟨u h.p9.cell.2.2 h.l9.1, h.l9.2⟩, h.ne⟩
  have l7 := (Array.getElem?_eq_some_iff.1 h.o7).1
  exact (k8.block B7 (Nat.lt_of_lt_of_le l7 hb.size) (fun e => h.ne.2.2.2.2 e.symm)).trans ((hb.block B7 l7).trans h.o7)
end
/-- A step begins: its boxes are made. -/
theorem Bx2.begin {w0 W W2 : World} {lab : Nat → Tag} {Hb : Nat} {es : List Ent} {X Y : Pq} {i1 i2 bX bY B7 B8 B9 k z : Nat} {o : Array Value} (h : Bx2 w0 W lab Hb es X Y i1 i2 bX bY k z) (hb : Below W.heap.size W W2) (o7 : W2.heap[B7]? = some (.cells o 36 (0, 0))) (p8 : PairB W2 B8 X) (p9 : PairB W2 B9 Y) (h7 : W.heap.size ≤ B7) (h8 : B7 < B8) (h9 : B8 < B9) :
    ∃ lab', Rd2 w0 W2 lab' Hb es X Y X i1 i2 bX bY B7 B8 B9 k z o := by
  obtain ⟨lab', bs, mv, fr⟩ := h.bs.fresh hb
  have hz := h.bs.bel.size
  have c1 := h.pX.cell.2.2
  have c2 := h.pY.cell.2.2
  exact ⟨lab', bs, h.few, h.pX.below hb, h.pY.below hb, p8, p9, o7, ⟨(mv.same _ c1).trans h.lX.1, h.lX.2⟩, ⟨(mv.same _ c2).trans h.lY.1, h.lY.2⟩, ⟨fr _ h7, by omega⟩, ⟨fr _ (by omega), by omega⟩, ⟨fr _ (by omega), by omega⟩, h.ne, by omega, by omega, by omega, by omega⟩
theorem H_skip8 {P : Program} {ops : Array Oper} {Q : Exit → Act → World → Prop} {md : Region.Mode} {S : World → Prop} {i : Nat} {o : Oper} {fuel : Nat} {listed : Array Bool} {a : Act} {w w' : World} (hi : ops[i]? = some o) (hd : o.dst = none) (hr : Region.ready md ops listed = [i])
    (hg : Region.wanted o (yielded ops a.tmps) = true) (hx : (execOp a.eval o).run P w = .ok .skip w') (hS : S w')
    (h : wpAnyH P md ops Q S fuel (listed.setIfInBounds i true) a w') : wpAnyH P md ops Q S (fuel + 1) listed a w := by
  refine wpAnyH_all hr (by simp) (fun j hj => ?_)
  obtain rfl : j = i := by simpa using hj
  unfold wpOp
  simp only [hi, hg, if_true, Oper.wp, hx, Oper.upon, hd, Act.put]
  exact .inl ⟨hS, h⟩
theorem run_storeRow8 {P : Program} {o : Oper} {a : Act} {w : World} {ty : TypeId} {x y : Operand} (ho : o.op = .store ty x y) (g : Nat) (cells : Array Value) (hx : a.eval x = .pointer (some ⟨g, 0, none⟩)) (hy : a.eval y = .agg cells)
    (t : TypeId) (old : Array Value) (hg : w.heap[g]? = some (.cells old t (0, 0))) (hi : (P.info? ty).map (·.size) = some cells.size) (hold : old.size = cells.size) (h1 : cells.all (·.oneCell') = true) : (execOp a.eval o).run P w = .ok .skip (w.setRow g cells) := by
  unfold execOp
  simp only [ho, hx, hy, Instr.storeAt, Instr.sureAddr, Sem.run_bind, Sem.run_pure, Result.andThen_ok, run_storeVar_row w g t ty old cells hg hi hold h1]
/-- A pair's clone. -/
theorem Pq.Ok.cloned {w0 w x1 x2 : World} {p : Pq} (h : p.Ok w0 w) (hz : w0.heap.size ≤ w.heap.size) {v1 : Value} (b1 : Below w.heap.size w x1) (r1 : RdAt x1 w.heap.size v1 p.A p.g) (n1 : ∀ k, Mine w.heap.size v1 k → w.heap.size ≤ k)
    {xb : Nat} {vl vn vb : Value} {P2 : List PO} (b2 : Below x1.heap.size x1 x2) (c2 : RcAt x2 xb vl vn vb P2 p.d) (n2 : ∀ j, MineD xb vl vn vb P2 j → x1.heap.size ≤ j) :
    (⟨w.heap.size, v1, p.A, p.g, xb, vl, vn, vb, P2, p.d⟩ : Pq).Ok w0 x2 ∧ ∀ j, (⟨w.heap.size, v1, p.A, p.g, xb, vl, vn, vb, P2, p.d⟩ : Pq).mine j → w.heap.size ≤ j := by
  have hs := b1.size
  have low : ∀ j, (⟨w.heap.size, v1, p.A, p.g, xb, vl, vn, vb, P2, p.d⟩ : Pq).mine j → w.heap.size ≤ j := by
    rintro j (e | e)
    · exact n1 j e
    · have := n2 j e
      omega
  refine ⟨⟨r1.below b2, c2, h.rel, fun k e e2 => ?_, fun k e => Nat.le_trans hz (low k e), h.sz⟩, low⟩
  have := n2 k e2
  have := r1.lt e
  omega
/-- A new pair. -/
def pq0 (rb db : Nat) : Pq := ⟨rb, .slice none 0 0, [], 0, db, .slice none 0 0, .slice none 0 0, .slice none 0 0, [], dc0⟩
theorem Pq.new {w0 w1 w2 w3 : World} (B1 : Below w0.heap.size w0 w1) (r : RdAt w2 w1.heap.size (.slice none 0 0) [] 0) (_b2 : Below w1.heap.size w1 w2) (c : RcAt w3 w2.heap.size (.slice none 0 0) (.slice none 0 0) (.slice none 0 0) [] dc0) (b3 : Below w2.heap.size w2 w3) :
    (pq0 w1.heap.size w2.heap.size).Ok w0 w3 ∧ ∀ j, (pq0 w1.heap.size w2.heap.size).mine j → w1.heap.size ≤ j := by
  have hz1 := B1.size
  have hl := r.lt (.inl rfl)
  have ms : ∀ j, (pq0 w1.heap.size w2.heap.size).mine j → j = w1.heap.size ∨ j = w2.heap.size := by
    rintro j ((e | e) | (e | e | e | e | ⟨p, hp, _⟩))
    · exact .inl e
    · cases e
    · exact .inr e
    · cases e
    · cases e
    · cases e
    · exact absurd hp (List.not_mem_nil)
  refine ⟨⟨r.below b3, c, drel_new, ?_, fun j hj => ?_, ⟨Nat.zero_le _, Nat.zero_le _⟩⟩, fun j hj => ?_⟩
  · rintro k (e | e) (e2 | e2 | e2 | e2 | ⟨p, hp, _⟩)
    · have e : k = w1.heap.size := e
      have e2 : k = w2.heap.size := e2
      omega
    · cases e2
    · cases e2
    · cases e2
    · exact absurd hp (List.not_mem_nil)
    · cases e
    · cases e
    · cases e
    · cases e
    · cases e
  · rcases ms j hj with e | e <;> omega
  · rcases ms j hj with e | e <;> omega
theorem Bx2.start {w0 W : World} {P Q : Pq} {Hb B3 B4 : Nat} (bel : Below w0.heap.size w0 W) (hp : P.Ok w0 W) (hq : Q.Ok w0 W) (lp : ∀ j, P.mine j → j < B3) (lq : ∀ j, Q.mine j → B3 < j ∧ j < B4) (h34 : B3 < B4 ∧ B4 < Hb ∧ w0.heap.size ≤ B3) (hH : W.heap[Hb]? = some (.cells #[.slice none 0 0, .slice none 0 0] 33 (0, 0))) (h3 : PairB W B3 P) (h4 : PairB W B4 Q) (hA : P.A = [] ∧ Q.A = []) : ∃ lab, Bx2 w0 W lab Hb [] P Q 1 2 B3 B4 0 0 := by
  classical
  obtain ⟨lab, hl⟩ : ∃ lab : Nat → Tag, lab = fun j => if j = Hb then .box else if P.mine j then .user 1 else if Q.mine j then .user 2 else .user 0 := ⟨_, rfl⟩
  have e0 : lab Hb = .box := by rw [hl]; simp
  have e1 : ∀ j, P.mine j → lab j = .user 1 := fun j hj => by have := lp j hj; rw [hl]; simp only []; rw [if_neg (by omega), if_pos hj]
  have e2 : ∀ j, Q.mine j → lab j = .user 2 := fun j hj => by have := lq j hj; rw [hl]; simp only []; rw [if_neg (by omega), if_neg (fun h => by have := lp j h; omega), if_pos hj]
  have e3 : ∀ j, j ≠ Hb → ¬ P.mine j → ¬ Q.mine j → lab j = .user 0 := fun j h1 h2 h3 => by rw [hl]; simp only []; rw [if_neg h1, if_neg h2, if_neg h3]
  have nt : ∀ t, Tagged lab (.slice none 0 0) t := fun _ g h => by cases h
  exact ⟨lab, ⟨bel, ⟨.slice none 0 0, .slice none 0 0, ⟨hH, e0, by omega, ⟨World.ownsRow_nil _ _ _ _, nt _⟩, ⟨World.ownsRow_nil _ _ _ _, nt _⟩⟩, fun j e he => by simp at he⟩, fun j e he => by simp at he, fun j hj => e3 j (by omega) (fun h => by have := hp.low j h; omega) (fun h => by have := hq.low j h; omega), hp, e1, hq, e2, by decide⟩, ⟨by simp, by rw [hA.1]; simp, by rw [hA.2]; simp⟩, h3, h4, ⟨e3 B3 (by omega) (fun h => by have := lp B3 h; omega) (fun h => by have := lq B3 h; omega), h34.2.2⟩, ⟨e3 B4 (by omega) (fun h => by have := lp B4 h; omega) (fun h => by have := lq B4 h; omega), by omega⟩, by omega⟩
end Go.Proofs.YtomgnailgddchaaDoor
