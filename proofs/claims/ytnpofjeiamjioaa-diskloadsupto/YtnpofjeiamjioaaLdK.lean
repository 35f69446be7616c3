/-
  What DiskLoads has while it goes on: a disk of both, the book, the box of the pair.
-/
import Derived.Test.YtnpofjeiamjioaaDkX
import Derived.Test.YtnpofjeiamjioaaFsW
import Derived.Test.YtnpofjeiamjioaaDkC
import Derived.Test.YtnpofjeiamjioaaLod
namespace Go.Proofs.Ytnpofjeiamjioaa
open Go.RowKit Go.Maps

structure Ds (W : World) (B pb db mb rb hb M : Nat) (q : Int) (L : List Fl) (n : Nat) (vs : Int → Value) (fv : Value) (F : List (Fl × Value)) (vo vw : Value) (P : List Ls) (sz : Int) (w : World) : Prop where
  pr : Pr w B db mb q L vs rb fv F
  bk : Bk w B hb vo vw P sz M
  len : P.length = n
  ap : ∀ g, FdB hb vo vw P g → ¬ PM db mb L vs rb fv F g
  box : w.heap[pb]? = some (.cells #[.pointer (some ⟨db, 0, none⟩), .pointer (some ⟨rb, 0, none⟩)] 33 (0, 0))
  np : ¬ PM db mb L vs rb fv F pb
  nf : ¬ FdB hb vo vw P pb
  bw : Below B W w
  hB : B ≤ w.heap.size
section
variable {W w w' : World} {B pb db mb rb hb M n : Nat} {q : Int} {L L' : List Fl} {vs : Int → Value} {fv : Value} {F : List (Fl × Value)} {vo vw : Value} {P : List Ls} {sz : Int}
theorem Bk.kept {K : Nat → Prop} (h : Bk w B hb vo vw P sz M) (hk : Kept K w w') (hK : ∀ g, FdB hb vo vw P g → ¬ K g) : Bk w' B hb vo vw P sz M := ⟨h.fd.kept hk hK, h.ap, h.eq, h.few⟩
theorem Bk.later (h : Bk w B hb vo vw P sz M) (hl : Below w.heap.size w w') : Bk w' B hb vo vw P sz M := h.kept (K := fun _ => False) (Kept.ofBelow hl) (fun _ _ e => e)
theorem Ds.blt (h : Ds W B pb db mb rb hb M q L n vs fv F vo vw P sz w) : pb < w.heap.size := (Array.getElem?_eq_some_iff.1 h.box).1
theorem Ds.cells (h : Ds W B pb db mb rb hb M q L n vs fv F vo vw P sz w) : w.cell? ⟨pb, 0, none⟩ = some (.pointer (some ⟨db, 0, none⟩)) ∧ w.cell? ⟨pb, 1, none⟩ = some (.pointer (some ⟨rb, 0, none⟩)) := by simp [World.cell?, h.box]
theorem Ds.does (h : Ds W B pb db mb rb hb M q L n vs fv F vo vw P sz w) (hp : PrP w B db mb q L vs rb fv F L' w') : ∃ vs' fv' F', Ds W B pb db mb rb hb M q L' n vs' fv' F' vo vw P sz w' := by
  obtain ⟨k, vs', fv', F', pr, hm⟩ := hp
  have hlt := h.blt
  refine ⟨vs', fv', F', pr, h.bk.kept k (fun g e => h.ap g e), h.len, fun g e e2 => ?_, (k.block _ hlt h.np).trans h.box, fun e => ?_, h.nf, h.bw.trans (k.below h.hB (fun j hj e => by have := h.pr.ge j e; omega)), Nat.le_trans h.hB k.size⟩
  · rcases hm g e2 with e3 | e3
    · exact h.ap g e e3
    · have := h.bk.fd.blt e; omega
  · rcases hm _ e with e3 | e3
    · exact h.np e3
    · omega
theorem Ds.looks (h : Ds W B pb db mb rb hb M q L n vs fv F vo vw P sz w) (hp : LooksP w B db mb q L vs rb fv F hb vo vw P M w') : ∃ vo' vw' sz' P', Ds W B pb db mb rb hb M q L (n + 2) vs fv F vo' vw' P' sz' w' := by
  obtain ⟨k, pr, vo', vw', sz', P', bk, hl, hm⟩ := hp
  have hlt := h.blt
  refine ⟨vo', vw', sz', P', pr, bk, by rw [hl, h.len], fun g e e2 => ?_, (k.block _ hlt h.nf).trans h.box, h.np, fun e => ?_, h.bw.trans (k.below h.hB (fun j hj e => by have := h.bk.fd.bge e; omega)), Nat.le_trans h.hB k.size⟩
  · rcases hm g e with e3 | e3
    · exact h.ap g e3 e2
    · have := h.pr.blt e2; omega
  · rcases hm _ e with e3 | e3
    · exact h.nf e3
    · omega
theorem Ds.drew (h : Ds W B pb db mb rb hb M q L n vs fv F vo vw P sz w) : Ds W B pb db mb rb hb M q L n vs fv F vo vw P sz w.drew :=
  ⟨h.pr.later (Below.refl _ w).drew, h.bk.later (Below.refl _ w).drew, h.len, h.ap, h.box, h.np, h.nf, h.bw.drew, h.hB⟩
/-- A load of a struct that lies within a row. -/
theorem run_loadM {P : Program} {o : Oper} {a : Act} {w : World} {ty : TypeId} {x : Operand} {b ofs : Nat} {cs : List Value} {d : TypeDesc} (ho : o.op = .load ty x) (hx : a.eval x = .pointer (some ⟨b, ofs, none⟩)) (hc : w.rangeAt b ofs cs)
    (hu : P.underlying ty = some d) (hd : d.isRow = true) (hi : (P.info? ty).map (·.size) = some cs.length) : (execOp a.eval o).run P w = .ok (.value (.agg cs.toArray)) w := by
  unfold execOp
  simp only [ho, hx, Instr.loadAt, Instr.sureAddr, Sem.run_bind, Sem.run_pure, Result.andThen_ok, run_loadVar_mid w b ofs ty cs d hc hu hd hi]
theorem odb_few : ∀ (P : List Ls) (M : Nat), (∀ x ∈ P, x.l.length ≤ M) → (odb (skL P)).length ≤ P.length * M
  | [], M, _ => by simp [odb, skL]
  | x :: P, M, h => by
    have ih := odb_few P M (fun y hy => h y (List.mem_cons_of_mem _ hy))
    have hx := h x List.mem_cons_self
    have e : (odb (skL (x :: P))).length = x.l.length + (odb (skL P)).length := by simp [odb, skL, Ls.k]
    rw [e, List.length_cons, Nat.succ_mul]
    omega
theorem Ds.fews (h : Ds W B pb db mb rb hb 2097152 q L n vs fv F vo vw P sz w) (hn : n ≤ 8) : (odb (skL P)).length ≤ 16777216 := by
  have h1 := odb_few P 2097152 (fun x hx => (h.bk.few x hx).1)
  have h2 : P.length * 2097152 ≤ 8 * 2097152 := Nat.mul_le_mul_right _ (by rw [h.len]; exact hn)
  omega
theorem bk_nil {ob : Nat} (hb : w.heap[ob]? = some (.cells #[.slice none 0 0, .slice none 0 0, .int .i64 0] 36 (0, 0))) (hB : B ≤ ob) (M : Nat) : Bk w B ob (.slice none 0 0) (.slice none 0 0) [] 0 M := by
  refine ⟨⟨⟨hb, hB, World.ownsRow_nil _ _ _ _, World.ownsRow_nil _ _ _ _, fun g e => (by cases e)⟩, fun x hx => (by cases hx)⟩, aps_nil, fun x hx => (by cases hx), fun x hx => (by cases hx)⟩
theorem fdb_nil {g : Nat} (h : FdB hb (.slice none 0 0) (.slice none 0 0) [] g) : g = hb := by
  rcases h with e | e | e | ⟨x, hx, _⟩
  · exact e
  · cases e
  · cases e
  · cases hx
end
end Go.Proofs.Ytnpofjeiamjioaa
