/-
  What the walk of Add goes by.
-/
import Derived.Test.YtonfdmbcbfpgdaaYBody
import Derived.Test.YtonfdmbcbfpgdaaDraw
namespace Go.Proofs.Ytonfdmbcbfpgdaa
open Go.RowKit
theorem Own.wide {w : World} {B B' : Nat} {v : Value} {l : List UInt8} (h : Own w B v l) (hB : B' ≤ B) : Own w B' v l := by
  refine ⟨h.1, ?_⟩
  rcases h.2 with h0 | ⟨g, cap, cur, hv, hg, rest⟩
  · exact .inl h0
  · exact .inr ⟨g, cap, cur, hv, Nat.le_trans hB hg, rest⟩
theorem D_value {P : Program} {ops : Array Oper} {Q : Exit → Act → World → Prop} {i : Nat} {o : Oper} {a : Act} {w w' : World} {v : Value} {K : Act → World → Prop} (d : Option Tmp) (hi : ops[i]? = some o) (hd : o.dst = d) (hg : Region.wanted o (yielded ops a.tmps) = true) (hr : (execOp a.eval o).run P w = .ok (.value v) w') (h : K (a.put d v) w') : wpOp P ops Q i K a w := by
  subst hd
  exact op_value hi hg hr h
def addE (L : List En) (j : Jb) (bl : Nat) : Int := if (lookE L j.id).isSome = true ∨ j.id < 1 ∨ 1099511627776 < j.id then 150 else if stB j.st = false then 151 else if fitB j bl = false then 152 else 0
theorem run_storeS {o : Oper} {a : Act} {w : World} {x y : Operand} {b i : Nat} {s : ByteArray} {u : Value} (ho : o.op = .store 9 x y) (hx : a.eval x = .pointer (some ⟨b, i, none⟩)) (hy : a.eval y = .string s) (hc : w.cell? ⟨b, i, none⟩ = some u) (hf : w.frozen? ⟨b, i, none⟩ = false) :
    (execOp a.eval o).run Try.prog w = .ok .skip (w.setCell ⟨b, i, none⟩ (.string s)) := by
  simp only [execOp, ho, hx, hy]
  go_simp
theorem run_storeB {o : Oper} {a : Act} {w : World} {x y : Operand} {b i : Nat} {ad : Option Addr} {n c : Nat} {u : Value} (ho : o.op = .store 39 x y) (hx : a.eval x = .pointer (some ⟨b, i, none⟩)) (hy : a.eval y = .slice ad n c) (hc : w.cell? ⟨b, i, none⟩ = some u) (hf : w.frozen? ⟨b, i, none⟩ = false) :
    (execOp a.eval o).run Try.prog w = .ok .skip (w.setCell ⟨b, i, none⟩ (.slice ad n c)) := by
  simp only [execOp, ho, hx, hy]
  go_simp
theorem JobBox.setTube {w : World} {b : Nat} {j : Jb} {bv : Value} (h : JobBox w b j bv) : JobBox (w.setCell ⟨b, 14, none⟩ (.string j.nm)) b j bv := by
  have := (set_cells (show w.heap[b]? = _ from h) 14 (.string j.nm)).1
  unfold JobBox
  rw [this]
  rfl
theorem JobBox.setBody {w : World} {b : Nat} {j : Jb} {bv : Value} (h : JobBox w b j bv) (v : Value) : JobBox (w.setCell ⟨b, 15, none⟩ v) b j v := by
  have := (set_cells (show w.heap[b]? = _ from h) 15 v).1
  unfold JobBox
  rw [this]
  rfl
theorem JobBox.frozen {w : World} {b : Nat} {j : Jb} {bv : Value} (h : JobBox w b j bv) (k : Nat) : w.frozen? ⟨b, k, none⟩ = false := (job_cells (show w.heap[b]? = _ from h)).2 k
/-- The yard and a job's box, the body told beside them. -/
structure Sq (w : World) (lab : Nat → HK) (yb jb : Nat) (j : Jb) (bv : Value) (wx : World) (labx : Nat → HK) (Y : Yd) : Prop where
  yard : YAt wx labx yb Y
  job : JobBox wx jb j bv
  labs : ∀ k, k < w.heap.size → labx k = lab k
  mine : labx jb = uT
  old : w.heap.size ≤ jb
  kept : Kept (fun _ => False) w wx
theorem Sq.later {w : World} {lab : Nat → HK} {yb jb : Nat} {j : Jb} {bv : Value} {wx w' : World} {labx : Nat → HK} {Y : Yd} (h : Sq w lab yb jb j bv wx labx Y) (hb : Below wx.heap.size wx w') (T : HK) : Sq w lab yb jb j bv w' (fun k => if k < wx.heap.size then labx k else T) Y :=
  ⟨h.yard.below hb (fun _ hk => if_pos hk), h.job.later hb, fun k hk => (if_pos (Nat.lt_of_lt_of_le hk h.kept.size)).trans (h.labs k hk), (if_pos h.job.lt).trans h.mine, h.old, h.kept.trans (Kept.ofBelow hb)⟩
theorem Sq.begin {w : World} {lab : Nat → HK} {yb : Nat} {Y : Yd} (h : YAt w lab yb Y) (j : Jb) (bv : Value) : Sq w lab yb w.heap.size j bv (w.alloc (.cells (j.cells bv) 41)) (fun k => if k < w.heap.size then lab k else uT) Y := by
  have b1 : Below w.heap.size w (w.alloc (.cells (j.cells bv) 41)) := (Below.refl _ w).alloc (Nat.le_refl _) _
  exact ⟨h.below b1 (fun _ hk => if_pos hk), JobBox.new w j bv, fun _ hk => if_pos hk, if_neg (Nat.lt_irrefl _), Nat.le_refl _, Kept.ofBelow b1⟩
/-- The body is stored. -/
theorem Sq.body {w : World} {lab : Nat → HK} {yb jb : Nat} {j : Jb} {bv : Value} {wx w4 : World} {labx : Nat → HK} {Y : Yd} (h : Sq w lab yb jb j bv wx labx Y) {v : Value} {l : List UInt8} (b4 : Below wx.heap.size wx w4) (ho : Own w4 wx.heap.size v l) :
    Sq w lab yb jb j v ((w4.setCell ⟨jb, 14, none⟩ (.string j.nm)).setCell ⟨jb, 15, none⟩ v) (fun k => if k < wx.heap.size then labx k else (8, eB, 0)) Y ∧ BodyAt ((w4.setCell ⟨jb, 14, none⟩ (.string j.nm)).setCell ⟨jb, 15, none⟩ v) (fun k => if k < wx.heap.size then labx k else (8, eB, 0)) v l := by
  have h4 := h.later b4 (8, eB, 0)
  have kp : Kept (fun k => k = jb) w4 ((w4.setCell ⟨jb, 14, none⟩ (.string j.nm)).setCell ⟨jb, 15, none⟩ v) := (Kept.setCell (fun k => k = jb) w4 jb 14 _ rfl).trans (Kept.setCell (fun k => k = jb) _ jb 15 _ rfl)
  have jlt := h.job.lt
  have hm : (if jb < wx.heap.size then labx jb else ((8, eB, 0) : HK)) = uT := (if_pos jlt).trans h.mine
  refine ⟨⟨h4.yard.kept kp (fun b _ e => by rw [show b = jb from e, hm]; decide) (fun _ _ => rfl), h4.job.setTube.setBody v, h4.labs, hm, h.old, h4.kept.step kp (fun k hk e => by have e : k = jb := e; have := h.old; omega)⟩, ?_⟩
  refine (ho.body (fun k => if k < wx.heap.size then labx k else (8, eB, 0)) (fun k hk => by rw [if_neg (by omega)])).kept kp (fun b _ e8 e => by
    have e : b = jb := e
    rw [e, hm] at e8
    exact absurd e8 (by decide)) (fun _ _ => rfl)
theorem Sq.st {w : World} {lab : Nat → HK} {yb jb : Nat} {j : Jb} {bv : Value} {wx : World} {labx : Nat → HK} {Y : Yd} (h : Sq w lab yb jb j bv wx labx Y) : ∀ k, k < w.heap.size → wx.heap[k]? = w.heap[k]? := fun k hk => h.kept.block k hk (fun h => h)
/-- What Add leaves. -/
def Added (w : World) (lab : Nat → HK) (yb : Nat) (Y : Yd) (j : Jb) (l : List UInt8) (w' : World) : Prop :=
  (addE Y.L j l.length = 0 → ∃ bv w5 lab5, YAt w5 lab5 yb Y ∧ BodyAt w5 lab5 bv l ∧ (∀ k, k < w.heap.size → lab5 k = lab k) ∧ Kept (fun _ => False) w w5 ∧ Laid w5 lab5 yb Y j bv l w') ∧ (addE Y.L j l.length ≠ 0 → ∃ lab', YAt w' lab' yb Y ∧ (∀ k, k < w.heap.size → lab' k = lab k) ∧ Kept (fun _ => False) w w')
theorem zero_cells : en0.cells = #[.int .i64 0, .int .i64 0, .int .i64 0, .int .i64 0, .int .i64 0, .int .i64 0, .int .i64 0, .int .i64 0, .int .i64 0, .int .i64 0, .int .i64 0, .int .i64 0, .int .i64 0, .int .i64 0, .string ⟨#[]⟩, .slice none 0 0, .int .i64 0, .int .i64 0] := rfl
theorem run_allocE {o : Oper} {a : Act} {w : World} (ho : o.op = .alloc 71) : (execOp a.eval o).run Try.prog w = .ok (.value (.pointer (some ⟨w.heap.size, 0, none⟩))) (w.alloc (.cells en0.cells 71)) := by
  simp only [execOp, ho]
  simp [Instr.alloc, Result.andThen, newVar, newRow, newObj]
  rfl
theorem run_storeE {o : Oper} {a : Act} {w : World} {x y : Operand} {cs cs0 : Array Value} (ho : o.op = .store 71 x y) (hx : a.eval x = .pointer (some ⟨w.heap.size, 0, none⟩)) (hy : a.eval y = .agg cs) (hs : cs.size = 18) (hs0 : cs0.size = 18) (h1 : cs.all (·.oneCell') = true) :
    (execOp a.eval o).run Try.prog (w.alloc (.cells cs0 71)) = .ok .skip (w.alloc (.cells cs 71)) := by
  have hi : (Try.prog.info? 71).map (·.size) = some cs.size := by rw [hs]; kernel_rfl
  have := run_storeVar_new (P := Try.prog) w 71 cs0 cs hi (by omega) h1
  simp only [execOp, ho, hx, hy]
  simp only [Instr.storeAt, Instr.sureAddr, Sem.run_bind, Sem.run_pure, Result.andThen_ok, this]
theorem ent_cells_size (e : En) : e.cells.size = 18 := rfl
end Go.Proofs.Ytonfdmbcbfpgdaa
