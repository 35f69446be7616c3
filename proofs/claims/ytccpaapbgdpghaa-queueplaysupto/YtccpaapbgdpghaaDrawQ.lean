/-
  Regions that load a cell and store into it, by hand.
-/
import Derived.Test.YtccpaapbgdpghaaDrawD
import Derived.Test.YtccpaapbgdpghaaHandS
import Derived.Test.YtccpaapbgdpghaaDeskQ
import Derived.Great.BuildSlice
namespace Go.Proofs.Ytccpaapbgdpghaa
open Go.RowKit

theorem D_value {P : Program} {ops : Array Oper} {Q : Exit → Act → World → Prop} {i : Nat} {o : Oper} {a : Act} {w w' : World} {v : Value} {K : Act → World → Prop} (d : Option Tmp) (hi : ops[i]? = some o) (hd : o.dst = d) (hg : Region.wanted o (yielded ops a.tmps) = true) (hr : (execOp a.eval o).run P w = .ok (.value v) w') (h : K (a.put d v) w') : wpOp P ops Q i K a w := by
  subst hd
  exact op_value hi hg hr h
theorem fq_not_nil_in (w : World) (d : Nat) (f : FuncId) (caps : Array Value) : (Op.equalIn (d + 1) 42 (.func (.func f) #[] caps) .nilFunc).run Try.prog w = .ok false w := by
  simp [Op.equalIn, run_underlying Try.underlying42]
theorem fq_not_nil (w : World) (f : FuncId) (caps : Array Value) : (binOp .eql 42 (.func (.func f) #[] caps) .nilFunc).run Try.prog w = .ok (.bool false) w := by
  simp only [binOp]
  simp [show Op.equal 42 (.func (.func f) #[] caps) .nilFunc = Op.equalIn (9999 + 1) 42 (.func (.func f) #[] caps) .nilFunc from rfl, fq_not_nil_in w 9999 f caps]
theorem info_pairQ : (Try.prog.info? 36).map (fun i => (i.zero, i.size, i.bytes)) = some (some (.agg #[.pointer none, .pointer none]), 2, 16) := by kernel_rfl
theorem info_keptQ : (Try.prog.info? 92).map (fun i => (i.zero, i.size, i.bytes)) = some (some (.agg #[.nilFunc, .pointer none]), 2, 16) := by kernel_rfl
/-- A slice of one thing of two cells is made. -/
theorem run_made {o : Oper} {a : Act} {w : World} {t ty : TypeId} {z : Value} {u : Operand} (ho : o.op = .buildSlice t 1 #[(0, u)]) (hu : Try.prog.underlying t = some (.slice ty)) (hi : (Try.prog.info? ty).map (fun i => (i.zero, i.size, i.bytes)) = some (some z, 2, 16)) (cells : Array Value) (x : Value) (hx : a.eval u = x)
    (hf : Instr.fill (fun i => some (i * 2, 2)) ((Array.range (1 * 2)).map (z.cells[· % z.cells.size]!)) [(0, x)] = some cells) : (execOp a.eval o).run Try.prog w = .ok (.value (.slice (some ⟨w.heap.size, 0, none⟩) 1 1)) (w.alloc (.cells cells ty)) := by
  obtain ⟨i0, h0, h1, h2, h3⟩ := info_parts hi
  have := run_buildSlice (P := Try.prog) w t ty 1 #[(0, x)] cells i0 z hu h0 h1 (by rw [h2]; decide) (by rw [h2]; decide) (by rw [h2]; exact hf)
  unfold execOp
  simp only [ho, Sem.run_bind, Sem.run_pure, Result.andThen_ok, List.map_toArray, List.map_cons, List.map_nil, hx, this]
/-- .. and appended. -/
theorem D_push {w : World} {ops : Array Oper} {i : Nat} {o : Oper} {a : Act} {K : Act → World → Prop} {Q : Exit → Act → World → Prop} (d : Option Tmp) (hi : ops[i]? = some o) (hd : o.dst = d) (hg : Region.wanted o (yielded ops a.tmps) = true) (s x : Operand) (t ty : TypeId) (z : Value)
    (ho : o.op = .call { callee := .builtin .append, args := #[s, x], argTypes := #[t, t] }) (hu : Try.prog.underlying t = some (.slice ty)) (hinfo : (Try.prog.info? ty).map (fun i => (i.zero, i.size, i.bytes)) = some (some z, 2, 16)) (hzs : z.cells.size = 2)
    (B : Nat) (v : Value) (xs : List (Value × Value)) (hs : a.eval s = v) (hown : RowO w B ty v xs) (y : Value × Value) (f : Nat) (hx : a.eval x = .slice (some ⟨f, 0, none⟩) 1 1) (hf : w.heap[f]? = some (.cells #[y.1, y.2] ty (0, 0))) (h1 : y.1.oneCell' = true) (h2 : y.2.oneCell' = true)
    (hl : xs.length ≤ 1000) (hbase : B ≤ w.heap.size)
    (h : ∀ v' w', RowO w' B ty v' (xs ++ [y]) → Kept (fun k => v.ownBlock = some k) w w' → K (a.put d v') w') : wpOp Try.prog ops Q i K a w := by
  subst hd
  obtain ⟨i0, hi0, hz0, hz1, hz2⟩ := info_parts hinfo
  obtain ⟨v', w', hr, h3, h4⟩ := hown.push (P := Try.prog) t o.type i0 z hu hi0 hz0 hz1 hzs (by rw [hz2]; decide) y f hf h1 h2 hbase hl
  refine op_value (v := v') (w' := w') hi hg ?_ (h v' w' h3 h4)
  unfold execOp
  simp only [ho, resolve, invoke, builtin, Sem.run_bind, Sem.run_pure, Result.andThen_ok, List.map_toArray, List.map_cons, List.map_nil, hs, hx, hr]
/-- A thing is stored into the midst of a row. -/
theorem run_storeMid {P : Program} {o : Oper} {a : Act} {w : World} {ty : TypeId} {x y : Operand} {b k : Nat} {cells : Array Value} (ho : o.op = .store ty x y) (hx : a.eval x = .pointer (some ⟨b, k, none⟩)) (hy : a.eval y = .agg cells) (ht : w.there b k cells.size) (hi : (P.info? ty).map (·.size) = some cells.size) (h1 : cells.all (·.oneCell') = true) :
    (execOp a.eval o).run P w = .ok .skip (w.setCells b k cells.toList) := by
  unfold execOp
  simp only [ho, hx, hy, Sem.run_bind, Sem.run_pure, Result.andThen_ok, run_storeAt_mid w b k ty cells ht hi h1]
/-- A thing is loaded out of the midst of a row. -/
theorem run_loadMid {P : Program} {o : Oper} {a : Act} {w : World} {ty : TypeId} {x : Operand} {b k : Nat} {cs : List Value} {d : TypeDesc} (ho : o.op = .load ty x) (hx : a.eval x = .pointer (some ⟨b, k, none⟩)) (hc : w.rangeAt b k cs) (hu : P.underlying ty = some d) (hd : d.isRow = true) (hi : (P.info? ty).map (·.size) = some cs.length) :
    (execOp a.eval o).run P w = .ok (.value (.agg cs.toArray)) w := by
  unfold execOp
  simp only [ho, hx, Instr.loadAt, Instr.sureAddr, Sem.run_bind, Sem.run_pure, Result.andThen_ok, run_loadVar_mid w b k ty cs d hc hu hd hi]
theorem setRow_newQ (w : World) (c0 c : Array Value) (t : TypeId) : Below w.heap.size w ((w.alloc (.cells c0 t)).setRow w.heap.size c) ∧ ((w.alloc (.cells c0 t)).setRow w.heap.size c).heap[w.heap.size]? = some (.cells c t (0, 0)) := by
  have h0 := heap_alloc_new w (.cells c0 t)
  have b0 : Below w.heap.size w (w.alloc (.cells c0 t)) := (Below.refl _ w).alloc (Nat.le_refl _) _
  refine ⟨⟨rfl, rfl, rfl, by simp [World.setRow], fun k hk => ?_⟩, setRow_heap (w.alloc (.cells c0 t)) w.heap.size c0 c t _ h0⟩
  exact (setRow_other (w.alloc (.cells c0 t)) w.heap.size k c (by omega)).trans (b0.block k hk)
theorem run_allocP {o : Oper} {a : Act} {w : World} (ho : o.op = .alloc 36) : (execOp a.eval o).run Try.prog w = .ok (.value (.pointer (some ⟨w.heap.size, 0, none⟩))) (w.alloc (.cells #[.pointer none, .pointer none] 36)) := by
  simp only [execOp, ho]
  simp [Instr.alloc, Result.andThen, newVar, newRow, newObj]
  rfl
theorem run_allocK {o : Oper} {a : Act} {w : World} (ho : o.op = .alloc 92) : (execOp a.eval o).run Try.prog w = .ok (.value (.pointer (some ⟨w.heap.size, 0, none⟩))) (w.alloc (.cells #[.nilFunc, .pointer none] 92)) := by
  simp only [execOp, ho]
  simp [Instr.alloc, Result.andThen, newVar, newRow, newObj]
  rfl
/-- A slice is stored into a cell. -/
theorem run_storeP {o : Oper} {a : Act} {w : World} {x y : Operand} {b i : Nat} {ad : Option Addr} {n c : Nat} {u : Value} (ho : o.op = .store 25 x y) (hx : a.eval x = .pointer (some ⟨b, i, none⟩)) (hy : a.eval y = .slice ad n c) (hc : w.cell? ⟨b, i, none⟩ = some u) (hf : w.frozen? ⟨b, i, none⟩ = false) :
    (execOp a.eval o).run Try.prog w = .ok .skip (w.setCell ⟨b, i, none⟩ (.slice ad n c)) := by
  simp only [execOp, ho, hx, hy]
  go_simp
theorem run_storeK {o : Oper} {a : Act} {w : World} {x y : Operand} {b i : Nat} {ad : Option Addr} {n c : Nat} {u : Value} (ho : o.op = .store 26 x y) (hx : a.eval x = .pointer (some ⟨b, i, none⟩)) (hy : a.eval y = .slice ad n c) (hc : w.cell? ⟨b, i, none⟩ = some u) (hf : w.frozen? ⟨b, i, none⟩ = false) :
    (execOp a.eval o).run Try.prog w = .ok .skip (w.setCell ⟨b, i, none⟩ (.slice ad n c)) := by
  simp only [execOp, ho, hx, hy]
  go_simp
end Go.Proofs.Ytccpaapbgdpghaa
