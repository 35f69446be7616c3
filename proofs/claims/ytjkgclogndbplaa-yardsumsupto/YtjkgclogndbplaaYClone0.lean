/-
  The walk of Clone of a yard without jobs.
-/
import Derived.Test.YtjkgclogndbplaaYJobsW
import Derived.Test.YtjkgclogndbplaaCloneM
namespace Go.Proofs.Ytjkgclogndbplaa
open Go.RowKit Go.Maps
theorem emap_not_nil_in (w : World) (d b : Nat) : (Op.equalIn (d + 1) 58 (.map (some b)) (.map none)).run Try.prog w = .ok false w := by
  simp [Op.equalIn, run_underlying Try.underlying58]
theorem emap_not_nil (w : World) (b : Nat) : (binOp .eql 58 (.map (some b)) (.map none)).run Try.prog w = .ok (.bool false) w := by
  simp only [binOp]
  simp [show Op.equal 58 (.map (some b)) (.map none) = Op.equalIn (9999 + 1) 58 (.map (some b)) (.map none) from rfl, emap_not_nil_in w 9999 b]
theorem emap_asserted (w : World) (x : TypeId) (v : Value) : (Instr.typeAssert (.iface 58 v) x 58 false).run Try.prog w = .ok v w := by
  simp [Instr.typeAssert, run_underlying Try.underlying58, go_sem, Result.andThen]
set_option maxHeartbeats 2000000 in
set_option maxRecDepth 1000000 in
theorem emapClone (w : World) (b n : Nat) (g : Int → Option Value) (h : VTabI w b n g) :
    Calls Try.prog 39 #[.map (some b)] w fun e w' => ∃ q, e = .returned (.map (some q)) ∧ Below w.heap.size w w' := by
  obtain ⟨es, clock, hb⟩ := h.map
  have hq := fun w => emap_not_nil w b
  have HB : Hid (w.heap[b]? = some (.map es clock)) := hb
  clear hb h
  go_enter Try.func39, Try.ntmps39
  go_wp2_with fail
  rw [run_callFunc_extern Try.func66 (by kernel_rfl) (by kernel_rfl) (by kernel_rfl) (e := Extern.MapsClone.clone) (by kernel_rfl), map_cloned 58 HB.out]
  simp only [Result.andThen]
  rw [Oper.upon_value]
  go_wp2_with fail
  rw [emap_asserted _ 20]
  simp only [Result.andThen]
  rw [Oper.upon_value]
  go_wp2_with fail
  go_ret
  exact ⟨_, rfl, (Below.refl _ w).alloc (Nat.le_refl _) _⟩
theorem range_none {T K E : TypeId} (hT : Try.prog.underlying T = some (.map K E)) {w : World} {m c : Nat} (h : w.heap[m]? = some (.map #[] c)) : (Instr.range T (.map (some m))).run Try.prog w = .ok (.pointer (some ⟨w.heap.size, 0, none⟩)) (w.alloc (.mapIter (some m) c #[] c)) := by
  simp [Instr.range, run_underlying hT, MapKept.run_getObj_map h, Result.andThen, newObj]
  rfl
theorem next_none {ty : TypeId} {w : World} {r m c c' : Nat} (h : w.heap[m]? = some (.map #[] c)) (hr : w.heap[r]? = some (.mapIter (some m) c' #[] c')) : (Instr.next (.pointer (some ⟨r, 0, none⟩)) false ty).run Try.prog w = .ok (.tuple #[.bool false]) w := by
  have hg : (getObj r).run Try.prog w = .ok (.mapIter (some m) c' #[] c') w := by
    unfold getObj
    simp [Sem.run, hr]
  simp [Instr.next, hg, MapKept.run_getObj_map h, Result.andThen, choose, Sem.run, Question.forced]
theorem vtab_emptyS {w : World} {mb : Nat} {g : ByteArray → Option Value} (h : VTabS w mb 0 g) : ∃ c, w.heap[mb]? = some (.map #[] c) := by
  obtain ⟨D, ⟨es, clock, hb, _, hs, _⟩, _⟩ := h
  have : es = #[] := Array.eq_empty_of_size_eq_zero (by omega)
  exact ⟨clock, by rw [hb, this]⟩
theorem vtab_emptyI {w : World} {mb : Nat} {g : Int → Option Value} (h : VTabI w mb 0 g) : ∃ c, w.heap[mb]? = some (.map #[] c) := by
  obtain ⟨D, ⟨es, clock, hb, _, hs, _⟩, _⟩ := h
  have : es = #[] := Array.eq_empty_of_size_eq_zero (by omega)
  exact ⟨clock, by rw [hb, this]⟩
theorem run_len0 {o : Oper} {a : Act} {w : World} {x : Operand} {T K E : TypeId} {m c : Nat} (hT : Try.prog.underlying T = some (.map K E)) (ho : o.op = .call { callee := .builtin .len, args := #[x], argTypes := #[T] }) (hx : a.eval x = .map (some m)) (h : w.heap[m]? = some (.map #[] c)) : (execOp a.eval o).run Try.prog w = .ok (.value (.int .i64 0)) w := by
  simp [execOp, ho, resolve, invoke, builtin, hx, Builtin.len_, run_underlying hT, MapKept.run_getObj_map h, Result.andThen]
  rfl
theorem makeMap_hint {w : World} {T K E : TypeId} (hT : Try.prog.underlying T = some (.map K E)) : (Instr.makeMap T (some (.int .i64 0))).run Try.prog w = .ok (.map (some w.heap.size)) (w.alloc (.map #[] 0)) := by
  simp [Instr.makeMap, Result.andThen, run_underlying hT, go_sem]
theorem run_map0 {o : Oper} {a : Act} {w : World} {x : Operand} {T K E : TypeId} (hT : Try.prog.underlying T = some (.map K E)) (ho : o.op = .makeMap T (some x)) (hx : a.eval x = .int .i64 0) : ∃ q w', (execOp a.eval o).run Try.prog w = .ok (.value (.map (some q))) w' ∧ Below w.heap.size w w' := by
  refine ⟨w.heap.size, w.alloc (.map #[] 0), ?_, (Below.refl _ w).alloc (Nat.le_refl _) _⟩
  unfold execOp
  simp only [ho, hx, Option.map_some, makeMap_hint hT, Sem.run_bind, Sem.run_pure, Result.andThen_ok]
theorem D_map {ops : Array Oper} {Q : Exit → Act → World → Prop} {i : Nat} {o : Oper} {a : Act} {w : World} {F : Act → World → Prop} {x : Operand} {T K E : TypeId} (d : Option Tmp) (hi : ops[i]? = some o) (hd : o.dst = d) (hg : Region.wanted o (yielded ops a.tmps) = true) (hT : Try.prog.underlying T = some (.map K E)) (ho : o.op = .makeMap T (some x)) (hx : a.eval x = .int .i64 0)
    (h : ∀ q w', Below w.heap.size w w' → F (a.put d (.map (some q))) w') : wpOp Try.prog ops Q i F a w := by
  obtain ⟨q, w', hr, hb⟩ := run_map0 (w := w) hT ho hx
  exact D_value d hi hd hg hr (h q w' hb)
end Go.Proofs.Ytjkgclogndbplaa
