/-
  YSb, YSumEqD.
-/
import Derived.Test.YtonfdmbcbfpgdaaYSums
import Derived.Test.YtonfdmbcbfpgdaaHand
import Derived.Laws.StructEq
namespace Go.Proofs.Ytonfdmbcbfpgdaa
open Go.RowKit
def Sm.agg (s : Sm) : Array Value := #[.int .i64 s.r, .int .i64 s.d, .int .i64 s.v, .int .i64 s.b, .int .i64 s.u]
/-- Sums in a block. -/
def Sb (w : World) (b : Nat) (s : Sm) : Prop := w.heap[b]? = some (.cells s.agg 27 (0, 0))
theorem Sb.below {w w' : World} {b : Nat} {s : Sm} (h : Sb w b s) (hb : Below w.heap.size w w') : Sb w' b s := (hb.block b (Array.getElem?_eq_some_iff.1 h).1).trans h
theorem Sb.set {w : World} {b : Nat} {s : Sm} (h : Sb w b s) (s' : Sm) : Sb (w.setRow b s'.agg) b s' := setRow_heap w b _ _ _ _ h
theorem Sb.other {w : World} {b c : Nat} {s : Sm} (h : Sb w b s) (hc : b ≠ c) (cs : Array Value) : Sb (w.setRow c cs) b s := (setRow_other w c b cs hc).trans h
theorem sums_size (s : Sm) : (Try.prog.info? 27).map (·.size) = some s.agg.size := by
  show _ = some 5
  kernel_rfl
theorem agg_one (s : Sm) : s.agg.all (·.oneCell') = true := by simp [Sm.agg, Value.oneCell']
end Go.Proofs.Ytonfdmbcbfpgdaa

namespace Go.Proofs.Ytonfdmbcbfpgdaa
open Go.RowKit
def Sm.num (s : Sm) (k : Nat) : Int := match k with | 0 => s.r | 1 => s.d | 2 => s.v | 3 => s.b | _ => s.u
theorem spart0 (s : Sm) (w : World) : (part 3 s.agg 0).run Try.prog w = .ok (.int .i64 s.r) w := by kernel_rfl
theorem spart1 (s : Sm) (w : World) : (part 3 s.agg 1).run Try.prog w = .ok (.int .i64 s.d) w := by kernel_rfl
theorem spart2 (s : Sm) (w : World) : (part 3 s.agg 2).run Try.prog w = .ok (.int .i64 s.v) w := by kernel_rfl
theorem spart3 (s : Sm) (w : World) : (part 3 s.agg 3).run Try.prog w = .ok (.int .i64 s.b) w := by kernel_rfl
theorem spart4 (s : Sm) (w : World) : (part 3 s.agg 4).run Try.prog w = .ok (.int .i64 s.u) w := by kernel_rfl
theorem spart_int (s : Sm) (f : Nat) (hf : f < 5) (w : World) : (part 3 s.agg f).run Try.prog w = .ok (.int .i64 (s.num f)) w := by
  have h : f = 0 ∨ f = 1 ∨ f = 2 ∨ f = 3 ∨ f = 4 := by omega
  rcases h with rfl | rfl | rfl | rfl | rfl
  · exact spart0 s w
  · exact spart1 s w
  · exact spart2 s w
  · exact spart3 s w
  · exact spart4 s w
theorem sums_fields : ((Try.prog.fieldsOf 27).toList.all fun f => f.name != "_" && (f.type == 3) && decide (f.offset < 5)) = true := by kernel_rfl
theorem sums_under : Try.prog.underlying 27 = some (.struct (Try.prog.fieldsOf 27)) := by kernel_rfl
theorem sums_held : Try.prog.stoodInHeld 27 = false := by kernel_rfl
theorem eq_sfields (s : Sm) (w : World) : ∀ fs : List Field, (fs.all fun f => f.name != "_" && (f.type == 3) && decide (f.offset < 5)) = true → (Op.eqFields 9999 s.agg s.agg fs).run Try.prog w = .ok true w
  | [], _ => by simp [Op.eqFields]
  | f :: fs, h => by
    rw [List.all_cons, Bool.and_eq_true] at h
    have ih := eq_sfields s w fs h.2
    obtain ⟨⟨h1, h2⟩, h3⟩ : (f.name ≠ "_" ∧ f.type = 3) ∧ f.offset < 5 := by simpa using h.1
    have e : (Op.equalIn 9999 3 (.int .i64 (s.num f.offset)) (.int .i64 (s.num f.offset))).run Try.prog w = .ok (s.num f.offset == s.num f.offset) w := run_equalIn_int (P := Try.prog) w 9998 3 .i64 .i64 _ _ Try.underlying3
    simp only [Op.eqFields, h1, h2, ne_eq, not_false_eq_true, if_true, Sem.run_bind, spart_int s f.offset h3 w, Result.andThen_ok, e, beq_self_eq_true]
    exact ih
theorem eq_sums (s : Sm) (w : World) : (Op.equalIn 10000 27 (.agg s.agg) (.agg s.agg)).run Try.prog w = .ok true w := by
  rw [run_equalIn_struct w 9999 27 _ _ sums_under sums_held, eq_sfields s w _ sums_fields]
theorem eql_sums (s : Sm) (w : World) : (binOp .eql 27 (.agg s.agg) (.agg s.agg)).run Try.prog w = .ok (.bool true) w := by
  simp only [binOp]
  simp [show Op.equal 27 (.agg s.agg) (.agg s.agg) = Op.equalIn 10000 27 (.agg s.agg) (.agg s.agg) from rfl, eq_sums s w]
theorem neq_sums (s : Sm) (w : World) : (binOp .neq 27 (.agg s.agg) (.agg s.agg)).run Try.prog w = .ok (.bool false) w := by
  simp only [binOp]
  simp [show Op.equal 27 (.agg s.agg) (.agg s.agg) = Op.equalIn 10000 27 (.agg s.agg) (.agg s.agg) from rfl, eq_sums s w]
theorem run_neqS {o : Oper} {a : Act} {w : World} {x y : Operand} {u : TypeId} (s : Sm) (ho : o.op = .binOp .neq 27 x y u) (hx : a.eval x = .agg s.agg) (hy : a.eval y = .agg s.agg) : (execOp a.eval o).run Try.prog w = .ok (.value (.bool false)) w := by
  unfold execOp
  simp only [ho, hx, hy, Sem.run_bind, Sem.run_pure, run_eqGuard_agg (P := Try.prog) (w := w) .neq 27 x y s.agg s.agg (by kernel_rfl), Result.andThen_ok, neq_sums s w]
theorem run_eqlS {o : Oper} {a : Act} {w : World} {x y : Operand} {u : TypeId} (s : Sm) (ho : o.op = .binOp .eql 27 x y u) (hx : a.eval x = .agg s.agg) (hy : a.eval y = .agg s.agg) : (execOp a.eval o).run Try.prog w = .ok (.value (.bool true)) w := by
  unfold execOp
  simp only [ho, hx, hy, Sem.run_bind, Sem.run_pure, run_eqGuard_agg (P := Try.prog) (w := w) .eql 27 x y s.agg s.agg (by kernel_rfl), Result.andThen_ok, eql_sums s w]
end Go.Proofs.Ytonfdmbcbfpgdaa
