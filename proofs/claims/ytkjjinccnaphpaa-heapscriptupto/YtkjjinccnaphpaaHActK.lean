/-
  The desk's act: what all kinds share.
-/
import Derived.Test.YtkjjinccnaphpaaHClo
import Derived.Test.YtkjjinccnaphpaaActs
import Derived.BigQuiet
import Derived.Deep.Cut
import Derived.Deep.RegionWith
import Derived.Test.YtkjjinccnaphpaaSHand
namespace Go.Proofs.Ytkjjinccnaphpaa
open Go.RowKit

def actV (x : ActI) : Value := .agg #[.int .i64 x.1, .int .i64 x.2.1, .int .i64 x.2.2.1, .int .i64 x.2.2.2.1, .int .i64 x.2.2.2.2]
/-- What an act leaves. -/
def Left (w0 : World) (Db n l : Nat) (e : Ending) (w' : World) : Prop := e = .returned (.bool true) ∧ ∃ lab va vb f es ps top, DeskS w0 w' lab Db va vb f es ps top n ∧ 3 ≤ top ∧ l ≤ ps.length
theorem eq_thing (w : World) (a b : Int) : (binOp .eql 27 (.agg #[.int .i64 a, .int .i64 b]) (.agg #[.int .i64 a, .int .i64 b])).run Try.prog w = .ok (.bool true) w := by
  have u3 := Try.underlying3
  have a3 := Try.isAgg3
  have z3 := Try.sizeOf3
  have hS : Try.prog.underlying 27 = some (.struct (Try.prog.fieldsOf 27)) := by kernel_rfl
  have hp : Try.prog.stoodInHeld 27 = false := by kernel_rfl
  rw [run_eql_struct, show (10000 : Nat) = 9999 + 1 from rfl, run_equalIn_agg w 9999 27 _ _ hS hp]
  simp only [Program.fieldsOf, Try.underlying27]
  go_simp
theorem same_below (w : World) (m : Nat) : Below w.heap.size w (w.drewN m) := ⟨rfl, rfl, rfl, Nat.le_refl _, fun _ _ => rfl⟩
/-- A pair has turned, and the desk with it. -/
theorem left_of {w0 W w1 : World} {lab : Nat → Tag} {Db f top n k : Nat} {va vb : Value} {es : List Ent} {ps : List (Nat × Hpr)} {q : Nat × Hpr} {p' : Hpr} {last1 : Int} {E1 : List RowI} {fa fb : FuncId} {A B : Array Value} {ans : Value} (h : DeskS w0 W lab Db va vb f es ps top n) (ht : 3 ≤ top) (hq : ps[k]? = some q) (T : Two w0 W q.2 fa A fb B ans last1 E1) (tu : Turned w0 W q.2 p' w1) (hl : p'.last = last1) (he : p'.E = E1) {w2 : World} (hb : Below w1.heap.size w1 w2) : Left w0 Db (n + 1) ps.length (.returned (.bool true)) w2 := by
  have hs := DeskG.size h k q hq
  have h1 := T.len
  have h2 := T.lst
  obtain ⟨lab', hd⟩ := DeskS.turn h hq tu (by rw [he]; omega) (by rw [hl]; omega)
  exact ⟨rfl, lab', _, _, _, _, _, _, DeskG.later hd hb, ht, by simp⟩
/-- A new box is left as it is by the second call. -/
theorem box_kept {w0 w w1 w2 : World} {p : Hpr} {v1 : Value} {last1 : Int} {R1 E1 : List RowI} (m : Mid w0 w w1 p v1 last1 R1 E1) (o : Obj) (hk : Kept (MineH p.db p.dv) (w1.alloc o) w2) : w2.heap[w1.heap.size]? = (w1.alloc o).heap[w1.heap.size]? :=
  hk.block _ (by simp) (fun e => by have := m.d.lt e; omega)
end Go.Proofs.Ytkjjinccnaphpaa
