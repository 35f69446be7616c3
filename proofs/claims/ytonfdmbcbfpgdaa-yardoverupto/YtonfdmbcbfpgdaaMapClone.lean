/-
  The walk of maps.Clone.
-/
import Derived.Test.YtonfdmbcbfpgdaaTab
import Derived.Laws.Externs
import Derived.MapKept
namespace Go.Proofs.Ytonfdmbcbfpgdaa
open Go.RowKit Go.Maps

theorem map_not_nil_in (w : World) (d b : Nat) : (Op.equalIn (d + 1) 100 (.map (some b)) (.map none)).run Try.prog w = .ok false w := by
  simp [Op.equalIn, run_underlying Try.underlying100]
theorem map_not_nil (w : World) (b : Nat) : (binOp .eql 100 (.map (some b)) (.map none)).run Try.prog w = .ok (.bool false) w := by
  simp only [binOp]
  simp [show Op.equal 100 (.map (some b)) (.map none) = Op.equalIn (9999 + 1) 100 (.map (some b)) (.map none) from rfl, map_not_nil_in w 9999 b]
theorem map_asserted (w : World) (x : TypeId) (v : Value) : (Instr.typeAssert (.iface 100 v) x 100 false).run Try.prog w = .ok v w := by
  simp [Instr.typeAssert, run_underlying Try.underlying100, go_sem, Result.andThen]
theorem map_cloned {w : World} {r : Nat} {es : Array MapEntry} {clock : Nat} (t : TypeId) (hb : w.heap[r]? = some (.map es clock)) :
    (Extern.MapsClone.clone #[.iface t (.map (some r))]).run Try.prog w = .ok (.iface t (.map (some w.heap.size))) (w.alloc (.map es clock)) := by
  have e : Extern.MapsClone.clone #[.iface t (.map (some r))] = (getObj r >>= fun o => match o with
      | .map entries clock => (newObj (.map entries clock) >>= fun n => pure (.iface t (.map (some n))))
      | _ => stuck _) := rfl
  rw [e]
  simp [MapKept.run_getObj_map hb, Result.andThen, go_sem]

set_option maxHeartbeats 2000000 in
set_option maxRecDepth 1000000 in
theorem mapClone (w : World) (b n : Nat) (g : Int → Option Int) (h : Tab w b n g) :
    Calls Try.prog 58 #[.map (some b)] w fun e w' => e = .returned (.map (some w.heap.size)) ∧ Tab w' w.heap.size n g ∧ Below w.heap.size w w' ∧ w'.heap.size = w.heap.size + 1 := by
  obtain ⟨D, ⟨es, clock, hb, F, hs, hD⟩, h2⟩ := h
  have hq := fun w => map_not_nil w b
  have HB : Hid (w.heap[b]? = some (.map es clock)) := hb
  clear hb
  go_enter Try.func58, Try.ntmps58
  go_wp2_with fail
  rw [run_callFunc_extern Try.func57 (by kernel_rfl) (by kernel_rfl) (by kernel_rfl) (e := Extern.MapsClone.clone) (by kernel_rfl), map_cloned 100 HB.out]
  simp only [Result.andThen]
  rw [Oper.upon_value]
  go_wp2_with fail
  rw [map_asserted _ 20]
  simp only [Result.andThen]
  rw [Oper.upon_value]
  go_wp2_with fail
  go_ret
  exact ⟨rfl, ⟨D, ⟨es, clock, (MapKept.heap_alloc w _).1, F, hs, hD⟩, h2⟩, (Below.refl _ w).alloc (Nat.le_refl _) _, by simp⟩
end Go.Proofs.Ytonfdmbcbfpgdaa
