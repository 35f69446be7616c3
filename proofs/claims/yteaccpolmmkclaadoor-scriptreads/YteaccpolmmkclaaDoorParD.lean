/-
  The deferred closures of Parse and Print.
-/
import Derived.Test.YteaccpolmmkclaaDoorPanA
import Derived.Defers
import Derived.Recover
import Derived.Laws.Pointers
import Derived.Deep.RegionWith
namespace Go.Proofs.YteaccpolmmkclaaDoor
open Go.RowKit

set_option maxHeartbeats 1000000 in
set_option maxRecDepth 1000000 in
theorem parseD_idle (p0 p1 p2 p3 : Addr) (w : World) :
    CallsD Tryd.prog 11 #[.pointer (some p0), .pointer (some p1), .pointer (some p2), .pointer (some p3)] .returning w fun e u' w' => e = .returned (.tuple #[]) ∧ u' = .returning ∧ w' = w := by
  refine callsD_of_wpS Tryd.func11 rfl fun c₀ cs hu => ?_
  apply wpS_seq
  apply wpS_region
  simp [wpOpsS, go_sem, recoverD, hu, Tryd.ntmps11, Exit.thenS]
  apply wpS_seq
  apply wpS_region
  simp [wpOpsS, go_sem, Exit.thenS]
  refine wpS_cond (t := false) (by simp [Act.eval, Array.replicate]) ?_
  simp only [Bool.false_eq_true, if_false]
  refine wpS_of_wp (wp_skip ?_)
  cases c₀
  simp_all [bodyPostS, results, Tryd.results11]
set_option maxHeartbeats 1000000 in
set_option maxRecDepth 1000000 in
theorem parseD_pan (b0 b1 b2 b3 : Nat) (c n : Int) (w : World) (c0 : w.cell? ⟨b0, 5, none⟩ = some (.int .i64 n))
    (h1 : w.heap[b1]? = some (.cells #[.int .i64 0, .int .i64 0, .int .i64 0, .slice none 0 0] 31 (0, 0)))
    (h2 : w.heap[b2]? = some (.cells #[.int .i64 0] 3 (0, 0))) (h3 : w.heap[b3]? = some (.cells #[.int .i64 0] 32 (0, 0))) :
    CallsD Tryd.prog 11 #[.pointer (some ⟨b0, 0, none⟩), .pointer (some ⟨b1, 0, none⟩), .pointer (some ⟨b2, 0, none⟩), .pointer (some ⟨b3, 0, none⟩)] (.panicking [{ v := .iface 32 (.int .i64 c), recovered := false }]) w fun e u' w' => e = .returned (.tuple #[]) ∧ u' = .panicking [{ v := .iface 32 (.int .i64 c), recovered := true }] ∧
      Kept (fun i => i = b1 ∨ i = b2 ∨ i = b3) w w' ∧ w'.heap[b1]? = some (.cells #[.int .i64 0, .int .i64 0, .int .i64 0, .slice none 0 0] 31 (0, 0)) ∧ w'.heap[b2]? = some (.cells #[.int .i64 n] 3 (0, 0)) ∧ w'.heap[b3]? = some (.cells #[.int .i64 c] 32 (0, 0)) := by
  have r1 : w.cell? ⟨b1, 0, none⟩ = some (.int .i64 0) ∧ w.cell? ⟨b1, 1, none⟩ = some (.int .i64 0) ∧ w.cell? ⟨b1, 2, none⟩ = some (.int .i64 0) ∧ w.cell? ⟨b1, 3, none⟩ = some (.slice none 0 0) ∧ ∀ i, w.frozen? ⟨b1, i, none⟩ = false := by simp [World.cell?, World.frozen?, h1]
  have r2 : w.cell? ⟨b2, 0, none⟩ = some (.int .i64 0) ∧ w.frozen? ⟨b2, 0, none⟩ = false := by simp [World.cell?, World.frozen?, h2]
  have r3 : w.cell? ⟨b3, 0, none⟩ = some (.int .i64 0) ∧ w.frozen? ⟨b3, 0, none⟩ = false := by simp [World.cell?, World.frozen?, h3]
  obtain ⟨e10, e11, e12, e13, ef⟩ := r1
  obtain ⟨e2, f2⟩ := r2
  obtain ⟨e3, f3⟩ := r3
  have f10 := ef 0
  have f11 := ef 1
  have f12 := ef 2
  have f13 := ef 3
  have n12 : ¬ b1 = b2 := by intro e; rw [e, h2] at h1; simp at h1
  have n13 : ¬ b1 = b3 := by intro e; rw [e, h3] at h1; simp at h1
  have n23 : ¬ b2 = b3 := by intro e; rw [e, h3] at h2; simp at h2
  have H1 := hide (And.intro h1 (And.intro h2 h3))
  have hta : ∀ W, (Instr.typeAssert (.iface 32 (.int .i64 c)) 20 32 false).run Tryd.prog W = .ok (.int .i64 c) W := fun W => by kernel_rfl
  clear ef h1 h2 h3
  refine callsD_of_wpS Tryd.func11 rfl fun c₀ cs hu => ?_
  apply wpS_seq
  apply wpS_region
  simp [wpOpsS, go_sem, recoverD, hu, Tryd.ntmps11, Exit.thenS]
  apply wpS_seq
  apply wpS_region
  simp [wpOpsS, go_sem, Exit.thenS]
  refine wpS_cond (t := true) (by simp [Act.eval, Array.replicate]) ?_
  simp only [if_true]
  refine wpS_of_wp ?_
  rw [show (#[Value.pointer (some { block := b0, off := 0 }), Value.pointer (some { block := b1, off := 0 }),
            Value.pointer (some { block := b2, off := 0 }), Value.pointer (some { block := b3, off := 0 })] ++
          ((((Array.replicate 9 undef).setIfInBounds 1 (Value.iface 32 (Value.int IntKind.i64 c))).setIfInBounds 0
                    (Value.iface 32 (Value.int IntKind.i64 c))).setIfInBounds
                2 (Value.iface 32 (Value.int IntKind.i64 c))).setIfInBounds
            3 (Value.bool true)) = #[Value.pointer (some { block := b0, off := 0 }), Value.pointer (some { block := b1, off := 0 }),
            Value.pointer (some { block := b2, off := 0 }), Value.pointer (some { block := b3, off := 0 }), Value.iface 32 (Value.int IntKind.i64 c), Value.iface 32 (Value.int IntKind.i64 c), Value.iface 32 (Value.int IntKind.i64 c), Value.bool true, undef, undef, undef, undef, undef] from rfl]
  go_region
  refine ⟨rfl, _, rfl, _, results_none rfl _ _ _, rfl, rfl, ?_⟩
  obtain ⟨h1, h2, h3⟩ := H1.out
  have s10 := (set_cells h1 0 (.int .i64 0)).1
  have s11 := (set_cells s10 1 (.int .i64 0)).1
  have s12 := (set_cells s11 2 (.int .i64 0)).1
  have s13 := (set_cells s12 3 (.slice none 0 0)).1
  have k1 : Kept (fun i => i = b1) w ((((w.setCell ⟨b1, 0, none⟩ (.int .i64 0)).setCell ⟨b1, 1, none⟩ (.int .i64 0)).setCell ⟨b1, 2, none⟩ (.int .i64 0)).setCell ⟨b1, 3, none⟩ (.slice none 0 0)) := (((Kept.setCell (fun i => i = b1) _ _ _ _ rfl).trans (Kept.setCell (fun i => i = b1) _ _ _ _ rfl)).trans (Kept.setCell (fun i => i = b1) _ _ _ _ rfl)).trans (Kept.setCell (fun i => i = b1) _ _ _ _ rfl)
  generalize hq : ((((w.setCell ⟨b1, 0, none⟩ (.int .i64 0)).setCell ⟨b1, 1, none⟩ (.int .i64 0)).setCell ⟨b1, 2, none⟩ (.int .i64 0)).setCell ⟨b1, 3, none⟩ (.slice none 0 0)) = wq at s13 k1 ⊢
  have q2 := (k1.block b2 (Array.getElem?_eq_some_iff.1 h2).1 (fun e => n12 e.symm)).trans h2
  have q3 := (k1.block b3 (Array.getElem?_eq_some_iff.1 h3).1 (fun e => n13 e.symm)).trans h3
  have k2 : Kept (fun i => i = b2) wq (wq.setCell ⟨b2, 0, none⟩ (.int .i64 n)) := Kept.setCell _ _ _ _ _ rfl
  have u2 := (set_cells q2 0 (.int .i64 n)).1
  have u3 := (k2.block b3 (Array.getElem?_eq_some_iff.1 q3).1 (fun e => n23 e.symm)).trans q3
  have u1 := (k2.block b1 (Array.getElem?_eq_some_iff.1 s13).1 n12).trans s13
  have k3 : Kept (fun i => i = b3) (wq.setCell ⟨b2, 0, none⟩ (.int .i64 n)) ((wq.setCell ⟨b2, 0, none⟩ (.int .i64 n)).setCell ⟨b3, 0, none⟩ (.int .i64 c)) := Kept.setCell _ _ _ _ _ rfl
  refine ⟨?_, (k3.block b1 (Array.getElem?_eq_some_iff.1 u1).1 n13).trans u1, (k3.block b2 (Array.getElem?_eq_some_iff.1 u2).1 n23).trans u2, (set_cells u3 0 (.int .i64 c)).1⟩
  have k := ((k1.mono (Q := fun i => i = b1 ∨ i = b2 ∨ i = b3) (fun i _ e => .inl e)).trans (k2.mono (fun i _ e => .inr (.inl e)))).trans (k3.mono (fun i _ e => .inr (.inr e)))
  exact ⟨k.os, k.tape, k.output, k.size, k.block⟩
set_option maxHeartbeats 1000000 in
set_option maxRecDepth 1000000 in
theorem printD_idle (p0 p1 : Addr) (w : World) :
    CallsD Tryd.prog 26 #[.pointer (some p0), .pointer (some p1)] .returning w fun e u' w' => e = .returned (.tuple #[]) ∧ u' = .returning ∧ w' = w := by
  refine callsD_of_wpS Tryd.func26 rfl fun c₀ cs hu => ?_
  apply wpS_seq
  apply wpS_region
  simp [wpOpsS, go_sem, recoverD, hu, Tryd.ntmps26, Exit.thenS]
  apply wpS_seq
  apply wpS_region
  simp [wpOpsS, go_sem, Exit.thenS]
  refine wpS_cond (t := false) (by simp [Act.eval, Array.replicate]) ?_
  simp only [Bool.false_eq_true, if_false]
  refine wpS_of_wp (wp_skip ?_)
  cases c₀
  simp_all [bodyPostS, results, Tryd.results26]
set_option maxHeartbeats 1000000 in
set_option maxRecDepth 1000000 in
theorem printD_pan (b1 b2 : Nat) (c : Int) (w : World)
    (h1 : w.heap[b1]? = some (.cells #[.string ⟨#[]⟩] 9 (0, 0))) (h2 : w.heap[b2]? = some (.cells #[.int .i64 0] 32 (0, 0))) :
    CallsD Tryd.prog 26 #[.pointer (some ⟨b1, 0, none⟩), .pointer (some ⟨b2, 0, none⟩)] (.panicking [{ v := .iface 32 (.int .i64 c), recovered := false }]) w fun e u' w' => e = .returned (.tuple #[]) ∧ u' = .panicking [{ v := .iface 32 (.int .i64 c), recovered := true }] ∧
      Kept (fun i => i = b1 ∨ i = b2) w w' ∧ w'.heap[b1]? = some (.cells #[.string ⟨#[]⟩] 9 (0, 0)) ∧ w'.heap[b2]? = some (.cells #[.int .i64 c] 32 (0, 0)) := by
  have r1 : w.cell? ⟨b1, 0, none⟩ = some (.string ⟨#[]⟩) ∧ w.frozen? ⟨b1, 0, none⟩ = false := by simp [World.cell?, World.frozen?, h1]
  have r2 : w.cell? ⟨b2, 0, none⟩ = some (.int .i64 0) ∧ w.frozen? ⟨b2, 0, none⟩ = false := by simp [World.cell?, World.frozen?, h2]
  obtain ⟨e1, f1⟩ := r1
  obtain ⟨e2, f2⟩ := r2
  have n12 : ¬ b1 = b2 := by intro e; rw [e, h2] at h1; simp at h1
  have H1 := hide (And.intro h1 h2)
  have hta : ∀ W, (Instr.typeAssert (.iface 32 (.int .i64 c)) 20 32 false).run Tryd.prog W = .ok (.int .i64 c) W := fun W => by kernel_rfl
  clear h1 h2
  refine callsD_of_wpS Tryd.func26 rfl fun c₀ cs hu => ?_
  apply wpS_seq
  apply wpS_region
  simp [wpOpsS, go_sem, recoverD, hu, Tryd.ntmps26, Exit.thenS]
  apply wpS_seq
  apply wpS_region
  simp [wpOpsS, go_sem, Exit.thenS]
  refine wpS_cond (t := true) (by simp [Act.eval, Array.replicate]) ?_
  simp only [if_true]
  refine wpS_of_wp ?_
  rw [show (#[Value.pointer (some { block := b1, off := 0 }), Value.pointer (some { block := b2, off := 0 })] ++
          ((((Array.replicate 6 undef).setIfInBounds 1 (Value.iface 32 (Value.int IntKind.i64 c))).setIfInBounds 0
                    (Value.iface 32 (Value.int IntKind.i64 c))).setIfInBounds
                2 (Value.iface 32 (Value.int IntKind.i64 c))).setIfInBounds
            3 (Value.bool true)) = #[Value.pointer (some { block := b1, off := 0 }), Value.pointer (some { block := b2, off := 0 }), Value.iface 32 (Value.int IntKind.i64 c), Value.iface 32 (Value.int IntKind.i64 c), Value.iface 32 (Value.int IntKind.i64 c), Value.bool true, undef, undef] from rfl]
  go_region
  refine ⟨rfl, _, rfl, _, results_none rfl _ _ _, rfl, rfl, ?_⟩
  obtain ⟨h1, h2⟩ := H1.out
  have s1 := (set_cells h1 0 (.string ⟨#[]⟩)).1
  have k1 : Kept (fun i => i = b1) w (w.setCell ⟨b1, 0, none⟩ (.string ⟨#[]⟩)) := Kept.setCell _ _ _ _ _ rfl
  have q2 := (k1.block b2 (Array.getElem?_eq_some_iff.1 h2).1 (fun e => n12 e.symm)).trans h2
  generalize hq : w.setCell ⟨b1, 0, none⟩ (.string ⟨#[]⟩) = wq at s1 k1 q2 ⊢
  have k2 : Kept (fun i => i = b2) wq (wq.setCell ⟨b2, 0, none⟩ (.int .i64 c)) := Kept.setCell _ _ _ _ _ rfl
  refine ⟨?_, (k2.block b1 (Array.getElem?_eq_some_iff.1 s1).1 n12).trans s1, (set_cells q2 0 (.int .i64 c)).1⟩
  have k := (k1.mono (Q := fun i => i = b1 ∨ i = b2) (fun i _ e => .inl e)).trans (k2.mono (fun i _ e => .inr e))
  exact ⟨k.os, k.tape, k.output, k.size, k.block⟩
end Go.Proofs.YteaccpolmmkclaaDoor
