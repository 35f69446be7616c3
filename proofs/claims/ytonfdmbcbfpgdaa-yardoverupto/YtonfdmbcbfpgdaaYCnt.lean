/-
  A job is counted in the yard and in its tube.
-/
import Derived.Test.YtonfdmbcbfpgdaaYHeaps
namespace Go.Proofs.Ytonfdmbcbfpgdaa
open Go.RowKit
theorem job_size (j : Jb) (bv : Value) : (Try.prog.info? 41).map (·.size) = some (j.cells bv).size := by
  show _ = some 16
  kernel_rfl
theorem run_loadJob {w : World} {b : Nat} {j : Jb} {bv : Value} (h : JobBox w b j bv) : (Instr.loadAt 41 (.pointer (some ⟨b, 0, none⟩))).run Try.prog w = .ok (.agg (j.cells bv)) w := by
  simp only [Instr.loadAt, Instr.sureAddr, Sem.run_bind, Sem.run_pure, Result.andThen_ok, run_loadVar_row w b _ _ _ _ _ (show w.heap[b]? = _ from h) Try.underlying41 rfl (job_size j bv)]
theorem still_value {P : Program} {ops : Array Oper} {Q : Act → Prop} {o : Oper} {rest : List Oper} {a : Act} {w : World} {v : Value} (hw : Region.wanted o (yielded ops a.tmps) = true) (hx : (execOp a.eval o).run P w = .ok (.value v) w) (h : wpStill P ops w Q rest (a.put o.dst v)) : wpStill P ops w Q (o :: rest) a := by
  unfold wpStill
  rw [if_pos hw]
  unfold Oper.still
  rw [hx, Oper.stillUpon_value]
  exact h
/-- A job is loaded whole. -/
theorem still_job {ops : Array Oper} {Q : Act → Prop} {o : Oper} {rest : List Oper} {a : Act} {w : World} {b : Nat} {j : Jb} {bv : Value} {x : Operand} (ho : o.op = .load 41 x) (h : JobBox w b j bv) (hw : Region.wanted o (yielded ops a.tmps) = true) (hx : a.eval x = .pointer (some ⟨b, 0, none⟩)) (hK : wpStill Try.prog ops w Q rest (a.put o.dst (.agg (j.cells bv)))) : wpStill Try.prog ops w Q (o :: rest) a :=
  still_value hw (run_loadRow ho hx (show w.heap[b]? = _ from h) Try.underlying41 rfl (job_size j bv)) hK
set_option maxHeartbeats 4000000 in
set_option maxRecDepth 1000000 in
theorem count_any (j : Jb) (bv : Value) (k : Int) (w : World) (lab : Nat → HK) (yb : Nat) (Y : Yd) (h : YAt w lab yb Y) (hj : j.ok) (b : Nat) (hb : Y.tb j.nm = some b) (hs1 : Y.sm.small) (hs2 : (Y.ts j.nm).small) (hk : -1 ≤ k ∧ k ≤ 1) :
    Calls Try.prog 65 #[ptrV yb, .agg (j.cells bv), .int .i64 k] w fun e w' => e = .returned (.tuple #[]) ∧ YAt w' lab yb { Y with sm := Y.sm.add j.st j.pr k, ts := updT Y.ts j.nm ((Y.ts j.nm).add j.st j.pr k) } ∧ Kept (Ours lab) w w' := by
  obtain ⟨w1, hw1⟩ : ∃ w1, w1 = w.alloc (.cells (j.cells bv) 41) := ⟨_, rfl⟩
  obtain ⟨jb, hjb⟩ : ∃ jb, jb = w.heap.size := ⟨_, rfl⟩
  have B1 : Below w.heap.size w w1 := by rw [hw1]; exact (Below.refl _ w).alloc (Nat.le_refl _) _
  have J1 : JobBox w1 jb j bv := by rw [hw1, hjb]; exact JobBox.new w j bv
  have A1 : YAt w1 lab yb Y := h.below B1 (fun _ _ => rfl)
  have A1d : YAt w1.drew lab yb Y := A1.below (Below.refl _ w1).drew (fun _ _ => rfl)
  obtain ⟨d, r, hd, hr, hbox⟩ := A1.box
  have hC1 : Calls Try.prog 74 #[.pointer (some ⟨yb, 5, none⟩), .agg (j.cells bv), .int .i64 k] w1.drew fun e w' => e = .returned (.tuple #[]) ∧ YAt w' lab yb { Y with sm := Y.sm.add j.st j.pr k } ∧ JobBox w' jb j bv ∧ Kept (Ours lab) w1.drew w' := by
    refine (countIn_any j bv k w1.drew yb [.map (some Y.jm), .map (some Y.tm), .map (some Y.hm), ptrV d.hb, ptrV r.hb] Y.sm 59 hbox hs1 hk).mono ?_
    rintro e w' ⟨rfl, hc, hkp⟩
    obtain ⟨a2, k2⟩ := A1d.sumsTurned _ hd hr hc hkp
    refine ⟨rfl, a2, (hkp.block jb J1.lt (fun e => ?_)).trans J1, k2⟩
    rw [hjb] at e
    have := h.yb_lt
    omega
  have ylt := A1.yb_lt
  have jlt := J1.lt
  have L1 : Hid (JobBox w1.drew jb j bv) := J1.later (Below.refl _ w1).drew
  have HC1 : Hid (Calls Try.prog 74 #[.pointer (some ⟨yb, 5, none⟩), .agg (j.cells bv), .int .i64 k] w1.drew fun e w' => e = .returned (.tuple #[]) ∧ YAt w' lab yb { Y with sm := Y.sm.add j.st j.pr k } ∧ JobBox w' jb j bv ∧ Kept (Ours lab) w1.drew w') := hC1
  have BB : Hid (Below w.heap.size w w1) := B1
  have HW1 : Hid (w1 = w.alloc (.cells (j.cells bv) 41)) := hw1
  have HJB : Hid (jb = w.heap.size) := hjb
  have HY : Hid (YAt w lab yb Y) := h
  clear hw1 hjb B1 J1 A1 A1d hC1 h hbox
  go_enter Try.func65, Try.ntmps65
  go_upto_region 1 with fail
  rw [← HW1.out, ← HJB.out]
  refine wp_tail 5 mixed (by kernel_rfl) ?_
  simp only [List.take_succ_cons, List.take_zero, List.drop_succ_cons, List.drop_zero]
  repeat (first | (refine still_job rfl L1.out rfl rfl ?_; simp only [Act.put, List.setIfInBounds_toArray, List.set_cons_zero, List.set_cons_succ]) | still_step)
  refine wpStill_nil ?_
  go_wp2_with fail
  refine HC1.out.mono ?_
  rintro e w2 ⟨rfl, A2, J2, K2⟩
  obtain ⟨d2, r2, hd2, hr2⟩ := A2.two
  obtain ⟨y0, y1, y2, y3, y4⟩ := A2.cells hd2 hr2
  obtain ⟨q0, q5, q8, q14, q15⟩ := J2.at
  obtain ⟨lb, h0, h1, h2, e0, e1, e2, hbk⟩ := A2.tube j.nm b hb
  have blt : b < w2.heap.size := (Array.getElem?_eq_some_iff.1 hbk).1
  have ylt2 := A2.yb_lt
  have jlt2 := J2.lt
  have L2 : Hid (JobBox w2.drew jb j bv) := J2.later (Below.refl _ w2).drew
  have hlk : (Instr.lookup 55 (.map (some Y.tm)) (.string j.nm) false).run Try.prog w2.drew = .ok (ptrV b) w2.drew := by
    have := (A2.tubs.later (Below.refl _ w2).drew).look_run (w := w2.drew) Try.underlying55 (zero_ptr _) j.nm hj.2.2.2.2.2.2.2.2.2.2.2.2.2.2
    rw [show ({ Y with sm := Y.sm.add j.st j.pr k } : Yd).tb j.nm = some b from hb] at this
    exact this
  have C2 : Hid (Calls Try.prog 74 #[.pointer (some ⟨b, 3, none⟩), .agg (j.cells bv), .int .i64 k] w2.drew fun e w' => e = .returned (.tuple #[]) ∧ YAt w' lab yb { Y with sm := Y.sm.add j.st j.pr k, ts := updT Y.ts j.nm ((Y.ts j.nm).add j.st j.pr k) } ∧ Kept (Ours lab) w2.drew w') := by
    refine (countIn_any j bv k w2.drew b [ptrV h0.hb, ptrV h1.hb, ptrV h2.hb] (Y.ts j.nm) 61 hbk hs2 hk).mono ?_
    rintro e w' ⟨rfl, hc, hkp⟩
    obtain ⟨a3, k3⟩ := (A2.below (Below.refl _ w2).drew (fun _ _ => rfl)).tubeTurned j.nm _ hb e0 e1 e2 hc hkp
    exact ⟨rfl, a3, k3⟩
  have K2' : Hid (Kept (Ours lab) w w2) := (Kept.ofBelow BB.out).step (Kept.trans (w1 := w1.drew) (Kept.ofBelow (Below.refl _ w1).drew) K2) (fun _ _ h => h)
  clear A2 J2 K2 hbk y0 y2 y3 y4 q0 q5 q8 q15 L1 HC1
  go_upto_region 2 with fail
  refine wp_tail 11 mixed (by kernel_rfl) ?_
  simp only [List.take_succ_cons, List.take_zero, List.drop_succ_cons, List.drop_zero]
  repeat (first | (refine still_job rfl L2.out rfl rfl ?_; simp only [Act.put, List.setIfInBounds_toArray, List.set_cons_zero, List.set_cons_succ]) | still_step)
  refine wpStill_nil ?_
  go_wp2_with fail
  refine C2.out.mono ?_
  rintro e w3 ⟨rfl, A3, K3⟩
  have F3 : Hid (YAt w3 lab yb { Y with sm := Y.sm.add j.st j.pr k, ts := updT Y.ts j.nm ((Y.ts j.nm).add j.st j.pr k) } ∧ Kept (Ours lab) w w3) := ⟨A3, K2'.out.step (Kept.trans (w1 := w2.drew) (Kept.ofBelow (Below.refl _ w2).drew) K3) (fun _ _ h => h)⟩
  clear A3 K3 C2
  go_wp2_with fail
  go_end0
  exact ⟨rfl, F3.out⟩
end Go.Proofs.Ytonfdmbcbfpgdaa
