/-
  Layer 13: the document's Job, one case.
-/
import Derived.Test.YthapbnlcodkalaaDoorRefJobK
namespace Go.Proofs.YthapbnlcodkalaaDoor
open Go.RowKit Go.Sort

set_option maxHeartbeats 16000000 in
set_option maxRecDepth 1000000 in
theorem refJob_B (nm : ByteArray) (id pr dl tr bo st du od ho c0 c1 c2 c3 c4 file now : Int) (bv : Value) (w : World) (hst : st = 3) (hn : I64 id ∧ I64 pr ∧ I64 dl ∧ I64 tr ∧ I64 bo ∧ I64 st ∧ I64 du ∧ I64 od ∧ I64 ho ∧ I64 c0 ∧ I64 c1 ∧ I64 c2 ∧ I64 c3 ∧ I64 c4 ∧ I64 file ∧ I64 now) (hb : (dictL ((jobP nm id pr dl tr bo st du od ho c0 c1 c2 c3 c4 file now).map un)).length < 140737488355328) :
    Calls Tryd.prog 8 #[.agg #[.int .i64 id, .int .i64 pr, .int .i64 dl, .int .i64 tr, .int .i64 bo, .int .i64 st, .int .i64 du, .int .i64 od, .int .i64 ho, .int .i64 c0, .int .i64 c1, .int .i64 c2, .int .i64 c3, .int .i64 c4, .string nm, bv], .int .i64 file, .int .i64 now] w fun e w' => ∃ ax cx, e = .returned (.slice ax (if dictE ((jobP nm id pr dl tr bo st du od ho c0 c1 c2 c3 c4 file now).map un) = 0 then dictL ((jobP nm id pr dl tr bo st du od ho c0 c1 c2 c3 c4 file now).map un) else []).length cx) ∧ NewB w w' ax cx (if dictE ((jobP nm id pr dl tr bo st du od ho c0 c1 c2 c3 c4 file now).map un) = 0 then dictL ((jobP nm id pr dl tr bo st du od ho c0 c1 c2 c3 c4 file now).map un) else []) ∧ Below w.heap.size w w' := by
  obtain ⟨C, hC⟩ : ∃ C : Array Value, C = #[.int .i64 id, .int .i64 pr, .int .i64 dl, .int .i64 tr, .int .i64 bo, .int .i64 st, .int .i64 du, .int .i64 od, .int .i64 ho, .int .i64 c0, .int .i64 c1, .int .i64 c2, .int .i64 c3, .int .i64 c4, .string nm, bv] := ⟨_, rfl⟩
  obtain ⟨w1, hw1⟩ : ∃ w1, w1 = w.alloc (.cells C 26) := ⟨_, rfl⟩
  obtain ⟨sb, hsb⟩ : ∃ sb, sb = w.heap.size := ⟨_, rfl⟩
  have B1 : Hid (Below w.heap.size w w1 ∧ w1.heap[sb]? = some (.cells C 26 (0, 0)) ∧ sb < w1.heap.size) := by
    rw [hw1, hsb]
    exact ⟨(Below.refl _ w).alloc (Nat.le_refl _) _, heap_alloc_new w _, by simp⟩
  have HC : Hid (C = #[.int .i64 id, .int .i64 pr, .int .i64 dl, .int .i64 tr, .int .i64 bo, .int .i64 st, .int .i64 du, .int .i64 od, .int .i64 ho, .int .i64 c0, .int .i64 c1, .int .i64 c2, .int .i64 c3, .int .i64 c4, .string nm, bv]) := hC
  have HN := hide hn
  have HBD := hide hb
  obtain ⟨lf, hlf⟩ : ∃ lf, lf = tlI st du now := ⟨_, rfl⟩
  have HLF := hide hlf
  have HLE : Hid (lf = lessI du now) := by
    show _ = _
    rw [hlf, tlI]
    exact if_pos (by omega)
  obtain ⟨ag, hag⟩ : ∃ ag, ag = lessI now bo := ⟨_, rfl⟩
  have CA : Hid (∀ w, Calls Tryd.prog 19 #[.int .i64 now, .int .i64 bo] w fun e w' => e = .returned (.int .i64 ag) ∧ w' = w) := by
    rw [hag]
    exact refless_any now bo
  have HAG := hide hag
  obtain ⟨sw, hsw⟩ : ∃ sw, sw = stS st := ⟨_, rfl⟩
  have CW : Hid (∀ w, Calls Tryd.prog 22 #[.int .i64 st] w fun e w' => e = .returned (.string sw) ∧ w' = w) := by
    rw [hsw]
    exact refstate_any st
  have HSW := hide hsw
  obtain ⟨DD, hDD⟩ : ∃ DD, DD = (if dictE ((jobP nm id pr dl tr bo st du od ho c0 c1 c2 c3 c4 file now).map un) = 0 then dictL ((jobP nm id pr dl tr bo st du od ho c0 c1 c2 c3 c4 file now).map un) else []) := ⟨_, rfl⟩
  rw [← hDD]
  have HDD := hide hDD
  have HW1 := hide (And.intro hw1 hsb)
  have HT : Hid (jobP nm id pr dl tr bo st du od ho c0 c1 c2 c3 c4 file now = [(jId, prS id), (jTube, nm), (jState, sw), (jPri, prS pr), (jAge, prS ag), (jDelay, prS dl), (jTtr, prS tr), (jLeft, prS lf), (jFile, prS file), (jRes, prS c0), (jTim, prS c1), (jRel, prS c2), (jBur, prS c3), (jKic, prS c4)]) := by
    show _ = _
    rw [hlf, hag, hsw]
    rfl
  rw [← hC]
  have y5 : w1.cell? ⟨sb, 5, none⟩ = some (.int .i64 st) := by rw [cell_of_row w1 sb 5 C _ (0, 0) B1.out.2.1, hC]; rfl
  have y6 : w1.cell? ⟨sb, 6, none⟩ = some (.int .i64 du) := by rw [cell_of_row w1 sb 6 C _ (0, 0) B1.out.2.1, hC]; rfl
  have e2 : (st == 2) = false := by rw [hst]; rfl
  have e3 : (st == 3) = true := by rw [hst]; rfl
  clear hC hw1 hsb hn hb hlf hDD hst hag hsw
  go_enter Tryd.func8, Tryd.ntmps8
  go_upto_region 1 with fail
  rw [← HW1.out.1, ← HW1.out.2]
  clear HW1
  go_upto_region 4 with (go_at_call 19; refine (refless_any du now _).mono ?_; rintro e w3 ⟨rfl, hw3⟩; obtain rfl := hw3.symm)
  rw [← HLE.out]
  clear y5 y6 e2 e3
  have TC : Hid (∀ X : World, X.heap[sb]? = some (.cells C 26 (0, 0)) → X.cell? ⟨sb, 0, none⟩ = some (.int .i64 id) ∧ X.cell? ⟨sb, 1, none⟩ = some (.int .i64 pr) ∧ X.cell? ⟨sb, 2, none⟩ = some (.int .i64 dl) ∧ X.cell? ⟨sb, 3, none⟩ = some (.int .i64 tr) ∧ X.cell? ⟨sb, 4, none⟩ = some (.int .i64 bo) ∧ X.cell? ⟨sb, 5, none⟩ = some (.int .i64 st) ∧ X.cell? ⟨sb, 9, none⟩ = some (.int .i64 c0) ∧ X.cell? ⟨sb, 10, none⟩ = some (.int .i64 c1) ∧ X.cell? ⟨sb, 11, none⟩ = some (.int .i64 c2) ∧ X.cell? ⟨sb, 12, none⟩ = some (.int .i64 c3) ∧ X.cell? ⟨sb, 13, none⟩ = some (.int .i64 c4) ∧ X.cell? ⟨sb, 14, none⟩ = some (.string nm)) := fun X hX => job_cells nm id pr dl tr bo st du od ho c0 c1 c2 c3 c4 bv X sb C hX HC.out
  have s4 : w1.drew.heap[sb]? = some (.cells C 26 (0, 0)) := B1.out.2.1
  refine wp_region_held_drew (S := fun X => X.heap[sb]? = some (.cells C 26 (0, 0))) (by kernel_rfl) s4 (fun _ => ?_)
  have H4 : Hid (Below w.heap.size w w1.drew) := B1.out.1.drew
  obtain ⟨x4, hx4⟩ : ∃ x4, x4 = w1.drew := ⟨_, rfl⟩
  rw [← hx4] at s4 H4 ⊢
  clear hx4
  refine H_take (i := 0) (v := .pointer (some ⟨sb, 0, none⟩)) (some 20) rfl rfl (by kernel_rfl) (by kernel_rfl) (by kernel_rfl) (fun _ _ _ h => h) rfl (fun X hX => ?_) s4 ?_
  · simp [go_sem]
  simp only [Act.put, List.setIfInBounds_toArray, List.set_cons_zero, List.set_cons_succ]
  refine H_take (i := 1) (v := .int .i64 id) (some 21) rfl rfl (by kernel_rfl) (by kernel_rfl) (by kernel_rfl) (fun _ _ _ h => h) rfl (fun X hX => ?_) s4 ?_
  · exact run_load1 rfl rfl Tryd.isAgg3 ((TC.out X hX).1)
  simp only [Act.put, List.setIfInBounds_toArray, List.set_cons_zero, List.set_cons_succ]
  refine H_take (i := 3) (v := .pointer (some ⟨sb, 14, none⟩)) (some 23) rfl rfl (by kernel_rfl) (by kernel_rfl) (by kernel_rfl) (fun _ _ _ h => h) rfl (fun X hX => ?_) s4 ?_
  · simp [go_sem]
  simp only [Act.put, List.setIfInBounds_toArray, List.set_cons_zero, List.set_cons_succ]
  refine H_take (i := 4) (v := .string nm) (some 24) rfl rfl (by kernel_rfl) (by kernel_rfl) (by kernel_rfl) (fun _ _ _ h => h) rfl (fun X hX => ?_) s4 ?_
  · exact run_load1 rfl rfl Tryd.isAgg9 ((TC.out X hX).2.2.2.2.2.2.2.2.2.2.2)
  simp only [Act.put, List.setIfInBounds_toArray, List.set_cons_zero, List.set_cons_succ]
  refine H_take (i := 5) (v := .agg #[.string ⟨#[116, 117, 98, 101]⟩, .string nm]) (some 25) rfl rfl (by kernel_rfl) (by kernel_rfl) (by kernel_rfl) (fun _ _ _ h => h) rfl (fun X hX => ?_) s4 ?_
  · simp [go_sem]
  simp only [Act.put, List.setIfInBounds_toArray, List.set_cons_zero, List.set_cons_succ]
  refine H_take (i := 6) (v := .pointer (some ⟨sb, 5, none⟩)) (some 26) rfl rfl (by kernel_rfl) (by kernel_rfl) (by kernel_rfl) (fun _ _ _ h => h) rfl (fun X hX => ?_) s4 ?_
  · simp [go_sem]
  simp only [Act.put, List.setIfInBounds_toArray, List.set_cons_zero, List.set_cons_succ]
  refine H_take (i := 7) (v := .int .i64 st) (some 27) rfl rfl (by kernel_rfl) (by kernel_rfl) (by kernel_rfl) (fun _ _ _ h => h) rfl (fun X hX => ?_) s4 ?_
  · exact run_load1 rfl rfl Tryd.isAgg3 ((TC.out X hX).2.2.2.2.2.1)
  simp only [Act.put, List.setIfInBounds_toArray, List.set_cons_zero, List.set_cons_succ]
  refine H_take (i := 10) (v := .pointer (some ⟨sb, 1, none⟩)) (some 30) rfl rfl (by kernel_rfl) (by kernel_rfl) (by kernel_rfl) (fun _ _ _ h => h) rfl (fun X hX => ?_) s4 ?_
  · simp [go_sem]
  simp only [Act.put, List.setIfInBounds_toArray, List.set_cons_zero, List.set_cons_succ]
  refine H_take (i := 11) (v := .int .i64 pr) (some 31) rfl rfl (by kernel_rfl) (by kernel_rfl) (by kernel_rfl) (fun _ _ _ h => h) rfl (fun X hX => ?_) s4 ?_
  · exact run_load1 rfl rfl Tryd.isAgg3 ((TC.out X hX).2.1)
  simp only [Act.put, List.setIfInBounds_toArray, List.set_cons_zero, List.set_cons_succ]
  refine H_take (i := 13) (v := .int .i64 now) (some 33) rfl rfl (by kernel_rfl) (by kernel_rfl) (by kernel_rfl) (fun _ _ _ h => h) rfl (fun X hX => ?_) s4 ?_
  · simp [go_sem]
  simp only [Act.put, List.setIfInBounds_toArray, List.set_cons_zero, List.set_cons_succ]
  refine H_take (i := 14) (v := .pointer (some ⟨sb, 4, none⟩)) (some 34) rfl rfl (by kernel_rfl) (by kernel_rfl) (by kernel_rfl) (fun _ _ _ h => h) rfl (fun X hX => ?_) s4 ?_
  · simp [go_sem]
  simp only [Act.put, List.setIfInBounds_toArray, List.set_cons_zero, List.set_cons_succ]
  refine H_take (i := 15) (v := .int .i64 bo) (some 35) rfl rfl (by kernel_rfl) (by kernel_rfl) (by kernel_rfl) (fun _ _ _ h => h) rfl (fun X hX => ?_) s4 ?_
  · exact run_load1 rfl rfl Tryd.isAgg3 ((TC.out X hX).2.2.2.2.1)
  simp only [Act.put, List.setIfInBounds_toArray, List.set_cons_zero, List.set_cons_succ]
  refine H_take (i := 18) (v := .pointer (some ⟨sb, 2, none⟩)) (some 38) rfl rfl (by kernel_rfl) (by kernel_rfl) (by kernel_rfl) (fun _ _ _ h => h) rfl (fun X hX => ?_) s4 ?_
  · simp [go_sem]
  simp only [Act.put, List.setIfInBounds_toArray, List.set_cons_zero, List.set_cons_succ]
  refine H_take (i := 19) (v := .int .i64 dl) (some 39) rfl rfl (by kernel_rfl) (by kernel_rfl) (by kernel_rfl) (fun _ _ _ h => h) rfl (fun X hX => ?_) s4 ?_
  · exact run_load1 rfl rfl Tryd.isAgg3 ((TC.out X hX).2.2.1)
  simp only [Act.put, List.setIfInBounds_toArray, List.set_cons_zero, List.set_cons_succ]
  refine H_take (i := 21) (v := .pointer (some ⟨sb, 3, none⟩)) (some 41) rfl rfl (by kernel_rfl) (by kernel_rfl) (by kernel_rfl) (fun _ _ _ h => h) rfl (fun X hX => ?_) s4 ?_
  · simp [go_sem]
  simp only [Act.put, List.setIfInBounds_toArray, List.set_cons_zero, List.set_cons_succ]
  refine H_take (i := 22) (v := .int .i64 tr) (some 42) rfl rfl (by kernel_rfl) (by kernel_rfl) (by kernel_rfl) (fun _ _ _ h => h) rfl (fun X hX => ?_) s4 ?_
  · exact run_load1 rfl rfl Tryd.isAgg3 ((TC.out X hX).2.2.2.1)
  simp only [Act.put, List.setIfInBounds_toArray, List.set_cons_zero, List.set_cons_succ]
  refine H_take (i := 24) (v := .int .i64 lf) (some 44) rfl rfl (by kernel_rfl) (by kernel_rfl) (by kernel_rfl) (fun _ _ _ h => h) rfl (fun X hX => ?_) s4 ?_
  · simp [go_sem]
  simp only [Act.put, List.setIfInBounds_toArray, List.set_cons_zero, List.set_cons_succ]
  refine H_take (i := 26) (v := .int .i64 file) (some 46) rfl rfl (by kernel_rfl) (by kernel_rfl) (by kernel_rfl) (fun _ _ _ h => h) rfl (fun X hX => ?_) s4 ?_
  · simp [go_sem]
  simp only [Act.put, List.setIfInBounds_toArray, List.set_cons_zero, List.set_cons_succ]
  refine H_take (i := 28) (v := .pointer (some ⟨sb, 9, none⟩)) (some 48) rfl rfl (by kernel_rfl) (by kernel_rfl) (by kernel_rfl) (fun _ _ _ h => h) rfl (fun X hX => ?_) s4 ?_
  · simp [go_sem]
  simp only [Act.put, List.setIfInBounds_toArray, List.set_cons_zero, List.set_cons_succ]
  refine H_take (i := 29) (v := .pointer (some ⟨sb, 9, none⟩)) (some 49) rfl rfl (by kernel_rfl) (by kernel_rfl) (by kernel_rfl) (fun _ _ _ h => h) rfl (fun X hX => ?_) s4 ?_
  · simp [go_sem]
  simp only [Act.put, List.setIfInBounds_toArray, List.set_cons_zero, List.set_cons_succ]
  refine H_take (i := 30) (v := .int .i64 c0) (some 50) rfl rfl (by kernel_rfl) (by kernel_rfl) (by kernel_rfl) (fun _ _ _ h => h) rfl (fun X hX => ?_) s4 ?_
  · exact run_load1 rfl rfl Tryd.isAgg3 ((TC.out X hX).2.2.2.2.2.2.1)
  simp only [Act.put, List.setIfInBounds_toArray, List.set_cons_zero, List.set_cons_succ]
  refine H_take (i := 32) (v := .pointer (some ⟨sb, 9, none⟩)) (some 52) rfl rfl (by kernel_rfl) (by kernel_rfl) (by kernel_rfl) (fun _ _ _ h => h) rfl (fun X hX => ?_) s4 ?_
  · simp [go_sem]
  simp only [Act.put, List.setIfInBounds_toArray, List.set_cons_zero, List.set_cons_succ]
  refine H_take (i := 33) (v := .pointer (some ⟨sb, 10, none⟩)) (some 53) rfl rfl (by kernel_rfl) (by kernel_rfl) (by kernel_rfl) (fun _ _ _ h => h) rfl (fun X hX => ?_) s4 ?_
  · simp [go_sem]
  simp only [Act.put, List.setIfInBounds_toArray, List.set_cons_zero, List.set_cons_succ]
  refine H_take (i := 34) (v := .int .i64 c1) (some 54) rfl rfl (by kernel_rfl) (by kernel_rfl) (by kernel_rfl) (fun _ _ _ h => h) rfl (fun X hX => ?_) s4 ?_
  · exact run_load1 rfl rfl Tryd.isAgg3 ((TC.out X hX).2.2.2.2.2.2.2.1)
  simp only [Act.put, List.setIfInBounds_toArray, List.set_cons_zero, List.set_cons_succ]
  refine H_take (i := 36) (v := .pointer (some ⟨sb, 9, none⟩)) (some 56) rfl rfl (by kernel_rfl) (by kernel_rfl) (by kernel_rfl) (fun _ _ _ h => h) rfl (fun X hX => ?_) s4 ?_
  · simp [go_sem]
  simp only [Act.put, List.setIfInBounds_toArray, List.set_cons_zero, List.set_cons_succ]
  refine H_take (i := 37) (v := .pointer (some ⟨sb, 11, none⟩)) (some 57) rfl rfl (by kernel_rfl) (by kernel_rfl) (by kernel_rfl) (fun _ _ _ h => h) rfl (fun X hX => ?_) s4 ?_
  · simp [go_sem]
  simp only [Act.put, List.setIfInBounds_toArray, List.set_cons_zero, List.set_cons_succ]
  refine H_take (i := 38) (v := .int .i64 c2) (some 58) rfl rfl (by kernel_rfl) (by kernel_rfl) (by kernel_rfl) (fun _ _ _ h => h) rfl (fun X hX => ?_) s4 ?_
  · exact run_load1 rfl rfl Tryd.isAgg3 ((TC.out X hX).2.2.2.2.2.2.2.2.1)
  simp only [Act.put, List.setIfInBounds_toArray, List.set_cons_zero, List.set_cons_succ]
  refine H_take (i := 40) (v := .pointer (some ⟨sb, 9, none⟩)) (some 60) rfl rfl (by kernel_rfl) (by kernel_rfl) (by kernel_rfl) (fun _ _ _ h => h) rfl (fun X hX => ?_) s4 ?_
  · simp [go_sem]
  simp only [Act.put, List.setIfInBounds_toArray, List.set_cons_zero, List.set_cons_succ]
  refine H_take (i := 41) (v := .pointer (some ⟨sb, 12, none⟩)) (some 61) rfl rfl (by kernel_rfl) (by kernel_rfl) (by kernel_rfl) (fun _ _ _ h => h) rfl (fun X hX => ?_) s4 ?_
  · simp [go_sem]
  simp only [Act.put, List.setIfInBounds_toArray, List.set_cons_zero, List.set_cons_succ]
  refine H_take (i := 42) (v := .int .i64 c3) (some 62) rfl rfl (by kernel_rfl) (by kernel_rfl) (by kernel_rfl) (fun _ _ _ h => h) rfl (fun X hX => ?_) s4 ?_
  · exact run_load1 rfl rfl Tryd.isAgg3 ((TC.out X hX).2.2.2.2.2.2.2.2.2.1)
  simp only [Act.put, List.setIfInBounds_toArray, List.set_cons_zero, List.set_cons_succ]
  refine H_take (i := 44) (v := .pointer (some ⟨sb, 9, none⟩)) (some 64) rfl rfl (by kernel_rfl) (by kernel_rfl) (by kernel_rfl) (fun _ _ _ h => h) rfl (fun X hX => ?_) s4 ?_
  · simp [go_sem]
  simp only [Act.put, List.setIfInBounds_toArray, List.set_cons_zero, List.set_cons_succ]
  refine H_take (i := 45) (v := .pointer (some ⟨sb, 13, none⟩)) (some 65) rfl rfl (by kernel_rfl) (by kernel_rfl) (by kernel_rfl) (fun _ _ _ h => h) rfl (fun X hX => ?_) s4 ?_
  · simp [go_sem]
  simp only [Act.put, List.setIfInBounds_toArray, List.set_cons_zero, List.set_cons_succ]
  refine H_take (i := 46) (v := .int .i64 c4) (some 66) rfl rfl (by kernel_rfl) (by kernel_rfl) (by kernel_rfl) (fun _ _ _ h => h) rfl (fun X hX => ?_) s4 ?_
  · exact run_load1 rfl rfl Tryd.isAgg3 ((TC.out X hX).2.2.2.2.2.2.2.2.2.2.1)
  simp only [Act.put, List.setIfInBounds_toArray, List.set_cons_zero, List.set_cons_succ]
  refine H_call (i := 2) (f := 21) (args := #[.string ⟨#[105, 100]⟩, .int .i64 id]) (some 22) rfl rfl (by kernel_rfl) rfl (by simp [go_sem]) ((refnum_any ⟨#[105, 100]⟩ id x4 HN.out.1).mono ?_)
  rintro e x5 ⟨rfl, b5⟩
  have s5 : x5.heap[sb]? = some (.cells C 26 (0, 0)) := (b5.block sb (blk_lt s4)).trans s4
  have H5 := hide (H4.out.trans (b5.mono H4.out.size))
  refine ⟨_, rfl, s5, ?_⟩
  clear H4 b5 s4
  simp only [Act.put, List.setIfInBounds_toArray, List.set_cons_zero, List.set_cons_succ]
  refine H_call (i := 8) (f := 22) (args := #[.int .i64 st]) (some 28) rfl rfl (by kernel_rfl) rfl (by simp [go_sem]) ((CW.out x5).mono ?_)
  rintro e w2 ⟨rfl, hw2⟩
  obtain rfl := hw2.symm
  refine ⟨_, rfl, s5, ?_⟩
  simp only [Act.put, List.setIfInBounds_toArray, List.set_cons_zero, List.set_cons_succ]
  refine H_take (i := 9) (v := .agg #[.string ⟨#[115, 116, 97, 116, 101]⟩, .string sw]) (some 29) rfl rfl (by kernel_rfl) (by kernel_rfl) (by kernel_rfl) (fun _ _ _ h => h) rfl (fun X hX => ?_) s5 ?_
  · simp [go_sem]
  simp only [Act.put, List.setIfInBounds_toArray, List.set_cons_zero, List.set_cons_succ]
  refine H_call (i := 12) (f := 21) (args := #[.string ⟨#[112, 114, 105]⟩, .int .i64 pr]) (some 32) rfl rfl (by kernel_rfl) rfl (by simp [go_sem]) ((refnum_any ⟨#[112, 114, 105]⟩ pr x5 HN.out.2.1).mono ?_)
  rintro e x6 ⟨rfl, b6⟩
  have s6 : x6.heap[sb]? = some (.cells C 26 (0, 0)) := (b6.block sb (blk_lt s5)).trans s5
  have H6 := hide (H5.out.trans (b6.mono H5.out.size))
  refine ⟨_, rfl, s6, ?_⟩
  clear H5 b6 s5
  simp only [Act.put, List.setIfInBounds_toArray, List.set_cons_zero, List.set_cons_succ]
  refine H_call (i := 16) (f := 19) (args := #[.int .i64 now, .int .i64 bo]) (some 36) rfl rfl (by kernel_rfl) rfl (by simp [go_sem]) ((CA.out x6).mono ?_)
  rintro e w2 ⟨rfl, hw2⟩
  obtain rfl := hw2.symm
  refine ⟨_, rfl, s6, ?_⟩
  simp only [Act.put, List.setIfInBounds_toArray, List.set_cons_zero, List.set_cons_succ]
  refine H_call (i := 17) (f := 21) (args := #[.string ⟨#[97, 103, 101]⟩, .int .i64 ag]) (some 37) rfl rfl (by kernel_rfl) rfl (by simp [go_sem]) ((refnum_any ⟨#[97, 103, 101]⟩ ag x6 (by rw [HAG.out]; exact lessI_64 _ _)).mono ?_)
  rintro e x7 ⟨rfl, b7⟩
  have s7 : x7.heap[sb]? = some (.cells C 26 (0, 0)) := (b7.block sb (blk_lt s6)).trans s6
  have H7 := hide (H6.out.trans (b7.mono H6.out.size))
  refine ⟨_, rfl, s7, ?_⟩
  clear H6 b7 s6
  simp only [Act.put, List.setIfInBounds_toArray, List.set_cons_zero, List.set_cons_succ]
  refine H_call (i := 20) (f := 21) (args := #[.string ⟨#[100, 101, 108, 97, 121]⟩, .int .i64 dl]) (some 40) rfl rfl (by kernel_rfl) rfl (by simp [go_sem]) ((refnum_any ⟨#[100, 101, 108, 97, 121]⟩ dl x7 HN.out.2.2.1).mono ?_)
  rintro e x8 ⟨rfl, b8⟩
  have s8 : x8.heap[sb]? = some (.cells C 26 (0, 0)) := (b8.block sb (blk_lt s7)).trans s7
  have H8 := hide (H7.out.trans (b8.mono H7.out.size))
  refine ⟨_, rfl, s8, ?_⟩
  clear H7 b8 s7
  simp only [Act.put, List.setIfInBounds_toArray, List.set_cons_zero, List.set_cons_succ]
  refine H_call (i := 23) (f := 21) (args := #[.string ⟨#[116, 116, 114]⟩, .int .i64 tr]) (some 43) rfl rfl (by kernel_rfl) rfl (by simp [go_sem]) ((refnum_any ⟨#[116, 116, 114]⟩ tr x8 HN.out.2.2.2.1).mono ?_)
  rintro e x9 ⟨rfl, b9⟩
  have s9 : x9.heap[sb]? = some (.cells C 26 (0, 0)) := (b9.block sb (blk_lt s8)).trans s8
  have H9 := hide (H8.out.trans (b9.mono H8.out.size))
  refine ⟨_, rfl, s9, ?_⟩
  clear H8 b9 s8
  simp only [Act.put, List.setIfInBounds_toArray, List.set_cons_zero, List.set_cons_succ]
  refine H_call (i := 25) (f := 21) (args := #[.string ⟨#[116, 105, 109, 101, 45, 108, 101, 102, 116]⟩, .int .i64 lf]) (some 45) rfl rfl (by kernel_rfl) rfl (by simp [go_sem]) ((refnum_any ⟨#[116, 105, 109, 101, 45, 108, 101, 102, 116]⟩ lf x9 (by rw [HLF.out]; exact tl_64 _ _ _)).mono ?_)
  rintro e x10 ⟨rfl, b10⟩
  have s10 : x10.heap[sb]? = some (.cells C 26 (0, 0)) := (b10.block sb (blk_lt s9)).trans s9
  have H10 := hide (H9.out.trans (b10.mono H9.out.size))
  refine ⟨_, rfl, s10, ?_⟩
  clear H9 b10 s9
  simp only [Act.put, List.setIfInBounds_toArray, List.set_cons_zero, List.set_cons_succ]
  refine H_call (i := 27) (f := 21) (args := #[.string ⟨#[102, 105, 108, 101]⟩, .int .i64 file]) (some 47) rfl rfl (by kernel_rfl) rfl (by simp [go_sem]) ((refnum_any ⟨#[102, 105, 108, 101]⟩ file x10 HN.out.2.2.2.2.2.2.2.2.2.2.2.2.2.2.1).mono ?_)
  rintro e x11 ⟨rfl, b11⟩
  have s11 : x11.heap[sb]? = some (.cells C 26 (0, 0)) := (b11.block sb (blk_lt s10)).trans s10
  have H11 := hide (H10.out.trans (b11.mono H10.out.size))
  refine ⟨_, rfl, s11, ?_⟩
  clear H10 b11 s10
  simp only [Act.put, List.setIfInBounds_toArray, List.set_cons_zero, List.set_cons_succ]
  refine H_call (i := 31) (f := 21) (args := #[.string ⟨#[114, 101, 115, 101, 114, 118, 101, 115]⟩, .int .i64 c0]) (some 51) rfl rfl (by kernel_rfl) rfl (by simp [go_sem]) ((refnum_any ⟨#[114, 101, 115, 101, 114, 118, 101, 115]⟩ c0 x11 HN.out.2.2.2.2.2.2.2.2.2.1).mono ?_)
  rintro e x12 ⟨rfl, b12⟩
  have s12 : x12.heap[sb]? = some (.cells C 26 (0, 0)) := (b12.block sb (blk_lt s11)).trans s11
  have H12 := hide (H11.out.trans (b12.mono H11.out.size))
  refine ⟨_, rfl, s12, ?_⟩
  clear H11 b12 s11
  simp only [Act.put, List.setIfInBounds_toArray, List.set_cons_zero, List.set_cons_succ]
  refine H_call (i := 35) (f := 21) (args := #[.string ⟨#[116, 105, 109, 101, 111, 117, 116, 115]⟩, .int .i64 c1]) (some 55) rfl rfl (by kernel_rfl) rfl (by simp [go_sem]) ((refnum_any ⟨#[116, 105, 109, 101, 111, 117, 116, 115]⟩ c1 x12 HN.out.2.2.2.2.2.2.2.2.2.2.1).mono ?_)
  rintro e x13 ⟨rfl, b13⟩
  have s13 : x13.heap[sb]? = some (.cells C 26 (0, 0)) := (b13.block sb (blk_lt s12)).trans s12
  have H13 := hide (H12.out.trans (b13.mono H12.out.size))
  refine ⟨_, rfl, s13, ?_⟩
  clear H12 b13 s12
  simp only [Act.put, List.setIfInBounds_toArray, List.set_cons_zero, List.set_cons_succ]
  refine H_call (i := 39) (f := 21) (args := #[.string ⟨#[114, 101, 108, 101, 97, 115, 101, 115]⟩, .int .i64 c2]) (some 59) rfl rfl (by kernel_rfl) rfl (by simp [go_sem]) ((refnum_any ⟨#[114, 101, 108, 101, 97, 115, 101, 115]⟩ c2 x13 HN.out.2.2.2.2.2.2.2.2.2.2.2.1).mono ?_)
  rintro e x14 ⟨rfl, b14⟩
  have s14 : x14.heap[sb]? = some (.cells C 26 (0, 0)) := (b14.block sb (blk_lt s13)).trans s13
  have H14 := hide (H13.out.trans (b14.mono H13.out.size))
  refine ⟨_, rfl, s14, ?_⟩
  clear H13 b14 s13
  simp only [Act.put, List.setIfInBounds_toArray, List.set_cons_zero, List.set_cons_succ]
  refine H_call (i := 43) (f := 21) (args := #[.string ⟨#[98, 117, 114, 105, 101, 115]⟩, .int .i64 c3]) (some 63) rfl rfl (by kernel_rfl) rfl (by simp [go_sem]) ((refnum_any ⟨#[98, 117, 114, 105, 101, 115]⟩ c3 x14 HN.out.2.2.2.2.2.2.2.2.2.2.2.2.1).mono ?_)
  rintro e x15 ⟨rfl, b15⟩
  have s15 : x15.heap[sb]? = some (.cells C 26 (0, 0)) := (b15.block sb (blk_lt s14)).trans s14
  have H15 := hide (H14.out.trans (b15.mono H14.out.size))
  refine ⟨_, rfl, s15, ?_⟩
  clear H14 b15 s14
  simp only [Act.put, List.setIfInBounds_toArray, List.set_cons_zero, List.set_cons_succ]
  refine H_call (i := 47) (f := 21) (args := #[.string ⟨#[107, 105, 99, 107, 115]⟩, .int .i64 c4]) (some 67) rfl rfl (by kernel_rfl) rfl (by simp [go_sem]) ((refnum_any ⟨#[107, 105, 99, 107, 115]⟩ c4 x15 HN.out.2.2.2.2.2.2.2.2.2.2.2.2.2.1).mono ?_)
  rintro e x16 ⟨rfl, b16⟩
  have s16 : x16.heap[sb]? = some (.cells C 26 (0, 0)) := (b16.block sb (blk_lt s15)).trans s15
  have H16 := hide (H15.out.trans (b16.mono H15.out.size))
  refine ⟨_, rfl, s16, ?_⟩
  clear H15 b16 s15
  simp only [Act.put, List.setIfInBounds_toArray, List.set_cons_zero, List.set_cons_succ]
  have R17 := hide (pairs_new x16 [(jId, prS id), (jTube, nm), (jState, sw), (jPri, prS pr), (jAge, prS ag), (jDelay, prS dl), (jTtr, prS tr), (jLeft, prS lf), (jFile, prS file), (jRes, prS c0), (jTim, prS c1), (jRel, prS c2), (jBur, prS c3), (jKic, prS c4)] #[.string ⟨#[105, 100]⟩, .string (prS id), .string ⟨#[116, 117, 98, 101]⟩, .string nm, .string ⟨#[115, 116, 97, 116, 101]⟩, .string sw, .string ⟨#[112, 114, 105]⟩, .string (prS pr), .string ⟨#[97, 103, 101]⟩, .string (prS ag), .string ⟨#[100, 101, 108, 97, 121]⟩, .string (prS dl), .string ⟨#[116, 116, 114]⟩, .string (prS tr), .string ⟨#[116, 105, 109, 101, 45, 108, 101, 102, 116]⟩, .string (prS lf), .string ⟨#[102, 105, 108, 101]⟩, .string (prS file), .string ⟨#[114, 101, 115, 101, 114, 118, 101, 115]⟩, .string (prS c0), .string ⟨#[116, 105, 109, 101, 111, 117, 116, 115]⟩, .string (prS c1), .string ⟨#[114, 101, 108, 101, 97, 115, 101, 115]⟩, .string (prS c2), .string ⟨#[98, 117, 114, 105, 101, 115]⟩, .string (prS c3), .string ⟨#[107, 105, 99, 107, 115]⟩, .string (prS c4)] rfl (by show (14 : Nat) ≤ 1000; decide))
  obtain ⟨x17, hx17⟩ : ∃ x17, x17 = x16.alloc (.cells #[.string ⟨#[105, 100]⟩, .string (prS id), .string ⟨#[116, 117, 98, 101]⟩, .string nm, .string ⟨#[115, 116, 97, 116, 101]⟩, .string sw, .string ⟨#[112, 114, 105]⟩, .string (prS pr), .string ⟨#[97, 103, 101]⟩, .string (prS ag), .string ⟨#[100, 101, 108, 97, 121]⟩, .string (prS dl), .string ⟨#[116, 116, 114]⟩, .string (prS tr), .string ⟨#[116, 105, 109, 101, 45, 108, 101, 102, 116]⟩, .string (prS lf), .string ⟨#[102, 105, 108, 101]⟩, .string (prS file), .string ⟨#[114, 101, 115, 101, 114, 118, 101, 115]⟩, .string (prS c0), .string ⟨#[116, 105, 109, 101, 111, 117, 116, 115]⟩, .string (prS c1), .string ⟨#[114, 101, 108, 101, 97, 115, 101, 115]⟩, .string (prS c2), .string ⟨#[98, 117, 114, 105, 101, 115]⟩, .string (prS c3), .string ⟨#[107, 105, 99, 107, 115]⟩, .string (prS c4)] 52) := ⟨_, rfl⟩
  refine H_value (i := 48) (v := .slice (some ⟨x16.heap.size, 0, none⟩) 14 14) (w' := x17) (some 68) rfl rfl (by kernel_rfl) rfl (by rw [hx17]; simp [go_sem]) ?_ ?_
  · rw [hx17]; exact ((((Below.refl _ x16).alloc (Nat.le_refl _) _)).block sb (blk_lt s16)).trans s16
  have b17 : Below x16.heap.size x16 x17 := by rw [hx17]; exact (Below.refl _ x16).alloc (Nat.le_refl _) _
  rw [← hx17] at R17
  have s17 : x17.heap[sb]? = some (.cells C 26 (0, 0)) := (b17.block sb (blk_lt s16)).trans s16
  have H17 := hide (H16.out.trans (b17.mono H16.out.size))
  clear H16 b17 s16 hx17
  simp only [Act.put, List.setIfInBounds_toArray, List.set_cons_zero, List.set_cons_succ]
  rw [HT.out] at HBD HDD
  refine H_call (i := 49) (f := 20) (args := #[.slice (some ⟨x16.heap.size, 0, none⟩) 14 14]) (some 69) rfl rfl (by kernel_rfl) rfl (by simp [go_sem]) ((reftold_any (some ⟨x16.heap.size, 0, none⟩) 14 [(jId, prS id), (jTube, nm), (jState, sw), (jPri, prS pr), (jAge, prS ag), (jDelay, prS dl), (jTtr, prS tr), (jLeft, prS lf), (jFile, prS file), (jRes, prS c0), (jTim, prS c1), (jRel, prS c2), (jBur, prS c3), (jKic, prS c4)] x17 R17.out HBD.out).mono ?_)
  rintro e x18 ⟨a14, c14, rfl, i14, b14⟩
  rw [← HDD.out] at i14 ⊢
  have s18 : x18.heap[sb]? = some (.cells C 26 (0, 0)) := (b14.block sb (blk_lt s17)).trans s17
  have H14 := hide (And.intro i14 b14)
  refine ⟨_, rfl, s18, ?_⟩
  clear i14 b14 s17
  simp only [Act.put, List.setIfInBounds_toArray, List.set_cons_zero, List.set_cons_succ]
  refine H_take (i := 50) (v := .slice a14 DD.length c14) (some 6) rfl rfl (by kernel_rfl) (by kernel_rfl) (by kernel_rfl) (fun _ _ _ h => h) rfl (fun X hX => ?_) s18 ?_
  · simp [go_sem]
  simp only [Act.put, List.setIfInBounds_toArray, List.set_cons_zero, List.set_cons_succ]
  refine wpAnyH_done (by kernel_rfl) ?_ _
  clear s18
  go_wp2_with fail
  go_ret
  exact ⟨_, _, rfl, ⟨H14.out.1.1, fun b' o h => Nat.le_trans H17.out.size (H14.out.1.2 b' o h)⟩, H17.out.trans (H14.out.2.mono H17.out.size)⟩
end Go.Proofs.YthapbnlcodkalaaDoor
