/-
  Layer 13: the document's Tube, whole.
-/
import Derived.Test.YthapbnlcodkalaaDoorRefPairs
import Derived.Test.YthapbnlcodkalaaDoorHand
namespace Go.Proofs.YthapbnlcodkalaaDoor
open Go.RowKit Go.Sort

theorem H_pairs {ops : Array Oper} {Q : Exit → Act → World → Prop} {md : Region.Mode} {S : World → Prop} {i : Nat} {o : Oper} {fuel : Nat} {listed : Array Bool} {a : Act} {w : World} (d : Option Tmp) (hi : ops[i]? = some o) (hd : o.dst = d) (hr : Region.ready md ops listed = [i])
    (hg : Region.wanted o (yielded ops a.tmps) = true) (s x : Operand)
    (ho : o.op = .call { callee := .builtin .append, args := #[s, x], argTypes := #[46, 46] }) (B B2 : Nat) (v : Value) (ps qs : List BP) (ad : Option Addr) (c : Nat) (hs : a.eval s = v) (hx : a.eval x = .slice ad qs.length c)
    (hown : w.ownsRow B 52 2 v ps.length (cellsP ps)) (hsrc : w.ownsRow B2 52 2 (.slice ad qs.length c) qs.length (cellsP qs)) (hl : ps.length ≤ 1000) (hq : qs.length ≤ 1000) (hB : B ≤ w.heap.size)
    (h : ∀ v' w', w'.ownsRow B 52 2 v' (ps ++ qs).length (cellsP (ps ++ qs)) → w.grownBy w' v.ownBlock → S w' ∧ wpAnyH Tryd.prog md ops Q S fuel (listed.setIfInBounds i true) (a.put d v') w') : wpAnyH Tryd.prog md ops Q S (fuel + 1) listed a w := by
  obtain ⟨v', w', hq1, h2, h3⟩ := run_pairs w B B2 o.type v ps qs ad c hown hsrc hl hq hB
  obtain ⟨h4, h5⟩ := h v' w' h2 h3
  refine H_value (v := v') d hi hd hr hg ?_ h4 h5
  unfold execOp
  simp only [ho, resolve, invoke, builtin, Sem.run_bind, Sem.run_pure, Result.andThen_ok, List.map_toArray, List.map_cons, List.map_nil, hs, hx, hq1]
set_option maxHeartbeats 16000000 in
set_option maxRecDepth 1000000 in
theorem refTube_zero (nm : ByteArray) (r d rs b u us wa wt tt de pa pz ul now : Int) (w : World) (hpz : pz = 0) (hn : I64 r ∧ I64 d ∧ I64 rs ∧ I64 b ∧ I64 u ∧ I64 us ∧ I64 wa ∧ I64 wt ∧ I64 tt ∧ I64 de ∧ I64 pa ∧ I64 pz ∧ I64 ul) (hb : (dictL ((tubeP nm r d rs b u us wa wt tt de pa pz ul now).map un)).length < 140737488355328) :
    Calls Tryd.prog 12 #[.agg #[.string nm, .int .i64 r, .int .i64 d, .int .i64 rs, .int .i64 b, .int .i64 u, .int .i64 us, .int .i64 wa, .int .i64 wt, .int .i64 tt, .int .i64 de, .int .i64 pa, .int .i64 pz, .int .i64 ul], .int .i64 now] w fun e w' => ∃ a2 c2, e = .returned (.slice a2 (if dictE ((tubeP nm r d rs b u us wa wt tt de pa pz ul now).map un) = 0 then dictL ((tubeP nm r d rs b u us wa wt tt de pa pz ul now).map un) else []).length c2) ∧ NewB w w' a2 c2 (if dictE ((tubeP nm r d rs b u us wa wt tt de pa pz ul now).map un) = 0 then dictL ((tubeP nm r d rs b u us wa wt tt de pa pz ul now).map un) else []) ∧ Below w.heap.size w w' := by
  obtain ⟨C, hC⟩ : ∃ C : Array Value, C = #[.string nm, .int .i64 r, .int .i64 d, .int .i64 rs, .int .i64 b, .int .i64 u, .int .i64 us, .int .i64 wa, .int .i64 wt, .int .i64 tt, .int .i64 de, .int .i64 pa, .int .i64 pz, .int .i64 ul] := ⟨_, rfl⟩
  obtain ⟨w1, hw1⟩ : ∃ w1, w1 = w.alloc (.cells C 38) := ⟨_, rfl⟩
  obtain ⟨sb, hsb⟩ : ∃ sb, sb = w.heap.size := ⟨_, rfl⟩
  have B1 : Hid (Below w.heap.size w w1 ∧ w1.heap[sb]? = some (.cells C 38 (0, 0)) ∧ sb < w1.heap.size) := by
    rw [hw1, hsb]
    exact ⟨(Below.refl _ w).alloc (Nat.le_refl _) _, heap_alloc_new w _, by simp⟩
  have HC : Hid (C = #[.string nm, .int .i64 r, .int .i64 d, .int .i64 rs, .int .i64 b, .int .i64 u, .int .i64 us, .int .i64 wa, .int .i64 wt, .int .i64 tt, .int .i64 de, .int .i64 pa, .int .i64 pz, .int .i64 ul]) := hC
  have HN := hide hn
  have HBD := hide hb
  obtain ⟨lf, hlf⟩ : ∃ lf, lf = leftI pz ul now := ⟨_, rfl⟩
  have HLF := hide hlf
  have HLE : Hid (lf = 0) := by show _ = _; rw [hlf]; unfold leftI; exact if_pos hpz
  obtain ⟨DD, hDD⟩ : ∃ DD, DD = (if dictE ((tubeP nm r d rs b u us wa wt tt de pa pz ul now).map un) = 0 then dictL ((tubeP nm r d rs b u us wa wt tt de pa pz ul now).map un) else []) := ⟨_, rfl⟩
  rw [← hDD]
  have HDD := hide hDD
  have HW1 := hide (And.intro hw1 hsb)
  have HT : Hid (tubeP nm r d rs b u us wa wt tt de pa pz ul now = ([(kName, nm)] ++ sumsP r d rs b u) ++ [(kTotal, prS tt), (kUsing, prS us), (kWaiting, prS wt), (kWatching, prS wa), (kPause, prS pz), (kDelete, prS de), (kPauses, prS pa), (kLeft, prS lf)]) := by
    show _ = _
    rw [hlf]
    rfl
  rw [← hC]
  have x0 : w1.cell? ⟨sb, 0, none⟩ = some (.string nm) := by rw [cell_of_row w1 sb 0 C _ (0, 0) B1.out.2.1, hC]; rfl
  have x1 : w1.cell? ⟨sb, 1, none⟩ = some (.int .i64 r) := by rw [cell_of_row w1 sb 1 C _ (0, 0) B1.out.2.1, hC]; rfl
  have x2 : w1.cell? ⟨sb, 2, none⟩ = some (.int .i64 d) := by rw [cell_of_row w1 sb 2 C _ (0, 0) B1.out.2.1, hC]; rfl
  have x3 : w1.cell? ⟨sb, 3, none⟩ = some (.int .i64 rs) := by rw [cell_of_row w1 sb 3 C _ (0, 0) B1.out.2.1, hC]; rfl
  have x4 : w1.cell? ⟨sb, 4, none⟩ = some (.int .i64 b) := by rw [cell_of_row w1 sb 4 C _ (0, 0) B1.out.2.1, hC]; rfl
  have x5 : w1.cell? ⟨sb, 5, none⟩ = some (.int .i64 u) := by rw [cell_of_row w1 sb 5 C _ (0, 0) B1.out.2.1, hC]; rfl
  have x6 : w1.cell? ⟨sb, 6, none⟩ = some (.int .i64 us) := by rw [cell_of_row w1 sb 6 C _ (0, 0) B1.out.2.1, hC]; rfl
  have x7 : w1.cell? ⟨sb, 7, none⟩ = some (.int .i64 wa) := by rw [cell_of_row w1 sb 7 C _ (0, 0) B1.out.2.1, hC]; rfl
  have x8 : w1.cell? ⟨sb, 8, none⟩ = some (.int .i64 wt) := by rw [cell_of_row w1 sb 8 C _ (0, 0) B1.out.2.1, hC]; rfl
  have x9 : w1.cell? ⟨sb, 9, none⟩ = some (.int .i64 tt) := by rw [cell_of_row w1 sb 9 C _ (0, 0) B1.out.2.1, hC]; rfl
  have x10 : w1.cell? ⟨sb, 10, none⟩ = some (.int .i64 de) := by rw [cell_of_row w1 sb 10 C _ (0, 0) B1.out.2.1, hC]; rfl
  have x11 : w1.cell? ⟨sb, 11, none⟩ = some (.int .i64 pa) := by rw [cell_of_row w1 sb 11 C _ (0, 0) B1.out.2.1, hC]; rfl
  have x12 : w1.cell? ⟨sb, 12, none⟩ = some (.int .i64 pz) := by rw [cell_of_row w1 sb 12 C _ (0, 0) B1.out.2.1, hC]; rfl
  have x13 : w1.cell? ⟨sb, 13, none⟩ = some (.int .i64 ul) := by rw [cell_of_row w1 sb 13 C _ (0, 0) B1.out.2.1, hC]; rfl
  have hpb : (pz != 0) = false := by simp [hpz]
  have CS : Hid (∀ W, Calls Tryd.prog 28 #[.agg #[.int .i64 r, .int .i64 d, .int .i64 rs, .int .i64 b, .int .i64 u]] W fun e w' => ∃ a, e = .returned (.slice a 5 5) ∧ w'.ownsRow W.heap.size 52 2 (.slice a 5 5) 5 (cellsP (sumsP r d rs b u)) ∧ Below W.heap.size W w') := fun W => refsums_any r d rs b u W HN.out.1 HN.out.2.1 HN.out.2.2.1 HN.out.2.2.2.1 HN.out.2.2.2.2.1
  obtain ⟨w2, hw2⟩ : ∃ w2, w2 = w1.alloc (.cells #[.string kName, .string nm] 52) := ⟨_, rfl⟩
  have O2 : Hid (w2.ownsRow w1.heap.size 52 2 (.slice (some ⟨w1.heap.size, 0, none⟩) 1 1) [(kName, nm)].length (cellsP [(kName, nm)]) ∧ Below w1.heap.size w1 w2) := by
    rw [hw2]
    exact ⟨⟨rfl, .inr ⟨w1.heap.size, 1, _, rfl, Nat.le_refl _, heap_alloc_new w1 _, Nat.le_refl _, by unfold maxLen; omega, rfl, rfl⟩⟩, (Below.refl _ w1).alloc (Nat.le_refl _) _⟩
  have HW2 := hide hw2
  clear hC hw1 hsb hn hb hlf hDD hw2 hpz
  go_enter Tryd.func12, Tryd.ntmps12
  go_upto_region 1 with fail
  rw [← HW1.out.1, ← HW1.out.2]
  clear HW1
  go_upto_region 4 with fail
  have hl0 := HLE.out
  subst hl0
  go_upto_region 5 with fail
  rw [show (w1.alloc (.cells #[.string ⟨#[110, 97, 109, 101]⟩, .string nm] 52)) = w2 from HW2.out.symm]
  clear HW2
  have y0 := below_cell O2.out.2 x0
  have y1 := below_cell O2.out.2 x1
  have y2 := below_cell O2.out.2 x2
  have y3 := below_cell O2.out.2 x3
  have y4 := below_cell O2.out.2 x4
  have y5 := below_cell O2.out.2 x5
  have y6 := below_cell O2.out.2 x6
  have y7 := below_cell O2.out.2 x7
  have y8 := below_cell O2.out.2 x8
  have y9 := below_cell O2.out.2 x9
  have y10 := below_cell O2.out.2 x10
  have y11 := below_cell O2.out.2 x11
  have y12 := below_cell O2.out.2 x12
  have y13 := below_cell O2.out.2 x13
  clear x0 x1 x2 x3 x4 x5 x6 x7 x8 x9 x10 x11 x12 x13
  go_upto_region 6 with (first
    | (go_at_call 28; refine (CS.out _).mono ?_; rintro e w3 ⟨a3, rfl, o3, b3⟩; have O3 := hide (And.intro o3 b3); clear o3 b3)
    | (at_builtin; refine wpList_pairs rfl (.tmp 18) (.tmp 21) rfl w1.heap.size w2.heap.size (.slice (some ⟨w1.heap.size, 0, none⟩) 1 1) [(kName, nm)] (sumsP r d rs b u) a3 5 (by rfl) (by rfl) (rowG_below O2.out.1 O3.out.2) O3.out.1 (by simp) (by simp [sumsP]) (Nat.le_trans O2.out.2.size O3.out.2.size) ?_; intro v4 w4 o4 g4
       obtain ⟨a4, c4, rfl⟩ := rowG_shape o4
       have b4 : Below w1.heap.size w1 w4 := (O2.out.2.trans (O3.out.2.mono O2.out.2.size)).grown g4 (Nat.le_trans O2.out.2.size O3.out.2.size) (fun j hj => by cases hj; exact Nat.le_refl _)
       have O4 := hide (And.intro o4 b4)
       clear o4 g4 b4))
  clear y0 y1 y2 y3 y4 y5 y6 y7 y8 y9 y10 y11 y12 y13
  have TC : Hid (∀ X : World, X.heap[sb]? = some (.cells C 38 (0, 0)) → X.cell? ⟨sb, 6, none⟩ = some (.int .i64 us) ∧ X.cell? ⟨sb, 7, none⟩ = some (.int .i64 wa) ∧ X.cell? ⟨sb, 8, none⟩ = some (.int .i64 wt) ∧ X.cell? ⟨sb, 9, none⟩ = some (.int .i64 tt) ∧ X.cell? ⟨sb, 10, none⟩ = some (.int .i64 de) ∧ X.cell? ⟨sb, 11, none⟩ = some (.int .i64 pa) ∧ X.cell? ⟨sb, 12, none⟩ = some (.int .i64 pz)) := fun X hX => tube_cells nm r d rs b u us wa wt tt de pa pz ul X sb C hX HC.out
  have s4 : w4.drew.heap[sb]? = some (.cells C 38 (0, 0)) := (O4.out.2.block sb B1.out.2.2).trans B1.out.2.1
  refine wp_region_held_drew (S := fun X => X.heap[sb]? = some (.cells C 38 (0, 0))) (by kernel_rfl) s4 (fun _ => ?_)
  have H4 : Hid (w4.drew.ownsRow w1.heap.size 52 2 (.slice a4 ([(kName, nm)] ++ sumsP r d rs b u).length c4) ([(kName, nm)] ++ sumsP r d rs b u).length (cellsP ([(kName, nm)] ++ sumsP r d rs b u)) ∧ Below w1.heap.size w1 w4.drew) := ⟨rowG_below O4.out.1 (Below.refl _ w4).drew, O4.out.2.drew⟩
  obtain ⟨x4, hx4⟩ : ∃ x4, x4 = w4.drew := ⟨_, rfl⟩
  rw [← hx4] at s4 H4 ⊢
  clear hx4
  refine H_take (i := 0) (v := .slice a4 ([(kName, nm)] ++ sumsP r d rs b u).length c4) (some 23) rfl rfl (by kernel_rfl) (by kernel_rfl) (by kernel_rfl) (fun _ _ _ h => h) rfl (fun X hX => ?_) s4 ?_
  · simp [go_sem]
  simp only [Act.put, List.setIfInBounds_toArray, List.set_cons_zero, List.set_cons_succ]
  refine H_take (i := 1) (v := .pointer (some ⟨sb, 9, none⟩)) (some 24) rfl rfl (by kernel_rfl) (by kernel_rfl) (by kernel_rfl) (fun _ _ _ h => h) rfl (fun X hX => ?_) s4 ?_
  · simp [go_sem]
  simp only [Act.put, List.setIfInBounds_toArray, List.set_cons_zero, List.set_cons_succ]
  refine H_take (i := 2) (v := .int .i64 tt) (some 25) rfl rfl (by kernel_rfl) (by kernel_rfl) (by kernel_rfl) (fun _ _ _ h => h) rfl (fun X hX => ?_) s4 ?_
  · exact run_load1 rfl rfl Tryd.isAgg3 ((TC.out X hX).2.2.2.1)
  simp only [Act.put, List.setIfInBounds_toArray, List.set_cons_zero, List.set_cons_succ]
  refine H_take (i := 4) (v := .pointer (some ⟨sb, 6, none⟩)) (some 27) rfl rfl (by kernel_rfl) (by kernel_rfl) (by kernel_rfl) (fun _ _ _ h => h) rfl (fun X hX => ?_) s4 ?_
  · simp [go_sem]
  simp only [Act.put, List.setIfInBounds_toArray, List.set_cons_zero, List.set_cons_succ]
  refine H_take (i := 5) (v := .int .i64 us) (some 28) rfl rfl (by kernel_rfl) (by kernel_rfl) (by kernel_rfl) (fun _ _ _ h => h) rfl (fun X hX => ?_) s4 ?_
  · exact run_load1 rfl rfl Tryd.isAgg3 ((TC.out X hX).1)
  simp only [Act.put, List.setIfInBounds_toArray, List.set_cons_zero, List.set_cons_succ]
  refine H_take (i := 7) (v := .pointer (some ⟨sb, 8, none⟩)) (some 30) rfl rfl (by kernel_rfl) (by kernel_rfl) (by kernel_rfl) (fun _ _ _ h => h) rfl (fun X hX => ?_) s4 ?_
  · simp [go_sem]
  simp only [Act.put, List.setIfInBounds_toArray, List.set_cons_zero, List.set_cons_succ]
  refine H_take (i := 8) (v := .int .i64 wt) (some 31) rfl rfl (by kernel_rfl) (by kernel_rfl) (by kernel_rfl) (fun _ _ _ h => h) rfl (fun X hX => ?_) s4 ?_
  · exact run_load1 rfl rfl Tryd.isAgg3 ((TC.out X hX).2.2.1)
  simp only [Act.put, List.setIfInBounds_toArray, List.set_cons_zero, List.set_cons_succ]
  refine H_take (i := 10) (v := .pointer (some ⟨sb, 7, none⟩)) (some 33) rfl rfl (by kernel_rfl) (by kernel_rfl) (by kernel_rfl) (fun _ _ _ h => h) rfl (fun X hX => ?_) s4 ?_
  · simp [go_sem]
  simp only [Act.put, List.setIfInBounds_toArray, List.set_cons_zero, List.set_cons_succ]
  refine H_take (i := 11) (v := .int .i64 wa) (some 34) rfl rfl (by kernel_rfl) (by kernel_rfl) (by kernel_rfl) (fun _ _ _ h => h) rfl (fun X hX => ?_) s4 ?_
  · exact run_load1 rfl rfl Tryd.isAgg3 ((TC.out X hX).2.1)
  simp only [Act.put, List.setIfInBounds_toArray, List.set_cons_zero, List.set_cons_succ]
  refine H_take (i := 13) (v := .pointer (some ⟨sb, 12, none⟩)) (some 36) rfl rfl (by kernel_rfl) (by kernel_rfl) (by kernel_rfl) (fun _ _ _ h => h) rfl (fun X hX => ?_) s4 ?_
  · simp [go_sem]
  simp only [Act.put, List.setIfInBounds_toArray, List.set_cons_zero, List.set_cons_succ]
  refine H_take (i := 14) (v := .int .i64 pz) (some 37) rfl rfl (by kernel_rfl) (by kernel_rfl) (by kernel_rfl) (fun _ _ _ h => h) rfl (fun X hX => ?_) s4 ?_
  · exact run_load1 rfl rfl Tryd.isAgg3 ((TC.out X hX).2.2.2.2.2.2)
  simp only [Act.put, List.setIfInBounds_toArray, List.set_cons_zero, List.set_cons_succ]
  refine H_take (i := 16) (v := .pointer (some ⟨sb, 10, none⟩)) (some 39) rfl rfl (by kernel_rfl) (by kernel_rfl) (by kernel_rfl) (fun _ _ _ h => h) rfl (fun X hX => ?_) s4 ?_
  · simp [go_sem]
  simp only [Act.put, List.setIfInBounds_toArray, List.set_cons_zero, List.set_cons_succ]
  refine H_take (i := 17) (v := .int .i64 de) (some 40) rfl rfl (by kernel_rfl) (by kernel_rfl) (by kernel_rfl) (fun _ _ _ h => h) rfl (fun X hX => ?_) s4 ?_
  · exact run_load1 rfl rfl Tryd.isAgg3 ((TC.out X hX).2.2.2.2.1)
  simp only [Act.put, List.setIfInBounds_toArray, List.set_cons_zero, List.set_cons_succ]
  refine H_take (i := 19) (v := .pointer (some ⟨sb, 11, none⟩)) (some 42) rfl rfl (by kernel_rfl) (by kernel_rfl) (by kernel_rfl) (fun _ _ _ h => h) rfl (fun X hX => ?_) s4 ?_
  · simp [go_sem]
  simp only [Act.put, List.setIfInBounds_toArray, List.set_cons_zero, List.set_cons_succ]
  refine H_take (i := 20) (v := .int .i64 pa) (some 43) rfl rfl (by kernel_rfl) (by kernel_rfl) (by kernel_rfl) (fun _ _ _ h => h) rfl (fun X hX => ?_) s4 ?_
  · exact run_load1 rfl rfl Tryd.isAgg3 ((TC.out X hX).2.2.2.2.2.1)
  simp only [Act.put, List.setIfInBounds_toArray, List.set_cons_zero, List.set_cons_succ]
  refine H_take (i := 22) (v := .int .i64 0) (some 45) rfl rfl (by kernel_rfl) (by kernel_rfl) (by kernel_rfl) (fun _ _ _ h => h) rfl (fun X hX => ?_) s4 ?_
  · simp [go_sem]
  simp only [Act.put, List.setIfInBounds_toArray, List.set_cons_zero, List.set_cons_succ]
  refine H_call (i := 3) (f := 21) (args := #[.string ⟨#[116, 111, 116, 97, 108, 45, 106, 111, 98, 115]⟩, .int .i64 tt]) (some 26) rfl rfl (by kernel_rfl) rfl (by simp [go_sem]) ((refnum_any ⟨#[116, 111, 116, 97, 108, 45, 106, 111, 98, 115]⟩ tt x4 HN.out.2.2.2.2.2.2.2.2.1).mono ?_)
  rintro e x5 ⟨rfl, b5⟩
  have s5 : x5.heap[sb]? = some (.cells C 38 (0, 0)) := (b5.block sb (blk_lt s4)).trans s4
  have H5 := hide (And.intro (rowG_below H4.out.1 b5) (H4.out.2.trans (b5.mono H4.out.2.size)))
  refine ⟨_, rfl, s5, ?_⟩
  clear H4 b5 s4
  simp only [Act.put, List.setIfInBounds_toArray, List.set_cons_zero, List.set_cons_succ]
  refine H_call (i := 6) (f := 21) (args := #[.string ⟨#[99, 117, 114, 114, 101, 110, 116, 45, 117, 115, 105, 110, 103]⟩, .int .i64 us]) (some 29) rfl rfl (by kernel_rfl) rfl (by simp [go_sem]) ((refnum_any ⟨#[99, 117, 114, 114, 101, 110, 116, 45, 117, 115, 105, 110, 103]⟩ us x5 HN.out.2.2.2.2.2.1).mono ?_)
  rintro e x6 ⟨rfl, b6⟩
  have s6 : x6.heap[sb]? = some (.cells C 38 (0, 0)) := (b6.block sb (blk_lt s5)).trans s5
  have H6 := hide (And.intro (rowG_below H5.out.1 b6) (H5.out.2.trans (b6.mono H5.out.2.size)))
  refine ⟨_, rfl, s6, ?_⟩
  clear H5 b6 s5
  simp only [Act.put, List.setIfInBounds_toArray, List.set_cons_zero, List.set_cons_succ]
  refine H_call (i := 9) (f := 21) (args := #[.string ⟨#[99, 117, 114, 114, 101, 110, 116, 45, 119, 97, 105, 116, 105, 110, 103]⟩, .int .i64 wt]) (some 32) rfl rfl (by kernel_rfl) rfl (by simp [go_sem]) ((refnum_any ⟨#[99, 117, 114, 114, 101, 110, 116, 45, 119, 97, 105, 116, 105, 110, 103]⟩ wt x6 HN.out.2.2.2.2.2.2.2.1).mono ?_)
  rintro e x7 ⟨rfl, b7⟩
  have s7 : x7.heap[sb]? = some (.cells C 38 (0, 0)) := (b7.block sb (blk_lt s6)).trans s6
  have H7 := hide (And.intro (rowG_below H6.out.1 b7) (H6.out.2.trans (b7.mono H6.out.2.size)))
  refine ⟨_, rfl, s7, ?_⟩
  clear H6 b7 s6
  simp only [Act.put, List.setIfInBounds_toArray, List.set_cons_zero, List.set_cons_succ]
  refine H_call (i := 12) (f := 21) (args := #[.string ⟨#[99, 117, 114, 114, 101, 110, 116, 45, 119, 97, 116, 99, 104, 105, 110, 103]⟩, .int .i64 wa]) (some 35) rfl rfl (by kernel_rfl) rfl (by simp [go_sem]) ((refnum_any ⟨#[99, 117, 114, 114, 101, 110, 116, 45, 119, 97, 116, 99, 104, 105, 110, 103]⟩ wa x7 HN.out.2.2.2.2.2.2.1).mono ?_)
  rintro e x8 ⟨rfl, b8⟩
  have s8 : x8.heap[sb]? = some (.cells C 38 (0, 0)) := (b8.block sb (blk_lt s7)).trans s7
  have H8 := hide (And.intro (rowG_below H7.out.1 b8) (H7.out.2.trans (b8.mono H7.out.2.size)))
  refine ⟨_, rfl, s8, ?_⟩
  clear H7 b8 s7
  simp only [Act.put, List.setIfInBounds_toArray, List.set_cons_zero, List.set_cons_succ]
  refine H_call (i := 15) (f := 21) (args := #[.string ⟨#[112, 97, 117, 115, 101]⟩, .int .i64 pz]) (some 38) rfl rfl (by kernel_rfl) rfl (by simp [go_sem]) ((refnum_any ⟨#[112, 97, 117, 115, 101]⟩ pz x8 HN.out.2.2.2.2.2.2.2.2.2.2.2.1).mono ?_)
  rintro e x9 ⟨rfl, b9⟩
  have s9 : x9.heap[sb]? = some (.cells C 38 (0, 0)) := (b9.block sb (blk_lt s8)).trans s8
  have H9 := hide (And.intro (rowG_below H8.out.1 b9) (H8.out.2.trans (b9.mono H8.out.2.size)))
  refine ⟨_, rfl, s9, ?_⟩
  clear H8 b9 s8
  simp only [Act.put, List.setIfInBounds_toArray, List.set_cons_zero, List.set_cons_succ]
  refine H_call (i := 18) (f := 21) (args := #[.string ⟨#[99, 109, 100, 45, 100, 101, 108, 101, 116, 101]⟩, .int .i64 de]) (some 41) rfl rfl (by kernel_rfl) rfl (by simp [go_sem]) ((refnum_any ⟨#[99, 109, 100, 45, 100, 101, 108, 101, 116, 101]⟩ de x9 HN.out.2.2.2.2.2.2.2.2.2.1).mono ?_)
  rintro e x10 ⟨rfl, b10⟩
  have s10 : x10.heap[sb]? = some (.cells C 38 (0, 0)) := (b10.block sb (blk_lt s9)).trans s9
  have H10 := hide (And.intro (rowG_below H9.out.1 b10) (H9.out.2.trans (b10.mono H9.out.2.size)))
  refine ⟨_, rfl, s10, ?_⟩
  clear H9 b10 s9
  simp only [Act.put, List.setIfInBounds_toArray, List.set_cons_zero, List.set_cons_succ]
  refine H_call (i := 21) (f := 21) (args := #[.string ⟨#[99, 109, 100, 45, 112, 97, 117, 115, 101, 45, 116, 117, 98, 101]⟩, .int .i64 pa]) (some 44) rfl rfl (by kernel_rfl) rfl (by simp [go_sem]) ((refnum_any ⟨#[99, 109, 100, 45, 112, 97, 117, 115, 101, 45, 116, 117, 98, 101]⟩ pa x10 HN.out.2.2.2.2.2.2.2.2.2.2.1).mono ?_)
  rintro e x11 ⟨rfl, b11⟩
  have s11 : x11.heap[sb]? = some (.cells C 38 (0, 0)) := (b11.block sb (blk_lt s10)).trans s10
  have H11 := hide (And.intro (rowG_below H10.out.1 b11) (H10.out.2.trans (b11.mono H10.out.2.size)))
  refine ⟨_, rfl, s11, ?_⟩
  clear H10 b11 s10
  simp only [Act.put, List.setIfInBounds_toArray, List.set_cons_zero, List.set_cons_succ]
  refine H_call (i := 23) (f := 21) (args := #[.string ⟨#[112, 97, 117, 115, 101, 45, 116, 105, 109, 101, 45, 108, 101, 102, 116]⟩, .int .i64 0]) (some 46) rfl rfl (by kernel_rfl) rfl (by simp [go_sem]) ((refnum_any ⟨#[112, 97, 117, 115, 101, 45, 116, 105, 109, 101, 45, 108, 101, 102, 116]⟩ 0 x11 (by unfold I64; decide)).mono ?_)
  rintro e x12 ⟨rfl, b12⟩
  have s12 : x12.heap[sb]? = some (.cells C 38 (0, 0)) := (b12.block sb (blk_lt s11)).trans s11
  have H12 := hide (And.intro (rowG_below H11.out.1 b12) (H11.out.2.trans (b12.mono H11.out.2.size)))
  refine ⟨_, rfl, s12, ?_⟩
  clear H11 b12 s11
  simp only [Act.put, List.setIfInBounds_toArray, List.set_cons_zero, List.set_cons_succ]
  have R13 := hide (row_new x12 [(kTotal, (prS tt)), (kUsing, (prS us)), (kWaiting, (prS wt)), (kWatching, (prS wa)), (kPause, (prS pz)), (kDelete, (prS de)), (kPauses, (prS pa)), (kLeft, (prS 0))] #[.string ⟨#[116, 111, 116, 97, 108, 45, 106, 111, 98, 115]⟩, .string (prS tt), .string ⟨#[99, 117, 114, 114, 101, 110, 116, 45, 117, 115, 105, 110, 103]⟩, .string (prS us), .string ⟨#[99, 117, 114, 114, 101, 110, 116, 45, 119, 97, 105, 116, 105, 110, 103]⟩, .string (prS wt), .string ⟨#[99, 117, 114, 114, 101, 110, 116, 45, 119, 97, 116, 99, 104, 105, 110, 103]⟩, .string (prS wa), .string ⟨#[112, 97, 117, 115, 101]⟩, .string (prS pz), .string ⟨#[99, 109, 100, 45, 100, 101, 108, 101, 116, 101]⟩, .string (prS de), .string ⟨#[99, 109, 100, 45, 112, 97, 117, 115, 101, 45, 116, 117, 98, 101]⟩, .string (prS pa), .string ⟨#[112, 97, 117, 115, 101, 45, 116, 105, 109, 101, 45, 108, 101, 102, 116]⟩, .string (prS 0)] 8 rfl rfl (by show (8 : Nat) ≤ 1000; decide))
  obtain ⟨x13, hx13⟩ : ∃ x13, x13 = x12.alloc (.cells #[.string ⟨#[116, 111, 116, 97, 108, 45, 106, 111, 98, 115]⟩, .string (prS tt), .string ⟨#[99, 117, 114, 114, 101, 110, 116, 45, 117, 115, 105, 110, 103]⟩, .string (prS us), .string ⟨#[99, 117, 114, 114, 101, 110, 116, 45, 119, 97, 105, 116, 105, 110, 103]⟩, .string (prS wt), .string ⟨#[99, 117, 114, 114, 101, 110, 116, 45, 119, 97, 116, 99, 104, 105, 110, 103]⟩, .string (prS wa), .string ⟨#[112, 97, 117, 115, 101]⟩, .string (prS pz), .string ⟨#[99, 109, 100, 45, 100, 101, 108, 101, 116, 101]⟩, .string (prS de), .string ⟨#[99, 109, 100, 45, 112, 97, 117, 115, 101, 45, 116, 117, 98, 101]⟩, .string (prS pa), .string ⟨#[112, 97, 117, 115, 101, 45, 116, 105, 109, 101, 45, 108, 101, 102, 116]⟩, .string (prS 0)] 52) := ⟨_, rfl⟩
  refine H_value (i := 24) (v := .slice (some ⟨x12.heap.size, 0, none⟩) 8 8) (w' := x13) (some 47) rfl rfl (by kernel_rfl) rfl (by rw [hx13]; simp [go_sem]) ?_ ?_
  · rw [hx13]; exact ((((Below.refl _ x12).alloc (Nat.le_refl _) _)).block sb (blk_lt s12)).trans s12
  have b13 : Below x12.heap.size x12 x13 := by rw [hx13]; exact (Below.refl _ x12).alloc (Nat.le_refl _) _
  rw [← hx13] at R13
  have s13 : x13.heap[sb]? = some (.cells C 38 (0, 0)) := (b13.block sb (blk_lt s12)).trans s12
  have H13 := hide (And.intro (rowG_below H12.out.1 b13) (H12.out.2.trans (b13.mono H12.out.2.size)))
  clear H12 b13 s12 hx13
  simp only [Act.put, List.setIfInBounds_toArray, List.set_cons_zero, List.set_cons_succ]
  refine H_pairs (i := 25) (some 48) rfl rfl (by kernel_rfl) rfl (.tmp 23) (.tmp 47) rfl w1.heap.size _ (.slice a4 ([(kName, nm)] ++ sumsP r d rs b u).length c4) ([(kName, nm)] ++ sumsP r d rs b u) [(kTotal, (prS tt)), (kUsing, (prS us)), (kWaiting, (prS wt)), (kWatching, (prS wa)), (kPause, (prS pz)), (kDelete, (prS de)), (kPauses, (prS pa)), (kLeft, (prS 0))] _ 8 rfl rfl H13.out.1 R13.out (by show (6 : Nat) ≤ 1000; decide) (by show (8 : Nat) ≤ 1000; decide) H13.out.2.size (fun v14 x14 o14 g14 => ?_)
  have b14 : Below w1.heap.size w1 x14 := H13.out.2.grown g14 H13.out.2.size (fun j hj => (World.ownsRow.lt H13.out.1 j hj).1)
  have s14 : x14.heap[sb]? = some (.cells C 38 (0, 0)) := (b14.block sb B1.out.2.2).trans B1.out.2.1
  refine ⟨s14, ?_⟩
  have O13 := hide (And.intro o14 b14)
  clear o14 g14 b14 s13 H13 R13
  simp only [Act.put, List.setIfInBounds_toArray, List.set_cons_zero, List.set_cons_succ]
  refine H_take (i := 26) (v := v14) (some 6) rfl rfl (by kernel_rfl) (by kernel_rfl) (by kernel_rfl) (fun _ _ _ h => h) rfl (fun X hX => ?_) s14 ?_
  · simp [go_sem]
  simp only [Act.put, List.setIfInBounds_toArray, List.set_cons_zero, List.set_cons_succ]
  refine wpAnyH_done (by kernel_rfl) ?_ _
  have IP := hide (pairs_of_row O13.out.1 (by simp [sumsP]))
  have BW : Hid (Below w.heap.size w x14) := B1.out.1.trans (O13.out.2.mono B1.out.1.size)
  rw [HT.out] at HBD HDD
  clear s14
  go_wp2_with (go_at_call 20
               obtain ⟨ap, cp, ep, ip⟩ := IP.out
               rw [ep]
               refine (reftold_any ap cp _ x14 ip HBD.out).mono ?_
               rintro e w14 ⟨a14, c14, rfl, i14, b14⟩
               rw [← HDD.out] at i14 ⊢
               have H14 := hide (And.intro i14 b14)
               clear i14 b14)
  go_ret
  exact ⟨_, _, rfl, ⟨H14.out.1.1, fun b' o h => Nat.le_trans BW.out.size (H14.out.1.2 b' o h)⟩, BW.out.trans (H14.out.2.mono BW.out.size)⟩
set_option maxHeartbeats 16000000 in
set_option maxRecDepth 1000000 in
theorem refTube_more (nm : ByteArray) (r d rs b u us wa wt tt de pa pz ul now : Int) (w : World) (hpz : ¬ pz = 0) (hn : I64 r ∧ I64 d ∧ I64 rs ∧ I64 b ∧ I64 u ∧ I64 us ∧ I64 wa ∧ I64 wt ∧ I64 tt ∧ I64 de ∧ I64 pa ∧ I64 pz ∧ I64 ul) (hb : (dictL ((tubeP nm r d rs b u us wa wt tt de pa pz ul now).map un)).length < 140737488355328) :
    Calls Tryd.prog 12 #[.agg #[.string nm, .int .i64 r, .int .i64 d, .int .i64 rs, .int .i64 b, .int .i64 u, .int .i64 us, .int .i64 wa, .int .i64 wt, .int .i64 tt, .int .i64 de, .int .i64 pa, .int .i64 pz, .int .i64 ul], .int .i64 now] w fun e w' => ∃ a2 c2, e = .returned (.slice a2 (if dictE ((tubeP nm r d rs b u us wa wt tt de pa pz ul now).map un) = 0 then dictL ((tubeP nm r d rs b u us wa wt tt de pa pz ul now).map un) else []).length c2) ∧ NewB w w' a2 c2 (if dictE ((tubeP nm r d rs b u us wa wt tt de pa pz ul now).map un) = 0 then dictL ((tubeP nm r d rs b u us wa wt tt de pa pz ul now).map un) else []) ∧ Below w.heap.size w w' := by
  obtain ⟨C, hC⟩ : ∃ C : Array Value, C = #[.string nm, .int .i64 r, .int .i64 d, .int .i64 rs, .int .i64 b, .int .i64 u, .int .i64 us, .int .i64 wa, .int .i64 wt, .int .i64 tt, .int .i64 de, .int .i64 pa, .int .i64 pz, .int .i64 ul] := ⟨_, rfl⟩
  obtain ⟨w1, hw1⟩ : ∃ w1, w1 = w.alloc (.cells C 38) := ⟨_, rfl⟩
  obtain ⟨sb, hsb⟩ : ∃ sb, sb = w.heap.size := ⟨_, rfl⟩
  have B1 : Hid (Below w.heap.size w w1 ∧ w1.heap[sb]? = some (.cells C 38 (0, 0)) ∧ sb < w1.heap.size) := by
    rw [hw1, hsb]
    exact ⟨(Below.refl _ w).alloc (Nat.le_refl _) _, heap_alloc_new w _, by simp⟩
  have HC : Hid (C = #[.string nm, .int .i64 r, .int .i64 d, .int .i64 rs, .int .i64 b, .int .i64 u, .int .i64 us, .int .i64 wa, .int .i64 wt, .int .i64 tt, .int .i64 de, .int .i64 pa, .int .i64 pz, .int .i64 ul]) := hC
  have HN := hide hn
  have HBD := hide hb
  obtain ⟨lf, hlf⟩ : ∃ lf, lf = leftI pz ul now := ⟨_, rfl⟩
  have HLF := hide hlf
  have HLE : Hid (lf = lessI ul now) := by show _ = _; rw [hlf]; unfold leftI; exact if_neg hpz
  obtain ⟨DD, hDD⟩ : ∃ DD, DD = (if dictE ((tubeP nm r d rs b u us wa wt tt de pa pz ul now).map un) = 0 then dictL ((tubeP nm r d rs b u us wa wt tt de pa pz ul now).map un) else []) := ⟨_, rfl⟩
  rw [← hDD]
  have HDD := hide hDD
  have HW1 := hide (And.intro hw1 hsb)
  have HT : Hid (tubeP nm r d rs b u us wa wt tt de pa pz ul now = ([(kName, nm)] ++ sumsP r d rs b u) ++ [(kTotal, prS tt), (kUsing, prS us), (kWaiting, prS wt), (kWatching, prS wa), (kPause, prS pz), (kDelete, prS de), (kPauses, prS pa), (kLeft, prS lf)]) := by
    show _ = _
    rw [hlf]
    rfl
  rw [← hC]
  have x0 : w1.cell? ⟨sb, 0, none⟩ = some (.string nm) := by rw [cell_of_row w1 sb 0 C _ (0, 0) B1.out.2.1, hC]; rfl
  have x1 : w1.cell? ⟨sb, 1, none⟩ = some (.int .i64 r) := by rw [cell_of_row w1 sb 1 C _ (0, 0) B1.out.2.1, hC]; rfl
  have x2 : w1.cell? ⟨sb, 2, none⟩ = some (.int .i64 d) := by rw [cell_of_row w1 sb 2 C _ (0, 0) B1.out.2.1, hC]; rfl
  have x3 : w1.cell? ⟨sb, 3, none⟩ = some (.int .i64 rs) := by rw [cell_of_row w1 sb 3 C _ (0, 0) B1.out.2.1, hC]; rfl
  have x4 : w1.cell? ⟨sb, 4, none⟩ = some (.int .i64 b) := by rw [cell_of_row w1 sb 4 C _ (0, 0) B1.out.2.1, hC]; rfl
  have x5 : w1.cell? ⟨sb, 5, none⟩ = some (.int .i64 u) := by rw [cell_of_row w1 sb 5 C _ (0, 0) B1.out.2.1, hC]; rfl
  have x6 : w1.cell? ⟨sb, 6, none⟩ = some (.int .i64 us) := by rw [cell_of_row w1 sb 6 C _ (0, 0) B1.out.2.1, hC]; rfl
  have x7 : w1.cell? ⟨sb, 7, none⟩ = some (.int .i64 wa) := by rw [cell_of_row w1 sb 7 C _ (0, 0) B1.out.2.1, hC]; rfl
  have x8 : w1.cell? ⟨sb, 8, none⟩ = some (.int .i64 wt) := by rw [cell_of_row w1 sb 8 C _ (0, 0) B1.out.2.1, hC]; rfl
  have x9 : w1.cell? ⟨sb, 9, none⟩ = some (.int .i64 tt) := by rw [cell_of_row w1 sb 9 C _ (0, 0) B1.out.2.1, hC]; rfl
  have x10 : w1.cell? ⟨sb, 10, none⟩ = some (.int .i64 de) := by rw [cell_of_row w1 sb 10 C _ (0, 0) B1.out.2.1, hC]; rfl
  have x11 : w1.cell? ⟨sb, 11, none⟩ = some (.int .i64 pa) := by rw [cell_of_row w1 sb 11 C _ (0, 0) B1.out.2.1, hC]; rfl
  have x12 : w1.cell? ⟨sb, 12, none⟩ = some (.int .i64 pz) := by rw [cell_of_row w1 sb 12 C _ (0, 0) B1.out.2.1, hC]; rfl
  have x13 : w1.cell? ⟨sb, 13, none⟩ = some (.int .i64 ul) := by rw [cell_of_row w1 sb 13 C _ (0, 0) B1.out.2.1, hC]; rfl
  have hpb : (pz != 0) = true := by simp [hpz]
  have CS : Hid (∀ W, Calls Tryd.prog 28 #[.agg #[.int .i64 r, .int .i64 d, .int .i64 rs, .int .i64 b, .int .i64 u]] W fun e w' => ∃ a, e = .returned (.slice a 5 5) ∧ w'.ownsRow W.heap.size 52 2 (.slice a 5 5) 5 (cellsP (sumsP r d rs b u)) ∧ Below W.heap.size W w') := fun W => refsums_any r d rs b u W HN.out.1 HN.out.2.1 HN.out.2.2.1 HN.out.2.2.2.1 HN.out.2.2.2.2.1
  obtain ⟨w2, hw2⟩ : ∃ w2, w2 = w1.alloc (.cells #[.string kName, .string nm] 52) := ⟨_, rfl⟩
  have O2 : Hid (w2.ownsRow w1.heap.size 52 2 (.slice (some ⟨w1.heap.size, 0, none⟩) 1 1) [(kName, nm)].length (cellsP [(kName, nm)]) ∧ Below w1.heap.size w1 w2) := by
    rw [hw2]
    exact ⟨⟨rfl, .inr ⟨w1.heap.size, 1, _, rfl, Nat.le_refl _, heap_alloc_new w1 _, Nat.le_refl _, by unfold maxLen; omega, rfl, rfl⟩⟩, (Below.refl _ w1).alloc (Nat.le_refl _) _⟩
  have HW2 := hide hw2
  clear hC hw1 hsb hn hb hlf hDD hw2 hpz
  go_enter Tryd.func12, Tryd.ntmps12
  go_upto_region 1 with fail
  rw [← HW1.out.1, ← HW1.out.2]
  clear HW1
  go_upto_region 4 with (go_at_call 19; refine (refless_any ul now _).mono ?_; rintro e w3 ⟨rfl, hw3⟩; obtain rfl := hw3.symm)
  rw [← HLE.out]
  go_upto_region 5 with fail
  rw [show (w1.alloc (.cells #[.string ⟨#[110, 97, 109, 101]⟩, .string nm] 52)) = w2 from HW2.out.symm]
  clear HW2
  have y0 := below_cell O2.out.2 x0
  have y1 := below_cell O2.out.2 x1
  have y2 := below_cell O2.out.2 x2
  have y3 := below_cell O2.out.2 x3
  have y4 := below_cell O2.out.2 x4
  have y5 := below_cell O2.out.2 x5
  have y6 := below_cell O2.out.2 x6
  have y7 := below_cell O2.out.2 x7
  have y8 := below_cell O2.out.2 x8
  have y9 := below_cell O2.out.2 x9
  have y10 := below_cell O2.out.2 x10
  have y11 := below_cell O2.out.2 x11
  have y12 := below_cell O2.out.2 x12
  have y13 := below_cell O2.out.2 x13
  clear x0 x1 x2 x3 x4 x5 x6 x7 x8 x9 x10 x11 x12 x13
  go_upto_region 6 with (first
    | (go_at_call 28; refine (CS.out _).mono ?_; rintro e w3 ⟨a3, rfl, o3, b3⟩; have O3 := hide (And.intro o3 b3); clear o3 b3)
    | (at_builtin; refine wpList_pairs rfl (.tmp 18) (.tmp 21) rfl w1.heap.size w2.heap.size (.slice (some ⟨w1.heap.size, 0, none⟩) 1 1) [(kName, nm)] (sumsP r d rs b u) a3 5 (by rfl) (by rfl) (rowG_below O2.out.1 O3.out.2) O3.out.1 (by simp) (by simp [sumsP]) (Nat.le_trans O2.out.2.size O3.out.2.size) ?_; intro v4 w4 o4 g4
       obtain ⟨a4, c4, rfl⟩ := rowG_shape o4
       have b4 : Below w1.heap.size w1 w4 := (O2.out.2.trans (O3.out.2.mono O2.out.2.size)).grown g4 (Nat.le_trans O2.out.2.size O3.out.2.size) (fun j hj => by cases hj; exact Nat.le_refl _)
       have O4 := hide (And.intro o4 b4)
       clear o4 g4 b4))
  clear y0 y1 y2 y3 y4 y5 y6 y7 y8 y9 y10 y11 y12 y13
  have TC : Hid (∀ X : World, X.heap[sb]? = some (.cells C 38 (0, 0)) → X.cell? ⟨sb, 6, none⟩ = some (.int .i64 us) ∧ X.cell? ⟨sb, 7, none⟩ = some (.int .i64 wa) ∧ X.cell? ⟨sb, 8, none⟩ = some (.int .i64 wt) ∧ X.cell? ⟨sb, 9, none⟩ = some (.int .i64 tt) ∧ X.cell? ⟨sb, 10, none⟩ = some (.int .i64 de) ∧ X.cell? ⟨sb, 11, none⟩ = some (.int .i64 pa) ∧ X.cell? ⟨sb, 12, none⟩ = some (.int .i64 pz)) := fun X hX => tube_cells nm r d rs b u us wa wt tt de pa pz ul X sb C hX HC.out
  have s4 : w4.drew.heap[sb]? = some (.cells C 38 (0, 0)) := (O4.out.2.block sb B1.out.2.2).trans B1.out.2.1
  refine wp_region_held_drew (S := fun X => X.heap[sb]? = some (.cells C 38 (0, 0))) (by kernel_rfl) s4 (fun _ => ?_)
  have H4 : Hid (w4.drew.ownsRow w1.heap.size 52 2 (.slice a4 ([(kName, nm)] ++ sumsP r d rs b u).length c4) ([(kName, nm)] ++ sumsP r d rs b u).length (cellsP ([(kName, nm)] ++ sumsP r d rs b u)) ∧ Below w1.heap.size w1 w4.drew) := ⟨rowG_below O4.out.1 (Below.refl _ w4).drew, O4.out.2.drew⟩
  obtain ⟨x4, hx4⟩ : ∃ x4, x4 = w4.drew := ⟨_, rfl⟩
  rw [← hx4] at s4 H4 ⊢
  clear hx4
  refine H_take (i := 0) (v := .slice a4 ([(kName, nm)] ++ sumsP r d rs b u).length c4) (some 23) rfl rfl (by kernel_rfl) (by kernel_rfl) (by kernel_rfl) (fun _ _ _ h => h) rfl (fun X hX => ?_) s4 ?_
  · simp [go_sem]
  simp only [Act.put, List.setIfInBounds_toArray, List.set_cons_zero, List.set_cons_succ]
  refine H_take (i := 1) (v := .pointer (some ⟨sb, 9, none⟩)) (some 24) rfl rfl (by kernel_rfl) (by kernel_rfl) (by kernel_rfl) (fun _ _ _ h => h) rfl (fun X hX => ?_) s4 ?_
  · simp [go_sem]
  simp only [Act.put, List.setIfInBounds_toArray, List.set_cons_zero, List.set_cons_succ]
  refine H_take (i := 2) (v := .int .i64 tt) (some 25) rfl rfl (by kernel_rfl) (by kernel_rfl) (by kernel_rfl) (fun _ _ _ h => h) rfl (fun X hX => ?_) s4 ?_
  · exact run_load1 rfl rfl Tryd.isAgg3 ((TC.out X hX).2.2.2.1)
  simp only [Act.put, List.setIfInBounds_toArray, List.set_cons_zero, List.set_cons_succ]
  refine H_take (i := 4) (v := .pointer (some ⟨sb, 6, none⟩)) (some 27) rfl rfl (by kernel_rfl) (by kernel_rfl) (by kernel_rfl) (fun _ _ _ h => h) rfl (fun X hX => ?_) s4 ?_
  · simp [go_sem]
  simp only [Act.put, List.setIfInBounds_toArray, List.set_cons_zero, List.set_cons_succ]
  refine H_take (i := 5) (v := .int .i64 us) (some 28) rfl rfl (by kernel_rfl) (by kernel_rfl) (by kernel_rfl) (fun _ _ _ h => h) rfl (fun X hX => ?_) s4 ?_
  · exact run_load1 rfl rfl Tryd.isAgg3 ((TC.out X hX).1)
  simp only [Act.put, List.setIfInBounds_toArray, List.set_cons_zero, List.set_cons_succ]
  refine H_take (i := 7) (v := .pointer (some ⟨sb, 8, none⟩)) (some 30) rfl rfl (by kernel_rfl) (by kernel_rfl) (by kernel_rfl) (fun _ _ _ h => h) rfl (fun X hX => ?_) s4 ?_
  · simp [go_sem]
  simp only [Act.put, List.setIfInBounds_toArray, List.set_cons_zero, List.set_cons_succ]
  refine H_take (i := 8) (v := .int .i64 wt) (some 31) rfl rfl (by kernel_rfl) (by kernel_rfl) (by kernel_rfl) (fun _ _ _ h => h) rfl (fun X hX => ?_) s4 ?_
  · exact run_load1 rfl rfl Tryd.isAgg3 ((TC.out X hX).2.2.1)
  simp only [Act.put, List.setIfInBounds_toArray, List.set_cons_zero, List.set_cons_succ]
  refine H_take (i := 10) (v := .pointer (some ⟨sb, 7, none⟩)) (some 33) rfl rfl (by kernel_rfl) (by kernel_rfl) (by kernel_rfl) (fun _ _ _ h => h) rfl (fun X hX => ?_) s4 ?_
  · simp [go_sem]
  simp only [Act.put, List.setIfInBounds_toArray, List.set_cons_zero, List.set_cons_succ]
  refine H_take (i := 11) (v := .int .i64 wa) (some 34) rfl rfl (by kernel_rfl) (by kernel_rfl) (by kernel_rfl) (fun _ _ _ h => h) rfl (fun X hX => ?_) s4 ?_
  · exact run_load1 rfl rfl Tryd.isAgg3 ((TC.out X hX).2.1)
  simp only [Act.put, List.setIfInBounds_toArray, List.set_cons_zero, List.set_cons_succ]
  refine H_take (i := 13) (v := .pointer (some ⟨sb, 12, none⟩)) (some 36) rfl rfl (by kernel_rfl) (by kernel_rfl) (by kernel_rfl) (fun _ _ _ h => h) rfl (fun X hX => ?_) s4 ?_
  · simp [go_sem]
  simp only [Act.put, List.setIfInBounds_toArray, List.set_cons_zero, List.set_cons_succ]
  refine H_take (i := 14) (v := .int .i64 pz) (some 37) rfl rfl (by kernel_rfl) (by kernel_rfl) (by kernel_rfl) (fun _ _ _ h => h) rfl (fun X hX => ?_) s4 ?_
  · exact run_load1 rfl rfl Tryd.isAgg3 ((TC.out X hX).2.2.2.2.2.2)
  simp only [Act.put, List.setIfInBounds_toArray, List.set_cons_zero, List.set_cons_succ]
  refine H_take (i := 16) (v := .pointer (some ⟨sb, 10, none⟩)) (some 39) rfl rfl (by kernel_rfl) (by kernel_rfl) (by kernel_rfl) (fun _ _ _ h => h) rfl (fun X hX => ?_) s4 ?_
  · simp [go_sem]
  simp only [Act.put, List.setIfInBounds_toArray, List.set_cons_zero, List.set_cons_succ]
  refine H_take (i := 17) (v := .int .i64 de) (some 40) rfl rfl (by kernel_rfl) (by kernel_rfl) (by kernel_rfl) (fun _ _ _ h => h) rfl (fun X hX => ?_) s4 ?_
  · exact run_load1 rfl rfl Tryd.isAgg3 ((TC.out X hX).2.2.2.2.1)
  simp only [Act.put, List.setIfInBounds_toArray, List.set_cons_zero, List.set_cons_succ]
  refine H_take (i := 19) (v := .pointer (some ⟨sb, 11, none⟩)) (some 42) rfl rfl (by kernel_rfl) (by kernel_rfl) (by kernel_rfl) (fun _ _ _ h => h) rfl (fun X hX => ?_) s4 ?_
  · simp [go_sem]
  simp only [Act.put, List.setIfInBounds_toArray, List.set_cons_zero, List.set_cons_succ]
  refine H_take (i := 20) (v := .int .i64 pa) (some 43) rfl rfl (by kernel_rfl) (by kernel_rfl) (by kernel_rfl) (fun _ _ _ h => h) rfl (fun X hX => ?_) s4 ?_
  · exact run_load1 rfl rfl Tryd.isAgg3 ((TC.out X hX).2.2.2.2.2.1)
  simp only [Act.put, List.setIfInBounds_toArray, List.set_cons_zero, List.set_cons_succ]
  refine H_take (i := 22) (v := .int .i64 lf) (some 45) rfl rfl (by kernel_rfl) (by kernel_rfl) (by kernel_rfl) (fun _ _ _ h => h) rfl (fun X hX => ?_) s4 ?_
  · simp [go_sem]
  simp only [Act.put, List.setIfInBounds_toArray, List.set_cons_zero, List.set_cons_succ]
  refine H_call (i := 3) (f := 21) (args := #[.string ⟨#[116, 111, 116, 97, 108, 45, 106, 111, 98, 115]⟩, .int .i64 tt]) (some 26) rfl rfl (by kernel_rfl) rfl (by simp [go_sem]) ((refnum_any ⟨#[116, 111, 116, 97, 108, 45, 106, 111, 98, 115]⟩ tt x4 HN.out.2.2.2.2.2.2.2.2.1).mono ?_)
  rintro e x5 ⟨rfl, b5⟩
  have s5 : x5.heap[sb]? = some (.cells C 38 (0, 0)) := (b5.block sb (blk_lt s4)).trans s4
  have H5 := hide (And.intro (rowG_below H4.out.1 b5) (H4.out.2.trans (b5.mono H4.out.2.size)))
  refine ⟨_, rfl, s5, ?_⟩
  clear H4 b5 s4
  simp only [Act.put, List.setIfInBounds_toArray, List.set_cons_zero, List.set_cons_succ]
  refine H_call (i := 6) (f := 21) (args := #[.string ⟨#[99, 117, 114, 114, 101, 110, 116, 45, 117, 115, 105, 110, 103]⟩, .int .i64 us]) (some 29) rfl rfl (by kernel_rfl) rfl (by simp [go_sem]) ((refnum_any ⟨#[99, 117, 114, 114, 101, 110, 116, 45, 117, 115, 105, 110, 103]⟩ us x5 HN.out.2.2.2.2.2.1).mono ?_)
  rintro e x6 ⟨rfl, b6⟩
  have s6 : x6.heap[sb]? = some (.cells C 38 (0, 0)) := (b6.block sb (blk_lt s5)).trans s5
  have H6 := hide (And.intro (rowG_below H5.out.1 b6) (H5.out.2.trans (b6.mono H5.out.2.size)))
  refine ⟨_, rfl, s6, ?_⟩
  clear H5 b6 s5
  simp only [Act.put, List.setIfInBounds_toArray, List.set_cons_zero, List.set_cons_succ]
  refine H_call (i := 9) (f := 21) (args := #[.string ⟨#[99, 117, 114, 114, 101, 110, 116, 45, 119, 97, 105, 116, 105, 110, 103]⟩, .int .i64 wt]) (some 32) rfl rfl (by kernel_rfl) rfl (by simp [go_sem]) ((refnum_any ⟨#[99, 117, 114, 114, 101, 110, 116, 45, 119, 97, 105, 116, 105, 110, 103]⟩ wt x6 HN.out.2.2.2.2.2.2.2.1).mono ?_)
  rintro e x7 ⟨rfl, b7⟩
  have s7 : x7.heap[sb]? = some (.cells C 38 (0, 0)) := (b7.block sb (blk_lt s6)).trans s6
  have H7 := hide (And.intro (rowG_below H6.out.1 b7) (H6.out.2.trans (b7.mono H6.out.2.size)))
  refine ⟨_, rfl, s7, ?_⟩
  clear H6 b7 s6
  simp only [Act.put, List.setIfInBounds_toArray, List.set_cons_zero, List.set_cons_succ]
  refine H_call (i := 12) (f := 21) (args := #[.string ⟨#[99, 117, 114, 114, 101, 110, 116, 45, 119, 97, 116, 99, 104, 105, 110, 103]⟩, .int .i64 wa]) (some 35) rfl rfl (by kernel_rfl) rfl (by simp [go_sem]) ((refnum_any ⟨#[99, 117, 114, 114, 101, 110, 116, 45, 119, 97, 116, 99, 104, 105, 110, 103]⟩ wa x7 HN.out.2.2.2.2.2.2.1).mono ?_)
  rintro e x8 ⟨rfl, b8⟩
  have s8 : x8.heap[sb]? = some (.cells C 38 (0, 0)) := (b8.block sb (blk_lt s7)).trans s7
  have H8 := hide (And.intro (rowG_below H7.out.1 b8) (H7.out.2.trans (b8.mono H7.out.2.size)))
  refine ⟨_, rfl, s8, ?_⟩
  clear H7 b8 s7
  simp only [Act.put, List.setIfInBounds_toArray, List.set_cons_zero, List.set_cons_succ]
  refine H_call (i := 15) (f := 21) (args := #[.string ⟨#[112, 97, 117, 115, 101]⟩, .int .i64 pz]) (some 38) rfl rfl (by kernel_rfl) rfl (by simp [go_sem]) ((refnum_any ⟨#[112, 97, 117, 115, 101]⟩ pz x8 HN.out.2.2.2.2.2.2.2.2.2.2.2.1).mono ?_)
  rintro e x9 ⟨rfl, b9⟩
  have s9 : x9.heap[sb]? = some (.cells C 38 (0, 0)) := (b9.block sb (blk_lt s8)).trans s8
  have H9 := hide (And.intro (rowG_below H8.out.1 b9) (H8.out.2.trans (b9.mono H8.out.2.size)))
  refine ⟨_, rfl, s9, ?_⟩
  clear H8 b9 s8
  simp only [Act.put, List.setIfInBounds_toArray, List.set_cons_zero, List.set_cons_succ]
  refine H_call (i := 18) (f := 21) (args := #[.string ⟨#[99, 109, 100, 45, 100, 101, 108, 101, 116, 101]⟩, .int .i64 de]) (some 41) rfl rfl (by kernel_rfl) rfl (by simp [go_sem]) ((refnum_any ⟨#[99, 109, 100, 45, 100, 101, 108, 101, 116, 101]⟩ de x9 HN.out.2.2.2.2.2.2.2.2.2.1).mono ?_)
  rintro e x10 ⟨rfl, b10⟩
  have s10 : x10.heap[sb]? = some (.cells C 38 (0, 0)) := (b10.block sb (blk_lt s9)).trans s9
  have H10 := hide (And.intro (rowG_below H9.out.1 b10) (H9.out.2.trans (b10.mono H9.out.2.size)))
  refine ⟨_, rfl, s10, ?_⟩
  clear H9 b10 s9
  simp only [Act.put, List.setIfInBounds_toArray, List.set_cons_zero, List.set_cons_succ]
  refine H_call (i := 21) (f := 21) (args := #[.string ⟨#[99, 109, 100, 45, 112, 97, 117, 115, 101, 45, 116, 117, 98, 101]⟩, .int .i64 pa]) (some 44) rfl rfl (by kernel_rfl) rfl (by simp [go_sem]) ((refnum_any ⟨#[99, 109, 100, 45, 112, 97, 117, 115, 101, 45, 116, 117, 98, 101]⟩ pa x10 HN.out.2.2.2.2.2.2.2.2.2.2.1).mono ?_)
  rintro e x11 ⟨rfl, b11⟩
  have s11 : x11.heap[sb]? = some (.cells C 38 (0, 0)) := (b11.block sb (blk_lt s10)).trans s10
  have H11 := hide (And.intro (rowG_below H10.out.1 b11) (H10.out.2.trans (b11.mono H10.out.2.size)))
  refine ⟨_, rfl, s11, ?_⟩
  clear H10 b11 s10
  simp only [Act.put, List.setIfInBounds_toArray, List.set_cons_zero, List.set_cons_succ]
  refine H_call (i := 23) (f := 21) (args := #[.string ⟨#[112, 97, 117, 115, 101, 45, 116, 105, 109, 101, 45, 108, 101, 102, 116]⟩, .int .i64 lf]) (some 46) rfl rfl (by kernel_rfl) rfl (by simp [go_sem]) ((refnum_any ⟨#[112, 97, 117, 115, 101, 45, 116, 105, 109, 101, 45, 108, 101, 102, 116]⟩ lf x11 (by rw [HLF.out]; exact left_64 _ _ _)).mono ?_)
  rintro e x12 ⟨rfl, b12⟩
  have s12 : x12.heap[sb]? = some (.cells C 38 (0, 0)) := (b12.block sb (blk_lt s11)).trans s11
  have H12 := hide (And.intro (rowG_below H11.out.1 b12) (H11.out.2.trans (b12.mono H11.out.2.size)))
  refine ⟨_, rfl, s12, ?_⟩
  clear H11 b12 s11
  simp only [Act.put, List.setIfInBounds_toArray, List.set_cons_zero, List.set_cons_succ]
  have R13 := hide (row_new x12 [(kTotal, (prS tt)), (kUsing, (prS us)), (kWaiting, (prS wt)), (kWatching, (prS wa)), (kPause, (prS pz)), (kDelete, (prS de)), (kPauses, (prS pa)), (kLeft, (prS lf))] #[.string ⟨#[116, 111, 116, 97, 108, 45, 106, 111, 98, 115]⟩, .string (prS tt), .string ⟨#[99, 117, 114, 114, 101, 110, 116, 45, 117, 115, 105, 110, 103]⟩, .string (prS us), .string ⟨#[99, 117, 114, 114, 101, 110, 116, 45, 119, 97, 105, 116, 105, 110, 103]⟩, .string (prS wt), .string ⟨#[99, 117, 114, 114, 101, 110, 116, 45, 119, 97, 116, 99, 104, 105, 110, 103]⟩, .string (prS wa), .string ⟨#[112, 97, 117, 115, 101]⟩, .string (prS pz), .string ⟨#[99, 109, 100, 45, 100, 101, 108, 101, 116, 101]⟩, .string (prS de), .string ⟨#[99, 109, 100, 45, 112, 97, 117, 115, 101, 45, 116, 117, 98, 101]⟩, .string (prS pa), .string ⟨#[112, 97, 117, 115, 101, 45, 116, 105, 109, 101, 45, 108, 101, 102, 116]⟩, .string (prS lf)] 8 rfl rfl (by show (8 : Nat) ≤ 1000; decide))
  obtain ⟨x13, hx13⟩ : ∃ x13, x13 = x12.alloc (.cells #[.string ⟨#[116, 111, 116, 97, 108, 45, 106, 111, 98, 115]⟩, .string (prS tt), .string ⟨#[99, 117, 114, 114, 101, 110, 116, 45, 117, 115, 105, 110, 103]⟩, .string (prS us), .string ⟨#[99, 117, 114, 114, 101, 110, 116, 45, 119, 97, 105, 116, 105, 110, 103]⟩, .string (prS wt), .string ⟨#[99, 117, 114, 114, 101, 110, 116, 45, 119, 97, 116, 99, 104, 105, 110, 103]⟩, .string (prS wa), .string ⟨#[112, 97, 117, 115, 101]⟩, .string (prS pz), .string ⟨#[99, 109, 100, 45, 100, 101, 108, 101, 116, 101]⟩, .string (prS de), .string ⟨#[99, 109, 100, 45, 112, 97, 117, 115, 101, 45, 116, 117, 98, 101]⟩, .string (prS pa), .string ⟨#[112, 97, 117, 115, 101, 45, 116, 105, 109, 101, 45, 108, 101, 102, 116]⟩, .string (prS lf)] 52) := ⟨_, rfl⟩
  refine H_value (i := 24) (v := .slice (some ⟨x12.heap.size, 0, none⟩) 8 8) (w' := x13) (some 47) rfl rfl (by kernel_rfl) rfl (by rw [hx13]; simp [go_sem]) ?_ ?_
  · rw [hx13]; exact ((((Below.refl _ x12).alloc (Nat.le_refl _) _)).block sb (blk_lt s12)).trans s12
  have b13 : Below x12.heap.size x12 x13 := by rw [hx13]; exact (Below.refl _ x12).alloc (Nat.le_refl _) _
  rw [← hx13] at R13
  have s13 : x13.heap[sb]? = some (.cells C 38 (0, 0)) := (b13.block sb (blk_lt s12)).trans s12
  have H13 := hide (And.intro (rowG_below H12.out.1 b13) (H12.out.2.trans (b13.mono H12.out.2.size)))
  clear H12 b13 s12 hx13
  simp only [Act.put, List.setIfInBounds_toArray, List.set_cons_zero, List.set_cons_succ]
  refine H_pairs (i := 25) (some 48) rfl rfl (by kernel_rfl) rfl (.tmp 23) (.tmp 47) rfl w1.heap.size _ (.slice a4 ([(kName, nm)] ++ sumsP r d rs b u).length c4) ([(kName, nm)] ++ sumsP r d rs b u) [(kTotal, (prS tt)), (kUsing, (prS us)), (kWaiting, (prS wt)), (kWatching, (prS wa)), (kPause, (prS pz)), (kDelete, (prS de)), (kPauses, (prS pa)), (kLeft, (prS lf))] _ 8 rfl rfl H13.out.1 R13.out (by show (6 : Nat) ≤ 1000; decide) (by show (8 : Nat) ≤ 1000; decide) H13.out.2.size (fun v14 x14 o14 g14 => ?_)
  have b14 : Below w1.heap.size w1 x14 := H13.out.2.grown g14 H13.out.2.size (fun j hj => (World.ownsRow.lt H13.out.1 j hj).1)
  have s14 : x14.heap[sb]? = some (.cells C 38 (0, 0)) := (b14.block sb B1.out.2.2).trans B1.out.2.1
  refine ⟨s14, ?_⟩
  have O13 := hide (And.intro o14 b14)
  clear o14 g14 b14 s13 H13 R13
  simp only [Act.put, List.setIfInBounds_toArray, List.set_cons_zero, List.set_cons_succ]
  refine H_take (i := 26) (v := v14) (some 6) rfl rfl (by kernel_rfl) (by kernel_rfl) (by kernel_rfl) (fun _ _ _ h => h) rfl (fun X hX => ?_) s14 ?_
  · simp [go_sem]
  simp only [Act.put, List.setIfInBounds_toArray, List.set_cons_zero, List.set_cons_succ]
  refine wpAnyH_done (by kernel_rfl) ?_ _
  have IP := hide (pairs_of_row O13.out.1 (by simp [sumsP]))
  have BW : Hid (Below w.heap.size w x14) := B1.out.1.trans (O13.out.2.mono B1.out.1.size)
  rw [HT.out] at HBD HDD
  clear s14
  go_wp2_with (go_at_call 20
               obtain ⟨ap, cp, ep, ip⟩ := IP.out
               rw [ep]
               refine (reftold_any ap cp _ x14 ip HBD.out).mono ?_
               rintro e w14 ⟨a14, c14, rfl, i14, b14⟩
               rw [← HDD.out] at i14 ⊢
               have H14 := hide (And.intro i14 b14)
               clear i14 b14)
  go_ret
  exact ⟨_, _, rfl, ⟨H14.out.1.1, fun b' o h => Nat.le_trans BW.out.size (H14.out.1.2 b' o h)⟩, BW.out.trans (H14.out.2.mono BW.out.size)⟩
theorem refTube_any (nm : ByteArray) (r d rs b u us wa wt tt de pa pz ul now : Int) (w : World) (hn : I64 r ∧ I64 d ∧ I64 rs ∧ I64 b ∧ I64 u ∧ I64 us ∧ I64 wa ∧ I64 wt ∧ I64 tt ∧ I64 de ∧ I64 pa ∧ I64 pz ∧ I64 ul) (hb : (dictL ((tubeP nm r d rs b u us wa wt tt de pa pz ul now).map un)).length < 140737488355328) :
    Calls Tryd.prog 12 #[.agg #[.string nm, .int .i64 r, .int .i64 d, .int .i64 rs, .int .i64 b, .int .i64 u, .int .i64 us, .int .i64 wa, .int .i64 wt, .int .i64 tt, .int .i64 de, .int .i64 pa, .int .i64 pz, .int .i64 ul], .int .i64 now] w fun e w' => ∃ a2 c2, e = .returned (.slice a2 (if dictE ((tubeP nm r d rs b u us wa wt tt de pa pz ul now).map un) = 0 then dictL ((tubeP nm r d rs b u us wa wt tt de pa pz ul now).map un) else []).length c2) ∧ NewB w w' a2 c2 (if dictE ((tubeP nm r d rs b u us wa wt tt de pa pz ul now).map un) = 0 then dictL ((tubeP nm r d rs b u us wa wt tt de pa pz ul now).map un) else []) ∧ Below w.heap.size w w' := by
  by_cases h : pz = 0
  · exact refTube_zero nm r d rs b u us wa wt tt de pa pz ul now w h hn hb
  · exact refTube_more nm r d rs b u us wa wt tt de pa pz ul now w h hn hb
end Go.Proofs.YthapbnlcodkalaaDoor
