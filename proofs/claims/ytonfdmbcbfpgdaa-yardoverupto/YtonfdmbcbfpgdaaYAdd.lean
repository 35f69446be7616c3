/-
  The walk of Add.
-/
import Derived.Test.YtonfdmbcbfpgdaaYAdd0
namespace Go.Proofs.Ytonfdmbcbfpgdaa
open Go.RowKit
set_option maxHeartbeats 8000000 in
set_option maxRecDepth 1000000 in
theorem add_any (j : Jb) (a : Option Addr) (c : Nat) (l : List UInt8) (w : World) (lab : Nat → HK) (yb : Nat) (Y : Yd) (N : Nat) (h : YAt w lab yb Y) (hj : j.ok) (hb : IsBytes w a c l) (hl : l.length ≤ 100000000) (hs : j.nm.size ≤ 100000000) (hf : Few Y N) (hN : N ≤ 100000000) :
    Calls Try.prog 18 #[ptrV yb, .agg (j.cells (.slice a l.length c))] w fun e w' => e = .returned (.int .i64 (addE Y.L j l.length)) ∧ Added w lab yb Y j l w' := by
  obtain ⟨n, hn⟩ : ∃ n, n = l.length := ⟨_, rfl⟩
  obtain ⟨bv, hbv⟩ : ∃ bv, bv = Value.slice a n c := ⟨_, rfl⟩
  obtain ⟨jb, hjb⟩ : ∃ jb, jb = w.heap.size := ⟨_, rfl⟩
  obtain ⟨w1, hw1⟩ : ∃ w1, w1 = w.alloc (.cells (j.cells bv) 41) := ⟨_, rfl⟩
  obtain ⟨lab1, hlab1⟩ : ∃ lab1 : Nat → HK, lab1 = fun k => if k < w.heap.size then lab k else uT := ⟨_, rfl⟩
  have S1 : Sq w lab yb jb j bv w1 lab1 Y := by rw [hjb, hw1, hlab1]; exact Sq.begin h j bv
  obtain ⟨d, r, hd, hr⟩ := S1.yard.two
  have y0 := (S1.yard.cells hd hr).1
  have q0 := S1.job.at.1
  have jlt := S1.job.lt
  have ylt := S1.yard.yb_lt
  obtain ⟨E, hE⟩ : ∃ E, E = lookD Y.L j.id := ⟨_, rfl⟩
  obtain ⟨bq, hbq⟩ : ∃ bq, bq = (lookE Y.L j.id).isSome := ⟨_, rfl⟩
  have EO : Hid (E.cells.all (·.oneCell') = true) := by
    obtain ⟨a2, c2, e2, _⟩ := S1.yard.lookBody j.id
    rw [← hE] at e2
    show (entA E.j E.bv E.t0 E.t1).all (·.oneCell') = true
    rw [e2]
    exact ent_one _ _ _ _ _ _
  have HE : Hid (E = lookD Y.L j.id ∧ bq = (lookE Y.L j.id).isSome) := ⟨hE, hbq⟩
  have HS1 : Hid (Sq w lab yb jb j bv w1 lab1 Y) := S1
  have HW1 : Hid (w1 = w.alloc (.cells (j.cells bv) 41)) := hw1
  have HJB : Hid (jb = w.heap.size) := hjb
  have HF : Hid (Few Y N) := hf
  have HJ : Hid j.ok := hj
  have HB : Hid (IsBytes w a c l) := hb
  have HN : Hid (n = l.length) := hn
  have HBV : Hid (bv = .slice a n c) := hbv
  have HA : Hid (addE Y.L j n = if bq = true ∨ j.id < 1 ∨ 1099511627776 < j.id then 150 else if stB j.st = false then 151 else if fitB j n = false then 152 else 0) := by rw [hbq]; rfl
  have hnl : n ≤ 100000000 := by omega
  rw [← hn, ← hbv]
  clear hw1 hjb S1 hlab1 h hf hbq hE hb hn hbv hl hd hr hj
  go_enter Try.func18, Try.ntmps18
  go_upto_region 1 with fail
  rw [← HW1.out, ← HJB.out]
  have VT : VTabI w1.drew Y.jm Y.L.length (fun i => (lookE Y.L i).map En.val) := HS1.out.yard.jobs.later (Below.refl _ w1).drew
  have sq : w1.drew.cell? ⟨yb, 0, none⟩ = some (.map (some Y.jm)) ∧ w1.drew.cell? ⟨jb, 0, none⟩ = some (.int .i64 j.id) ∧ VTabI w1.drew Y.jm Y.L.length (fun i => (lookE Y.L i).map En.val) := ⟨y0, q0, VT⟩
  refine wp_region_held_drew (S := fun X => X.cell? ⟨yb, 0, none⟩ = some (.map (some Y.jm)) ∧ X.cell? ⟨jb, 0, none⟩ = some (.int .i64 j.id) ∧ VTabI X Y.jm Y.L.length (fun i => (lookE Y.L i).map En.val)) (by kernel_rfl) sq (fun _ => ?_)
  refine H_take (i := 0) (v := ptrV yb) (some 8) rfl rfl (by kernel_rfl) (by kernel_rfl) (by kernel_rfl) (fun _ _ _ h => h) rfl (fun X hX => ?_) sq ?_
  · simp [go_sem]
  simp only [Act.put, List.setIfInBounds_toArray, List.set_cons_zero, List.set_cons_succ]
  refine H_take (i := 1) (v := ptrV yb) (some 9) rfl rfl (by kernel_rfl) (by kernel_rfl) (by kernel_rfl) (fun _ _ _ h => h) rfl (fun X hX => ?_) sq ?_
  · simp [go_sem]
  simp only [Act.put, List.setIfInBounds_toArray, List.set_cons_zero, List.set_cons_succ]
  refine H_take (i := 2) (v := .pointer (some ⟨yb, 0, none⟩)) (some 10) rfl rfl (by kernel_rfl) (by kernel_rfl) (by kernel_rfl) (fun _ _ _ h => h) rfl (fun X hX => ?_) sq ?_
  · simp [go_sem]
  simp only [Act.put, List.setIfInBounds_toArray, List.set_cons_zero, List.set_cons_succ]
  refine H_take (i := 3) (v := .map (some Y.jm)) (some 11) rfl rfl (by kernel_rfl) (by kernel_rfl) (by kernel_rfl) (fun _ _ _ h => h) rfl (fun X hX => ?_) sq ?_
  · exact run_load1 rfl rfl Try.isAgg54 hX.1
  simp only [Act.put, List.setIfInBounds_toArray, List.set_cons_zero, List.set_cons_succ]
  refine H_take (i := 4) (v := .pointer (some ⟨jb, 0, none⟩)) (some 12) rfl rfl (by kernel_rfl) (by kernel_rfl) (by kernel_rfl) (fun _ _ _ h => h) rfl (fun X hX => ?_) sq ?_
  · simp [go_sem]
  simp only [Act.put, List.setIfInBounds_toArray, List.set_cons_zero, List.set_cons_succ]
  refine H_take (i := 5) (v := .int .i64 j.id) (some 13) rfl rfl (by kernel_rfl) (by kernel_rfl) (by kernel_rfl) (fun _ _ _ h => h) rfl (fun X hX => ?_) sq ?_
  · exact run_load1 rfl rfl Try.isAgg3 hX.2.1
  simp only [Act.put, List.setIfInBounds_toArray, List.set_cons_zero, List.set_cons_succ]
  refine H_take (i := 6) (v := .tuple #[.agg E.cells, .bool bq]) (some 14) rfl rfl (by kernel_rfl) (by kernel_rfl) (by kernel_rfl) (fun _ _ _ h => h) rfl (fun X hX => ?_) sq ?_
  · have := hX.2.2.look2_run (w := X) Try.underlying54 (zero_ent _) j.id HJ.out.1
    rw [lookD_val, Option.isSome_map, ← HE.out.1, ← HE.out.2] at this
    simp [execOp, Act.eval, this, Result.andThen]
    rfl
  simp only [Act.put, List.setIfInBounds_toArray, List.set_cons_zero, List.set_cons_succ]
  refine H_take (i := 7) (v := .tuple #[.agg E.cells, .bool bq]) (some 7) rfl rfl (by kernel_rfl) (by kernel_rfl) (by kernel_rfl) (fun _ _ _ h => h) rfl (fun X hX => ?_) sq ?_
  · simp [go_sem]
  simp only [Act.put, List.setIfInBounds_toArray, List.set_cons_zero, List.set_cons_succ]
  refine H_take (i := 8) (v := .agg E.cells) (some 15) rfl rfl (by kernel_rfl) (by kernel_rfl) (by kernel_rfl) (fun _ _ _ h => h) rfl (fun X hX => ?_) sq ?_
  · simp [go_sem]
  simp only [Act.put, List.setIfInBounds_toArray, List.set_cons_zero, List.set_cons_succ]
  refine H_take (i := 9) (v := .bool bq) (some 16) rfl rfl (by kernel_rfl) (by kernel_rfl) (by kernel_rfl) (fun _ _ _ h => h) rfl (fun X hX => ?_) sq ?_
  · simp [go_sem]
  simp only [Act.put, List.setIfInBounds_toArray, List.set_cons_zero, List.set_cons_succ]
  have bA : Below w1.drew.heap.size w1.drew (w1.drew.alloc (.cells en0.cells 71)) := (Below.refl _ _).alloc (Nat.le_refl _) _
  refine H_value (i := 10) (v := .pointer (some ⟨w1.drew.heap.size, 0, none⟩)) (some 5) rfl rfl (by kernel_rfl) rfl (run_allocE rfl) ⟨cell_kept bA sq.1, cell_kept bA sq.2.1, sq.2.2.later bA⟩ ?_
  simp only [Act.put, List.setIfInBounds_toArray, List.set_cons_zero, List.set_cons_succ]
  have bB : Below w1.drew.heap.size w1.drew (w1.drew.alloc (.cells E.cells 71)) := (Below.refl _ _).alloc (Nat.le_refl _) _
  refine H_skip (i := 11) (w' := w1.drew.alloc (.cells E.cells 71)) rfl rfl (by kernel_rfl) rfl (run_storeE rfl rfl rfl (ent_cells_size E) (ent_cells_size en0) EO.out) ⟨cell_kept bB sq.1, cell_kept bB sq.2.1, sq.2.2.later bB⟩ ?_
  refine H_take (i := 12) (v := .bool bq) (some 6) rfl rfl (by kernel_rfl) (by kernel_rfl) (by kernel_rfl) (fun _ _ _ h => h) rfl (fun X hX => ?_) ⟨cell_kept bB sq.1, cell_kept bB sq.2.1, sq.2.2.later bB⟩ ?_
  · simp [go_sem]
  simp only [Act.put, List.setIfInBounds_toArray, List.set_cons_zero, List.set_cons_succ]
  refine wpAnyH_done (by kernel_rfl) ?_ _
  obtain ⟨w2, hw2⟩ : ∃ w2, w2 = w1.drew.alloc (.cells E.cells 71) := ⟨_, rfl⟩
  have S2 : Hid (Sq w lab yb jb j bv w2 (fun k => if k < w1.heap.size then lab1 k else uT) Y) := by rw [hw2]; exact HS1.out.later ((Below.refl _ w1).drew.trans bB) uT
  rw [← hw2]
  obtain ⟨lab2, hlab2⟩ : ∃ lab2 : Nat → HK, lab2 = fun k => if k < w1.heap.size then lab1 k else uT := ⟨_, rfl⟩
  rw [← hlab2] at S2
  have q0 := S2.out.job.at.1
  have q5 := S2.out.job.at.2.1
  have jlt := S2.out.job.lt
  clear hw2 hlab2 VT sq bA bB HS1 HW1 y0 ylt
  have BAD : Hid (∀ x W, addE Y.L j n = x → x ≠ 0 → Below w2.heap.size w2 W → Added w lab yb Y j l W) := fun x W hx h0 hbW => by
    rw [HN.out] at hx
    have s3 := S2.out.later hbW uT
    exact ⟨fun hz => absurd (hx.symm.trans hz) h0, fun _ => ⟨_, s3.yard, s3.labs, s3.kept⟩⟩
  cases bq
  case true =>
    go_wp2_with fail
    go_ret
    have e9 : addE Y.L j n = 150 := by rw [HA.out]; simp
    exact ⟨by rw [e9]; rfl, BAD.out 150 _ e9 (by decide) (Below.refl _ _)⟩
  case false =>
    by_cases h1 : j.id < 1
    · go_wp2_with fail
      go_ret
      have e9 : addE Y.L j n = 150 := by rw [HA.out, if_pos (.inr (.inl h1))]
      exact ⟨by rw [e9]; rfl, BAD.out 150 _ e9 (by decide) (Below.refl _ _)⟩
    · by_cases h2 : 1099511627776 < j.id
      · go_wp2_with fail
        go_ret
        have e9 : addE Y.L j n = 150 := by rw [HA.out, if_pos (.inr (.inr h2))]
        exact ⟨by rw [e9]; rfl, BAD.out 150 _ e9 (by decide) (Below.refl _ _)⟩
      · have HA2 : Hid (addE Y.L j n = if stB j.st = false then 151 else if fitB j n = false then 152 else 0) := by
          have z : addE Y.L j n = if stB j.st = false then 151 else if fitB j n = false then 152 else 0 := by rw [HA.out, if_neg (by simp; omega)]
          exact z
        generalize hsb : stB j.st = sb at HA2
        generalize hfb : fitB j n = fb at HA2
        have CI : Hid (∀ W, Calls Try.prog 36 #[.int .i64 j.st] W fun e w' => e = .returned (.bool sb) ∧ w' = W) := fun W => by rw [← hsb]; exact isState_any j.st W
        have CF : Hid (∀ W, Calls Try.prog 37 #[.agg (j.cells bv)] W fun e w' => e = .returned (.bool fb) ∧ Below W.heap.size W w') := fun W => by rw [← hfb, HBV.out]; exact fits_any j a n c W (by omega) HJ.out.2.2.2.2.2.2.2.2.2.2.2.2.2.2
        have HSB : Hid (stB j.st = sb ∧ fitB j n = fb) := ⟨hsb, hfb⟩
        clear hsb hfb HA
        cases sb
        · go_wp2_with (first
            | (go_at_call 36; refine (CI.out _).mono ?_; rintro e wq ⟨rfl, hwq⟩; have hwq := hwq.symm; subst hwq))
          go_ret
          have e9 : addE Y.L j n = 151 := by rw [HA2.out]; simp
          exact ⟨by rw [e9]; rfl, BAD.out 151 _ e9 (by decide) (Below.refl _ _)⟩
        · have J2 : Hid (JobBox w2 jb j bv) := S2.out.job
          go_upto_if 34 with (first
            | (go_at_call 36; refine (CI.out _).mono ?_; rintro e wq ⟨rfl, hwq⟩; have hwq := hwq.symm; subst hwq)
            | (refine wpList_load_row rfl 41 (.tmp 3) rfl jb rfl 41 (j.cells bv) (0, 0) _ J2.out Try.underlying41 rfl (job_size j bv) ?_)
            | (go_at_call 37; refine (CF.out _).mono ?_; rintro e w3 ⟨rfl, b3⟩; have B3 : Hid (Below w2.heap.size w2 w3) := b3; clear b3))
          cases fb
          · go_wp2_with fail
            go_ret
            have e9 : addE Y.L j n = 152 := by rw [HA2.out]; simp
            exact ⟨by rw [e9]; rfl, BAD.out 152 _ e9 (by decide) B3.out⟩
          · have E9 : Hid (addE Y.L j n = 0) := by
              have z : addE Y.L j n = 0 := by rw [HA2.out]; simp
              exact z
            obtain ⟨lab3, hlab3⟩ : ∃ lab3 : Nat → HK, lab3 = fun k => if k < w2.heap.size then lab2 k else uT := ⟨_, rfl⟩
            have S3 : Hid (Sq w lab yb jb j bv w3 lab3 Y) := by rw [hlab3]; exact S2.out.later B3.out uT
            clear hlab3 J2 CI CF HA2 BAD q0 q5 jlt EO
            have jlt := S3.out.job.lt
            go_upto_region 8 with fail
            have BQ : Hid (∀ W, Below w3.heap.size w3 W → W.cell? ⟨jb, 14, none⟩ = some (.string j.nm) ∧ W.cell? ⟨jb, 15, none⟩ = some bv ∧ (∀ k, W.frozen? ⟨jb, k, none⟩ = false) ∧ IsBytes W a c l) := fun W hW => by
              have j4 := S3.out.job.later hW
              exact ⟨j4.at.2.2.2.1, j4.at.2.2.2.2, j4.frozen, HB.out.below (S3.out.kept.below (B := w.heap.size) (Nat.le_refl _) (fun _ _ h => h) |>.trans (hW.mono S3.out.kept.size))⟩
            go_cut [] from 35 to 42 (fun wx => ∃ labx v, Hid (Sq w lab yb jb j v wx labx Y ∧ BodyAt wx labx v l))
            case first =>
              refine wp_region_any mixed ?_
              refine A_take (i := 0) (v := .pointer (some ⟨jb, 14, none⟩)) (some 35) rfl rfl (by kernel_rfl) (by kernel_rfl) (by kernel_rfl) (fun _ _ _ h => h) (.inl ⟨rfl, fun w => ?_⟩) ?_
              · simp [go_sem]
              simp only [Act.put, List.setIfInBounds_toArray, List.set_cons_zero, List.set_cons_succ]
              refine A_take (i := 3) (v := .pointer (some ⟨jb, 15, none⟩)) (some 38) rfl rfl (by kernel_rfl) (by kernel_rfl) (by kernel_rfl) (fun _ _ _ h => h) (.inl ⟨rfl, fun w => ?_⟩) ?_
              · simp [go_sem]
              simp only [Act.put, List.setIfInBounds_toArray, List.set_cons_zero, List.set_cons_succ]
              have HBc : Below w3.heap.size w3 w3.drew := (Below.refl _ w3).drew
              refine wpAny_all (rs := [1, 4]) (by kernel_rfl) (by decide) (fun i hi => ?_)
              have hi2 : i = 1 ∨ i = 4 := by simpa using hi
              rcases hi2 with rfl | rfl
              · refine D_value (v := .string j.nm) (some 36) rfl rfl rfl (run_load1 rfl rfl Try.isAgg9 (BQ.out _ HBc).1) ?_
                simp only [Act.put, List.setIfInBounds_toArray, List.set_cons_zero, List.set_cons_succ]
                refine wpAny_all (rs := [2, 4]) (by kernel_rfl) (by decide) (fun i hi => ?_)
                have hi2 : i = 2 ∨ i = 4 := by simpa using hi
                rcases hi2 with rfl | rfl
                · refine D_call (f := 38) (args := #[.string j.nm]) (some 37) rfl rfl rfl (by simp [go_sem]) ((text_any j.nm _ (by omega)).mono ?_)
                  rintro e w4 ⟨rfl, b4⟩
                  refine ⟨_, rfl, ?_⟩
                  have HBc := HBc.trans (b4.mono HBc.size)
                  simp only [Act.put, List.setIfInBounds_toArray, List.set_cons_zero, List.set_cons_succ]
                  refine wpAny_all (rs := [4]) (by kernel_rfl) (by decide) (fun i hi => ?_)
                  obtain rfl : i = 4 := by simpa using hi
                  refine D_value (v := bv) (some 39) rfl rfl rfl (run_load1 rfl rfl Try.isAgg39 (BQ.out _ HBc).2.1) ?_
                  simp only [Act.put, List.setIfInBounds_toArray, List.set_cons_zero, List.set_cons_succ]
                  refine A_take (i := 6) (v := .pointer (some ⟨jb, 14, none⟩)) (some 41) rfl rfl (by kernel_rfl) (by kernel_rfl) (by kernel_rfl) (fun _ _ _ h => h) (.inl ⟨rfl, fun w => ?_⟩) ?_
                  · simp [go_sem]
                  simp only [Act.put, List.setIfInBounds_toArray, List.set_cons_zero, List.set_cons_succ]
                  refine wpAny_all (rs := [5]) (by kernel_rfl) (by decide) (fun i hi => ?_)
                  obtain rfl : i = 5 := by simpa using hi
                  have CL := clone_any a c l _ (BQ.out _ HBc).2.2.2 (by have := HN.out; omega)
                  rw [← HN.out, ← HBV.out] at CL
                  refine D_call (f := 39) (args := #[bv]) (some 40) rfl rfl rfl (by simp [go_sem]) (CL.mono ?_)
                  rintro e w5 ⟨v5, rfl, o5, b5⟩
                  have h3 := HBc.size
                  have HBd := HBc.trans (b5.mono HBc.size)
                  have o6 : Own w5 w3.heap.size v5 l := o5.wide h3
                  obtain ⟨a6, c6, e6, _⟩ := o6.shape
                  refine ⟨_, rfl, ?_⟩
                  simp only [Act.put, List.setIfInBounds_toArray, List.set_cons_zero, List.set_cons_succ]
                  refine wpAny_all (rs := [7]) (by kernel_rfl) (by decide) (fun i hi => ?_)
                  obtain rfl : i = 7 := by simpa using hi
                  refine D_skip (w' := w5.setCell ⟨jb, 14, none⟩ (.string j.nm)) rfl rfl rfl ?_ ?_
                  · simp [go_sem, (BQ.out _ HBd).1, (BQ.out _ HBd).2.2.1 14]
                  refine A_take (i := 8) (v := .pointer (some ⟨jb, 15, none⟩)) (some 42) rfl rfl (by kernel_rfl) (by kernel_rfl) (by kernel_rfl) (fun _ _ _ h => h) (.inl ⟨rfl, fun w => ?_⟩) ?_
                  · simp [go_sem]
                  simp only [Act.put, List.setIfInBounds_toArray, List.set_cons_zero, List.set_cons_succ]
                  refine wpAny_all (rs := [9]) (by kernel_rfl) (by decide) (fun i hi => ?_)
                  obtain rfl : i = 9 := by simpa using hi
                  subst e6
                  refine D_skip (w' := (w5.setCell ⟨jb, 14, none⟩ (.string j.nm)).setCell ⟨jb, 15, none⟩ (.slice a6 l.length c6)) rfl rfl rfl ?_ ?_
                  · simp [go_sem, (BQ.out _ HBd).2.1, (BQ.out _ HBd).2.2.1 15]
                  refine wpAny_done (by kernel_rfl) ?_ _
                  have F5 : Hid (Sq w lab yb jb j (.slice a6 l.length c6) ((w5.setCell ⟨jb, 14, none⟩ (.string j.nm)).setCell ⟨jb, 15, none⟩ (.slice a6 l.length c6)) (fun k => if k < w3.heap.size then lab3 k else (8, eB, 0)) Y ∧ BodyAt ((w5.setCell ⟨jb, 14, none⟩ (.string j.nm)).setCell ⟨jb, 15, none⟩ (.slice a6 l.length c6)) (fun k => if k < w3.heap.size then lab3 k else (8, eB, 0)) (.slice a6 l.length c6) l) := S3.out.body HBd o6
                  obtain ⟨w6, hw6⟩ : ∃ w6, w6 = (w5.setCell ⟨jb, 14, none⟩ (.string j.nm)).setCell ⟨jb, 15, none⟩ (.slice a6 l.length c6) := ⟨_, rfl⟩
                  rw [← hw6] at F5 ⊢
                  clear hw6 o5 o6 HBd HBc CL
                  go_wp2_with fail
                  go_meet
                  exact ⟨_, _, F5⟩
                · refine D_value (v := bv) (some 39) rfl rfl rfl (run_load1 rfl rfl Try.isAgg39 (BQ.out _ HBc).2.1) ?_
                  simp only [Act.put, List.setIfInBounds_toArray, List.set_cons_zero, List.set_cons_succ]
                  refine wpAny_all (rs := [2]) (by kernel_rfl) (by decide) (fun i hi => ?_)
                  obtain rfl : i = 2 := by simpa using hi
                  refine D_call (f := 38) (args := #[.string j.nm]) (some 37) rfl rfl rfl (by simp [go_sem]) ((text_any j.nm _ (by omega)).mono ?_)
                  rintro e w4 ⟨rfl, b4⟩
                  refine ⟨_, rfl, ?_⟩
                  have HBc := HBc.trans (b4.mono HBc.size)
                  simp only [Act.put, List.setIfInBounds_toArray, List.set_cons_zero, List.set_cons_succ]
                  refine A_take (i := 6) (v := .pointer (some ⟨jb, 14, none⟩)) (some 41) rfl rfl (by kernel_rfl) (by kernel_rfl) (by kernel_rfl) (fun _ _ _ h => h) (.inl ⟨rfl, fun w => ?_⟩) ?_
                  · simp [go_sem]
                  simp only [Act.put, List.setIfInBounds_toArray, List.set_cons_zero, List.set_cons_succ]
                  refine wpAny_all (rs := [5]) (by kernel_rfl) (by decide) (fun i hi => ?_)
                  obtain rfl : i = 5 := by simpa using hi
                  have CL := clone_any a c l _ (BQ.out _ HBc).2.2.2 (by have := HN.out; omega)
                  rw [← HN.out, ← HBV.out] at CL
                  refine D_call (f := 39) (args := #[bv]) (some 40) rfl rfl rfl (by simp [go_sem]) (CL.mono ?_)
                  rintro e w5 ⟨v5, rfl, o5, b5⟩
                  have h3 := HBc.size
                  have HBd := HBc.trans (b5.mono HBc.size)
                  have o6 : Own w5 w3.heap.size v5 l := o5.wide h3
                  obtain ⟨a6, c6, e6, _⟩ := o6.shape
                  refine ⟨_, rfl, ?_⟩
                  simp only [Act.put, List.setIfInBounds_toArray, List.set_cons_zero, List.set_cons_succ]
                  refine wpAny_all (rs := [7]) (by kernel_rfl) (by decide) (fun i hi => ?_)
                  obtain rfl : i = 7 := by simpa using hi
                  refine D_skip (w' := w5.setCell ⟨jb, 14, none⟩ (.string j.nm)) rfl rfl rfl ?_ ?_
                  · simp [go_sem, (BQ.out _ HBd).1, (BQ.out _ HBd).2.2.1 14]
                  refine A_take (i := 8) (v := .pointer (some ⟨jb, 15, none⟩)) (some 42) rfl rfl (by kernel_rfl) (by kernel_rfl) (by kernel_rfl) (fun _ _ _ h => h) (.inl ⟨rfl, fun w => ?_⟩) ?_
                  · simp [go_sem]
                  simp only [Act.put, List.setIfInBounds_toArray, List.set_cons_zero, List.set_cons_succ]
                  refine wpAny_all (rs := [9]) (by kernel_rfl) (by decide) (fun i hi => ?_)
                  obtain rfl : i = 9 := by simpa using hi
                  subst e6
                  refine D_skip (w' := (w5.setCell ⟨jb, 14, none⟩ (.string j.nm)).setCell ⟨jb, 15, none⟩ (.slice a6 l.length c6)) rfl rfl rfl ?_ ?_
                  · simp [go_sem, (BQ.out _ HBd).2.1, (BQ.out _ HBd).2.2.1 15]
                  refine wpAny_done (by kernel_rfl) ?_ _
                  have F5 : Hid (Sq w lab yb jb j (.slice a6 l.length c6) ((w5.setCell ⟨jb, 14, none⟩ (.string j.nm)).setCell ⟨jb, 15, none⟩ (.slice a6 l.length c6)) (fun k => if k < w3.heap.size then lab3 k else (8, eB, 0)) Y ∧ BodyAt ((w5.setCell ⟨jb, 14, none⟩ (.string j.nm)).setCell ⟨jb, 15, none⟩ (.slice a6 l.length c6)) (fun k => if k < w3.heap.size then lab3 k else (8, eB, 0)) (.slice a6 l.length c6) l) := S3.out.body HBd o6
                  obtain ⟨w6, hw6⟩ : ∃ w6, w6 = (w5.setCell ⟨jb, 14, none⟩ (.string j.nm)).setCell ⟨jb, 15, none⟩ (.slice a6 l.length c6) := ⟨_, rfl⟩
                  rw [← hw6] at F5 ⊢
                  clear hw6 o5 o6 HBd HBc CL
                  go_wp2_with fail
                  go_meet
                  exact ⟨_, _, F5⟩
              · refine D_value (v := bv) (some 39) rfl rfl rfl (run_load1 rfl rfl Try.isAgg39 (BQ.out _ HBc).2.1) ?_
                simp only [Act.put, List.setIfInBounds_toArray, List.set_cons_zero, List.set_cons_succ]
                refine wpAny_all (rs := [1]) (by kernel_rfl) (by decide) (fun i hi => ?_)
                obtain rfl : i = 1 := by simpa using hi
                refine D_value (v := .string j.nm) (some 36) rfl rfl rfl (run_load1 rfl rfl Try.isAgg9 (BQ.out _ HBc).1) ?_
                simp only [Act.put, List.setIfInBounds_toArray, List.set_cons_zero, List.set_cons_succ]
                refine wpAny_all (rs := [2]) (by kernel_rfl) (by decide) (fun i hi => ?_)
                obtain rfl : i = 2 := by simpa using hi
                refine D_call (f := 38) (args := #[.string j.nm]) (some 37) rfl rfl rfl (by simp [go_sem]) ((text_any j.nm _ (by omega)).mono ?_)
                rintro e w4 ⟨rfl, b4⟩
                refine ⟨_, rfl, ?_⟩
                have HBc := HBc.trans (b4.mono HBc.size)
                simp only [Act.put, List.setIfInBounds_toArray, List.set_cons_zero, List.set_cons_succ]
                refine A_take (i := 6) (v := .pointer (some ⟨jb, 14, none⟩)) (some 41) rfl rfl (by kernel_rfl) (by kernel_rfl) (by kernel_rfl) (fun _ _ _ h => h) (.inl ⟨rfl, fun w => ?_⟩) ?_
                · simp [go_sem]
                simp only [Act.put, List.setIfInBounds_toArray, List.set_cons_zero, List.set_cons_succ]
                refine wpAny_all (rs := [5]) (by kernel_rfl) (by decide) (fun i hi => ?_)
                obtain rfl : i = 5 := by simpa using hi
                have CL := clone_any a c l _ (BQ.out _ HBc).2.2.2 (by have := HN.out; omega)
                rw [← HN.out, ← HBV.out] at CL
                refine D_call (f := 39) (args := #[bv]) (some 40) rfl rfl rfl (by simp [go_sem]) (CL.mono ?_)
                rintro e w5 ⟨v5, rfl, o5, b5⟩
                have h3 := HBc.size
                have HBd := HBc.trans (b5.mono HBc.size)
                have o6 : Own w5 w3.heap.size v5 l := o5.wide h3
                obtain ⟨a6, c6, e6, _⟩ := o6.shape
                refine ⟨_, rfl, ?_⟩
                simp only [Act.put, List.setIfInBounds_toArray, List.set_cons_zero, List.set_cons_succ]
                refine wpAny_all (rs := [7]) (by kernel_rfl) (by decide) (fun i hi => ?_)
                obtain rfl : i = 7 := by simpa using hi
                refine D_skip (w' := w5.setCell ⟨jb, 14, none⟩ (.string j.nm)) rfl rfl rfl ?_ ?_
                · simp [go_sem, (BQ.out _ HBd).1, (BQ.out _ HBd).2.2.1 14]
                refine A_take (i := 8) (v := .pointer (some ⟨jb, 15, none⟩)) (some 42) rfl rfl (by kernel_rfl) (by kernel_rfl) (by kernel_rfl) (fun _ _ _ h => h) (.inl ⟨rfl, fun w => ?_⟩) ?_
                · simp [go_sem]
                simp only [Act.put, List.setIfInBounds_toArray, List.set_cons_zero, List.set_cons_succ]
                refine wpAny_all (rs := [9]) (by kernel_rfl) (by decide) (fun i hi => ?_)
                obtain rfl : i = 9 := by simpa using hi
                subst e6
                refine D_skip (w' := (w5.setCell ⟨jb, 14, none⟩ (.string j.nm)).setCell ⟨jb, 15, none⟩ (.slice a6 l.length c6)) rfl rfl rfl ?_ ?_
                · simp [go_sem, (BQ.out _ HBd).2.1, (BQ.out _ HBd).2.2.1 15]
                refine wpAny_done (by kernel_rfl) ?_ _
                have F5 : Hid (Sq w lab yb jb j (.slice a6 l.length c6) ((w5.setCell ⟨jb, 14, none⟩ (.string j.nm)).setCell ⟨jb, 15, none⟩ (.slice a6 l.length c6)) (fun k => if k < w3.heap.size then lab3 k else (8, eB, 0)) Y ∧ BodyAt ((w5.setCell ⟨jb, 14, none⟩ (.string j.nm)).setCell ⟨jb, 15, none⟩ (.slice a6 l.length c6)) (fun k => if k < w3.heap.size then lab3 k else (8, eB, 0)) (.slice a6 l.length c6) l) := S3.out.body HBd o6
                obtain ⟨w6, hw6⟩ : ∃ w6, w6 = (w5.setCell ⟨jb, 14, none⟩ (.string j.nm)).setCell ⟨jb, 15, none⟩ (.slice a6 l.length c6) := ⟨_, rfl⟩
                rw [← hw6] at F5 ⊢
                clear hw6 o5 o6 HBd HBc CL
                go_wp2_with fail
                go_meet
                exact ⟨_, _, F5⟩
            case rest =>
              obtain ⟨lab5, v5, H5⟩ := hcut
              have J5 : Hid (JobBox wc jb j v5) := H5.out.1.job
              have CLY : Hid (Calls Try.prog 40 #[ptrV yb, .agg (j.cells v5)] wc fun e w' => e = .returned (.tuple #[]) ∧ Laid wc lab5 yb Y j v5 l w') := by
                refine lay_any j v5 l wc lab5 yb Y N H5.out.1.yard HJ.out H5.out.2 HF.out hN ?_
                have := HE.out.2
                cases hx : lookE Y.L j.id with
                | none => rfl
                | some x => rw [hx] at this; simp at this
              clear BQ S3 B3 S2
              go_wp2_with (first
                | (refine wpList_load_row rfl 41 (.tmp 3) rfl jb rfl 41 (j.cells v5) (0, 0) _ J5.out Try.underlying41 rfl (job_size j v5) ?_)
                | (go_at_call 40; refine CLY.out.mono ?_; rintro e w9 ⟨rfl, l9⟩; have L9 : Hid (Laid wc lab5 yb Y j v5 l w9) := l9; clear l9))
              go_ret
              refine ⟨by rw [E9.out]; rfl, fun _ => ⟨v5, wc, lab5, H5.out.1.yard, H5.out.2, H5.out.1.labs, H5.out.1.kept, L9.out⟩, fun h0 => absurd (by rw [← HN.out]; exact E9.out) h0⟩
end Go.Proofs.Ytonfdmbcbfpgdaa
