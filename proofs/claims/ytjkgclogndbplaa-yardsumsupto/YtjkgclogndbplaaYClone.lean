/-
  The walk of Clone of a yard without jobs.
-/
import Derived.Test.YtjkgclogndbplaaYClone0
namespace Go.Proofs.Ytjkgclogndbplaa
open Go.RowKit Go.Maps
set_option maxHeartbeats 16000000 in
set_option maxRecDepth 1000000 in
theorem clone_empty (w : World) (lab : Nat → HK) (yb jm : Nat) (d r : HM) (h : YAt w lab yb (yd0 jm d r)) (hdR : d.R = []) (hrR : r.R = []) :
    Calls Try.prog 22 #[ptrV yb] w fun x w' => (∃ b, x = .returned (ptrV b)) ∧ Below w.heap.size w w' := by
  have hd : (yd0 jm d r).hp hkD = some d := rfl
  have hr : (yd0 jm d r).hp hkR = some r := rfl
  obtain ⟨y0, y1, y2, y3, y4⟩ := h.cells hd hr
  obtain ⟨d', r', hd', hr', hbox⟩ := h.box
  have c5 := fun k u hu => sums_cells (pre := [.map (some jm), .map (some (jm + 1)), .map (some (jm + 2)), ptrV d'.hb, ptrV r'.hb]) hbox k u hu
  have ylt := h.yb_lt
  have hTD := (h.heap _ _ hd).2.at_
  have hTR := (h.heap _ _ hr).2.at_
  rw [hdR] at hTD
  rw [hrR] at hTR
  obtain ⟨ct, het⟩ := vtab_emptyS (show VTabS w (jm + 1) 0 _ from h.tubs)
  obtain ⟨ch, heh⟩ := vtab_emptyI (show VTabI w (jm + 2) 0 _ from h.hels)
  have tlt := (Array.getElem?_eq_some_iff.1 het).1
  have hlt := (Array.getElem?_eq_some_iff.1 heh).1
  have BX : Hid (∀ X, Below w.heap.size w X → X.cell? ⟨yb, 0, none⟩ = some (.map (some jm)) ∧ X.cell? ⟨yb, 1, none⟩ = some (.map (some (jm + 1))) ∧ X.cell? ⟨yb, 2, none⟩ = some (.map (some (jm + 2))) ∧ X.cell? ⟨yb, 3, none⟩ = some (ptrV d.hb) ∧ X.cell? ⟨yb, 4, none⟩ = some (ptrV r.hb) ∧ X.heap[jm + 1]? = some (.map #[] ct) ∧ X.heap[jm + 2]? = some (.map #[] ch) ∧ X.rangeAt yb 5 sm0.cells) := fun X hX =>
    ⟨(hX.cell (p := ⟨yb, 0, none⟩) ylt).trans y0, (hX.cell (p := ⟨yb, 1, none⟩) ylt).trans y1, (hX.cell (p := ⟨yb, 2, none⟩) ylt).trans y2, (hX.cell (p := ⟨yb, 3, none⟩) ylt).trans y3, (hX.cell (p := ⟨yb, 4, none⟩) ylt).trans y4, (hX.block _ tlt).trans het, (hX.block _ hlt).trans heh, fun k u hu => (hX.cell (p := ⟨yb, 5 + k, none⟩) ylt).trans (c5 k u hu)⟩
  have C1 : Hid (∀ X, Below w.heap.size w X → Calls Try.prog 39 #[.map (some jm)] X fun e w' => ∃ q, e = .returned (.map (some q)) ∧ Below X.heap.size X w') := fun X hX => emapClone X jm _ _ (show VTabI X jm 0 _ from h.jobs.later hX)
  have C2 : Hid (∀ X, Below w.heap.size w X → Calls Try.prog 40 #[ptrV d.hb] X fun e w' => ∃ q, e = .returned (ptrV q) ∧ Below X.heap.size X w') := fun X hX => (cloneM X d.hb d.mb d.v _ _ d.last [] (hTD.later hX) (by simp)).mono (fun e w' hh => by obtain ⟨hb', v', mb', rfl, _, b, _⟩ := hh; exact ⟨hb', rfl, b⟩)
  have C3 : Hid (∀ X, Below w.heap.size w X → Calls Try.prog 40 #[ptrV r.hb] X fun e w' => ∃ q, e = .returned (ptrV q) ∧ Below X.heap.size X w') := fun X hX => (cloneM X r.hb r.mb r.v _ _ r.last [] (hTR.later hX) (by simp)).mono (fun e w' hh => by obtain ⟨hb', v', mb', rfl, _, b, _⟩ := hh; exact ⟨hb', rfl, b⟩)
  clear y0 y1 y2 y3 y4 hd hr hd' hr' hbox c5 hTD hTR het heh hdR hrR h
  go_enter Try.func22, Try.ntmps22
  go_upto_region 1 with fail
  go_cut [3] from 8 to 40 (fun s wx => ∃ b, s = .pointer (some ⟨b, 0, none⟩) ∧ Hid (Below w.heap.size w wx))
  case first =>
    have sq : Below w.heap.size w w.drew := (Below.refl _ w).drew
    refine wp_region_held_drew (S := fun X => Below w.heap.size w X) (by kernel_rfl) sq (fun _ => ?_)
    refine H_take (i := 0) (v := ptrV yb) (some 8) rfl rfl (by kernel_rfl) (by kernel_rfl) (by kernel_rfl) (fun _ _ _ h => h) rfl (fun X hX => ?_) sq ?_
    · simp [go_sem]
    simp only [Act.put, List.setIfInBounds_toArray, List.set_cons_zero, List.set_cons_succ]
    refine H_take (i := 1) (v := ptrV yb) (some 9) rfl rfl (by kernel_rfl) (by kernel_rfl) (by kernel_rfl) (fun _ _ _ h => h) rfl (fun X hX => ?_) sq ?_
    · simp [go_sem]
    simp only [Act.put, List.setIfInBounds_toArray, List.set_cons_zero, List.set_cons_succ]
    refine H_take (i := 2) (v := .pointer (some ⟨yb, 0, none⟩)) (some 10) rfl rfl (by kernel_rfl) (by kernel_rfl) (by kernel_rfl) (fun _ _ _ h => h) rfl (fun X hX => ?_) sq ?_
    · simp [go_sem]
    simp only [Act.put, List.setIfInBounds_toArray, List.set_cons_zero, List.set_cons_succ]
    refine H_take (i := 3) (v := .map (some jm)) (some 11) rfl rfl (by kernel_rfl) (by kernel_rfl) (by kernel_rfl) (fun _ _ _ h => h) rfl (fun X hX => ?_) sq ?_
    · exact run_load1 rfl rfl Try.isAgg58 (BX.out X hX).1
    simp only [Act.put, List.setIfInBounds_toArray, List.set_cons_zero, List.set_cons_succ]
    refine H_take (i := 5) (v := ptrV yb) (some 13) rfl rfl (by kernel_rfl) (by kernel_rfl) (by kernel_rfl) (fun _ _ _ h => h) rfl (fun X hX => ?_) sq ?_
    · simp [go_sem]
    simp only [Act.put, List.setIfInBounds_toArray, List.set_cons_zero, List.set_cons_succ]
    refine H_take (i := 6) (v := ptrV yb) (some 14) rfl rfl (by kernel_rfl) (by kernel_rfl) (by kernel_rfl) (fun _ _ _ h => h) rfl (fun X hX => ?_) sq ?_
    · simp [go_sem]
    simp only [Act.put, List.setIfInBounds_toArray, List.set_cons_zero, List.set_cons_succ]
    refine H_take (i := 7) (v := .pointer (some ⟨yb, 1, none⟩)) (some 15) rfl rfl (by kernel_rfl) (by kernel_rfl) (by kernel_rfl) (fun _ _ _ h => h) rfl (fun X hX => ?_) sq ?_
    · simp [go_sem]
    simp only [Act.put, List.setIfInBounds_toArray, List.set_cons_zero, List.set_cons_succ]
    refine H_take (i := 8) (v := .map (some (jm + 1))) (some 16) rfl rfl (by kernel_rfl) (by kernel_rfl) (by kernel_rfl) (fun _ _ _ h => h) rfl (fun X hX => ?_) sq ?_
    · exact run_load1 rfl rfl Try.isAgg59 (BX.out X hX).2.1
    simp only [Act.put, List.setIfInBounds_toArray, List.set_cons_zero, List.set_cons_succ]
    refine H_take (i := 11) (v := ptrV yb) (some 19) rfl rfl (by kernel_rfl) (by kernel_rfl) (by kernel_rfl) (fun _ _ _ h => h) rfl (fun X hX => ?_) sq ?_
    · simp [go_sem]
    simp only [Act.put, List.setIfInBounds_toArray, List.set_cons_zero, List.set_cons_succ]
    refine H_take (i := 12) (v := ptrV yb) (some 20) rfl rfl (by kernel_rfl) (by kernel_rfl) (by kernel_rfl) (fun _ _ _ h => h) rfl (fun X hX => ?_) sq ?_
    · simp [go_sem]
    simp only [Act.put, List.setIfInBounds_toArray, List.set_cons_zero, List.set_cons_succ]
    refine H_take (i := 13) (v := .pointer (some ⟨yb, 2, none⟩)) (some 21) rfl rfl (by kernel_rfl) (by kernel_rfl) (by kernel_rfl) (fun _ _ _ h => h) rfl (fun X hX => ?_) sq ?_
    · simp [go_sem]
    simp only [Act.put, List.setIfInBounds_toArray, List.set_cons_zero, List.set_cons_succ]
    refine H_take (i := 14) (v := .map (some (jm + 2))) (some 22) rfl rfl (by kernel_rfl) (by kernel_rfl) (by kernel_rfl) (fun _ _ _ h => h) rfl (fun X hX => ?_) sq ?_
    · exact run_load1 rfl rfl Try.isAgg60 (BX.out X hX).2.2.1
    simp only [Act.put, List.setIfInBounds_toArray, List.set_cons_zero, List.set_cons_succ]
    refine H_take (i := 17) (v := ptrV yb) (some 25) rfl rfl (by kernel_rfl) (by kernel_rfl) (by kernel_rfl) (fun _ _ _ h => h) rfl (fun X hX => ?_) sq ?_
    · simp [go_sem]
    simp only [Act.put, List.setIfInBounds_toArray, List.set_cons_zero, List.set_cons_succ]
    refine H_take (i := 18) (v := ptrV yb) (some 26) rfl rfl (by kernel_rfl) (by kernel_rfl) (by kernel_rfl) (fun _ _ _ h => h) rfl (fun X hX => ?_) sq ?_
    · simp [go_sem]
    simp only [Act.put, List.setIfInBounds_toArray, List.set_cons_zero, List.set_cons_succ]
    refine H_take (i := 19) (v := .pointer (some ⟨yb, 3, none⟩)) (some 27) rfl rfl (by kernel_rfl) (by kernel_rfl) (by kernel_rfl) (fun _ _ _ h => h) rfl (fun X hX => ?_) sq ?_
    · simp [go_sem]
    simp only [Act.put, List.setIfInBounds_toArray, List.set_cons_zero, List.set_cons_succ]
    refine H_take (i := 20) (v := ptrV d.hb) (some 28) rfl rfl (by kernel_rfl) (by kernel_rfl) (by kernel_rfl) (fun _ _ _ h => h) rfl (fun X hX => ?_) sq ?_
    · exact run_load1 rfl rfl Try.isAgg61 (BX.out X hX).2.2.2.1
    simp only [Act.put, List.setIfInBounds_toArray, List.set_cons_zero, List.set_cons_succ]
    refine H_take (i := 22) (v := ptrV yb) (some 30) rfl rfl (by kernel_rfl) (by kernel_rfl) (by kernel_rfl) (fun _ _ _ h => h) rfl (fun X hX => ?_) sq ?_
    · simp [go_sem]
    simp only [Act.put, List.setIfInBounds_toArray, List.set_cons_zero, List.set_cons_succ]
    refine H_take (i := 23) (v := ptrV yb) (some 31) rfl rfl (by kernel_rfl) (by kernel_rfl) (by kernel_rfl) (fun _ _ _ h => h) rfl (fun X hX => ?_) sq ?_
    · simp [go_sem]
    simp only [Act.put, List.setIfInBounds_toArray, List.set_cons_zero, List.set_cons_succ]
    refine H_take (i := 24) (v := .pointer (some ⟨yb, 4, none⟩)) (some 32) rfl rfl (by kernel_rfl) (by kernel_rfl) (by kernel_rfl) (fun _ _ _ h => h) rfl (fun X hX => ?_) sq ?_
    · simp [go_sem]
    simp only [Act.put, List.setIfInBounds_toArray, List.set_cons_zero, List.set_cons_succ]
    refine H_take (i := 25) (v := ptrV r.hb) (some 33) rfl rfl (by kernel_rfl) (by kernel_rfl) (by kernel_rfl) (fun _ _ _ h => h) rfl (fun X hX => ?_) sq ?_
    · exact run_load1 rfl rfl Try.isAgg61 (BX.out X hX).2.2.2.2.1
    simp only [Act.put, List.setIfInBounds_toArray, List.set_cons_zero, List.set_cons_succ]
    refine H_take (i := 27) (v := ptrV yb) (some 35) rfl rfl (by kernel_rfl) (by kernel_rfl) (by kernel_rfl) (fun _ _ _ h => h) rfl (fun X hX => ?_) sq ?_
    · simp [go_sem]
    simp only [Act.put, List.setIfInBounds_toArray, List.set_cons_zero, List.set_cons_succ]
    refine H_take (i := 28) (v := ptrV yb) (some 36) rfl rfl (by kernel_rfl) (by kernel_rfl) (by kernel_rfl) (fun _ _ _ h => h) rfl (fun X hX => ?_) sq ?_
    · simp [go_sem]
    simp only [Act.put, List.setIfInBounds_toArray, List.set_cons_zero, List.set_cons_succ]
    refine H_take (i := 29) (v := .pointer (some ⟨yb, 5, none⟩)) (some 37) rfl rfl (by kernel_rfl) (by kernel_rfl) (by kernel_rfl) (fun _ _ _ h => h) rfl (fun X hX => ?_) sq ?_
    · simp [go_sem]
    simp only [Act.put, List.setIfInBounds_toArray, List.set_cons_zero, List.set_cons_succ]
    refine H_take (i := 30) (v := .agg #[.int .i64 0, .int .i64 0, .int .i64 0, .int .i64 0, .int .i64 0]) (some 38) rfl rfl (by kernel_rfl) (by kernel_rfl) (by kernel_rfl) (fun _ _ _ h => h) rfl (fun X hX => ?_) sq ?_
    · have := run_loadAt_mid (P := Try.prog) X yb 5 27 sm0.cells _ (BX.out X hX).2.2.2.2.2.2.2 Try.underlying27 rfl (by kernel_rfl)
      simp [execOp, Act.eval, this, Result.andThen]
      rfl
    simp only [Act.put, List.setIfInBounds_toArray, List.set_cons_zero, List.set_cons_succ]
    obtain ⟨W0, hW0⟩ : ∃ W0, W0 = w.drew := ⟨_, rfl⟩
    have s0 : Below w.heap.size w W0 := by rw [hW0]; exact sq
    rw [← hW0]
    clear hW0 sq
    refine wpAnyH_all (rs := [4]) (by kernel_rfl) (by decide) (fun i hi => ?_)
    obtain rfl : i = 4 := by simpa using hi
    refine D_call (f := 39) (args := #[.map (some jm)]) (some 12) rfl rfl rfl (by simp [go_sem]) ((C1.out _ s0).mono ?_)
    rintro e W1 ⟨x4, rfl, bb⟩
    have s1 := s0.trans (bb.mono s0.size)
    refine ⟨_, rfl, s1, ?_⟩
    simp only [Act.put, List.setIfInBounds_toArray, List.set_cons_zero, List.set_cons_succ]
    refine H_take (i := 9) (v := .int .i64 0) (some 17) rfl rfl (by kernel_rfl) (by kernel_rfl) (by kernel_rfl) (fun _ _ _ h => h) rfl (fun X hX => ?_) s1 ?_
    · exact run_len0 Try.underlying59 rfl rfl (BX.out X hX).2.2.2.2.2.1
    simp only [Act.put, List.setIfInBounds_toArray, List.set_cons_zero, List.set_cons_succ]
    refine H_take (i := 15) (v := .int .i64 0) (some 23) rfl rfl (by kernel_rfl) (by kernel_rfl) (by kernel_rfl) (fun _ _ _ h => h) rfl (fun X hX => ?_) s1 ?_
    · exact run_len0 Try.underlying60 rfl rfl (BX.out X hX).2.2.2.2.2.2.1
    simp only [Act.put, List.setIfInBounds_toArray, List.set_cons_zero, List.set_cons_succ]
    refine wpAnyH_all (rs := [10, 16, 21]) (by kernel_rfl) (by decide) (fun i hi => ?_)
    have hi2 : i = 10 ∨ i = 16 ∨ i = 21 := by simpa using hi
    rcases hi2 with rfl | rfl | rfl
    · refine D_map (x := .tmp 17) (some 18) rfl rfl rfl Try.underlying59 rfl rfl (fun x10 W2 bb => ?_)
      have s2 := s1.trans (bb.mono s1.size)
      refine ⟨s2, ?_⟩
      simp only [Act.put, List.setIfInBounds_toArray, List.set_cons_zero, List.set_cons_succ]
      refine wpAnyH_all (rs := [16, 21]) (by kernel_rfl) (by decide) (fun i hi => ?_)
      have hi2 : i = 16 ∨ i = 21 := by simpa using hi
      rcases hi2 with rfl | rfl
      · refine D_map (x := .tmp 23) (some 24) rfl rfl rfl Try.underlying60 rfl rfl (fun x16 W3 bb => ?_)
        have s3 := s2.trans (bb.mono s2.size)
        refine ⟨s3, ?_⟩
        simp only [Act.put, List.setIfInBounds_toArray, List.set_cons_zero, List.set_cons_succ]
        refine wpAnyH_all (rs := [21]) (by kernel_rfl) (by decide) (fun i hi => ?_)
        obtain rfl : i = 21 := by simpa using hi
        refine D_call (f := 40) (args := #[ptrV d.hb]) (some 29) rfl rfl rfl (by simp [go_sem]) ((C2.out _ s3).mono ?_)
        rintro e W4 ⟨x21, rfl, bb⟩
        have s4 := s3.trans (bb.mono s3.size)
        refine ⟨_, rfl, s4, ?_⟩
        simp only [Act.put, List.setIfInBounds_toArray, List.set_cons_zero, List.set_cons_succ]
        refine wpAnyH_all (rs := [26]) (by kernel_rfl) (by decide) (fun i hi => ?_)
        obtain rfl : i = 26 := by simpa using hi
        refine D_call (f := 40) (args := #[ptrV r.hb]) (some 34) rfl rfl rfl (by simp [go_sem]) ((C3.out _ s4).mono ?_)
        rintro e W5 ⟨x26, rfl, bb⟩
        have s5 := s4.trans (bb.mono s4.size)
        refine ⟨_, rfl, s5, ?_⟩
        simp only [Act.put, List.setIfInBounds_toArray, List.set_cons_zero, List.set_cons_succ]
        refine H_take (i := 31) (v := .agg #[.map (some x4), .map (some x10), .map (some x16), ptrV x21, ptrV x26, .int .i64 0, .int .i64 0, .int .i64 0, .int .i64 0, .int .i64 0]) (some 39) rfl rfl (by kernel_rfl) (by kernel_rfl) (by kernel_rfl) (fun _ _ _ h => h) rfl (fun X hX => ?_) s5 ?_
        · simp [go_sem]
        simp only [Act.put, List.setIfInBounds_toArray, List.set_cons_zero, List.set_cons_succ]
        have sz := s5.trans (Below.mono ((Below.refl _ W5).alloc (Nat.le_refl _) (.cells #[.map (some x4), .map (some x10), .map (some x16), ptrV x21, ptrV x26, .int .i64 0, .int .i64 0, .int .i64 0, .int .i64 0, .int .i64 0] 63)) s5.size)
        refine H_value (i := 32) (v := .pointer (some ⟨W5.heap.size, 0, none⟩)) (some 40) rfl rfl (by kernel_rfl) rfl (by simp [go_sem]) sz ?_
        simp only [Act.put, List.setIfInBounds_toArray, List.set_cons_zero, List.set_cons_succ]
        refine H_take (i := 33) (v := .pointer (some ⟨W5.heap.size, 0, none⟩)) (some 3) rfl rfl (by kernel_rfl) (by kernel_rfl) (by kernel_rfl) (fun _ _ _ h => h) rfl (fun X hX => ?_) sz ?_
        · simp [go_sem]
        simp only [Act.put, List.setIfInBounds_toArray, List.set_cons_zero, List.set_cons_succ]
        refine wpAnyH_done (by kernel_rfl) ?_ _
        go_wp2_with fail
        go_meet
        exact ⟨_, rfl, sz⟩
      · refine D_call (f := 40) (args := #[ptrV d.hb]) (some 29) rfl rfl rfl (by simp [go_sem]) ((C2.out _ s2).mono ?_)
        rintro e W3 ⟨x21, rfl, bb⟩
        have s3 := s2.trans (bb.mono s2.size)
        refine ⟨_, rfl, s3, ?_⟩
        simp only [Act.put, List.setIfInBounds_toArray, List.set_cons_zero, List.set_cons_succ]
        refine wpAnyH_all (rs := [16, 26]) (by kernel_rfl) (by decide) (fun i hi => ?_)
        have hi2 : i = 16 ∨ i = 26 := by simpa using hi
        rcases hi2 with rfl | rfl
        · refine D_map (x := .tmp 23) (some 24) rfl rfl rfl Try.underlying60 rfl rfl (fun x16 W4 bb => ?_)
          have s4 := s3.trans (bb.mono s3.size)
          refine ⟨s4, ?_⟩
          simp only [Act.put, List.setIfInBounds_toArray, List.set_cons_zero, List.set_cons_succ]
          refine wpAnyH_all (rs := [26]) (by kernel_rfl) (by decide) (fun i hi => ?_)
          obtain rfl : i = 26 := by simpa using hi
          refine D_call (f := 40) (args := #[ptrV r.hb]) (some 34) rfl rfl rfl (by simp [go_sem]) ((C3.out _ s4).mono ?_)
          rintro e W5 ⟨x26, rfl, bb⟩
          have s5 := s4.trans (bb.mono s4.size)
          refine ⟨_, rfl, s5, ?_⟩
          simp only [Act.put, List.setIfInBounds_toArray, List.set_cons_zero, List.set_cons_succ]
          refine H_take (i := 31) (v := .agg #[.map (some x4), .map (some x10), .map (some x16), ptrV x21, ptrV x26, .int .i64 0, .int .i64 0, .int .i64 0, .int .i64 0, .int .i64 0]) (some 39) rfl rfl (by kernel_rfl) (by kernel_rfl) (by kernel_rfl) (fun _ _ _ h => h) rfl (fun X hX => ?_) s5 ?_
          · simp [go_sem]
          simp only [Act.put, List.setIfInBounds_toArray, List.set_cons_zero, List.set_cons_succ]
          have sz := s5.trans (Below.mono ((Below.refl _ W5).alloc (Nat.le_refl _) (.cells #[.map (some x4), .map (some x10), .map (some x16), ptrV x21, ptrV x26, .int .i64 0, .int .i64 0, .int .i64 0, .int .i64 0, .int .i64 0] 63)) s5.size)
          refine H_value (i := 32) (v := .pointer (some ⟨W5.heap.size, 0, none⟩)) (some 40) rfl rfl (by kernel_rfl) rfl (by simp [go_sem]) sz ?_
          simp only [Act.put, List.setIfInBounds_toArray, List.set_cons_zero, List.set_cons_succ]
          refine H_take (i := 33) (v := .pointer (some ⟨W5.heap.size, 0, none⟩)) (some 3) rfl rfl (by kernel_rfl) (by kernel_rfl) (by kernel_rfl) (fun _ _ _ h => h) rfl (fun X hX => ?_) sz ?_
          · simp [go_sem]
          simp only [Act.put, List.setIfInBounds_toArray, List.set_cons_zero, List.set_cons_succ]
          refine wpAnyH_done (by kernel_rfl) ?_ _
          go_wp2_with fail
          go_meet
          exact ⟨_, rfl, sz⟩
        · refine D_call (f := 40) (args := #[ptrV r.hb]) (some 34) rfl rfl rfl (by simp [go_sem]) ((C3.out _ s3).mono ?_)
          rintro e W4 ⟨x26, rfl, bb⟩
          have s4 := s3.trans (bb.mono s3.size)
          refine ⟨_, rfl, s4, ?_⟩
          simp only [Act.put, List.setIfInBounds_toArray, List.set_cons_zero, List.set_cons_succ]
          refine wpAnyH_all (rs := [16]) (by kernel_rfl) (by decide) (fun i hi => ?_)
          obtain rfl : i = 16 := by simpa using hi
          refine D_map (x := .tmp 23) (some 24) rfl rfl rfl Try.underlying60 rfl rfl (fun x16 W5 bb => ?_)
          have s5 := s4.trans (bb.mono s4.size)
          refine ⟨s5, ?_⟩
          simp only [Act.put, List.setIfInBounds_toArray, List.set_cons_zero, List.set_cons_succ]
          refine H_take (i := 31) (v := .agg #[.map (some x4), .map (some x10), .map (some x16), ptrV x21, ptrV x26, .int .i64 0, .int .i64 0, .int .i64 0, .int .i64 0, .int .i64 0]) (some 39) rfl rfl (by kernel_rfl) (by kernel_rfl) (by kernel_rfl) (fun _ _ _ h => h) rfl (fun X hX => ?_) s5 ?_
          · simp [go_sem]
          simp only [Act.put, List.setIfInBounds_toArray, List.set_cons_zero, List.set_cons_succ]
          have sz := s5.trans (Below.mono ((Below.refl _ W5).alloc (Nat.le_refl _) (.cells #[.map (some x4), .map (some x10), .map (some x16), ptrV x21, ptrV x26, .int .i64 0, .int .i64 0, .int .i64 0, .int .i64 0, .int .i64 0] 63)) s5.size)
          refine H_value (i := 32) (v := .pointer (some ⟨W5.heap.size, 0, none⟩)) (some 40) rfl rfl (by kernel_rfl) rfl (by simp [go_sem]) sz ?_
          simp only [Act.put, List.setIfInBounds_toArray, List.set_cons_zero, List.set_cons_succ]
          refine H_take (i := 33) (v := .pointer (some ⟨W5.heap.size, 0, none⟩)) (some 3) rfl rfl (by kernel_rfl) (by kernel_rfl) (by kernel_rfl) (fun _ _ _ h => h) rfl (fun X hX => ?_) sz ?_
          · simp [go_sem]
          simp only [Act.put, List.setIfInBounds_toArray, List.set_cons_zero, List.set_cons_succ]
          refine wpAnyH_done (by kernel_rfl) ?_ _
          go_wp2_with fail
          go_meet
          exact ⟨_, rfl, sz⟩
    · refine D_map (x := .tmp 23) (some 24) rfl rfl rfl Try.underlying60 rfl rfl (fun x16 W2 bb => ?_)
      have s2 := s1.trans (bb.mono s1.size)
      refine ⟨s2, ?_⟩
      simp only [Act.put, List.setIfInBounds_toArray, List.set_cons_zero, List.set_cons_succ]
      refine wpAnyH_all (rs := [10, 21]) (by kernel_rfl) (by decide) (fun i hi => ?_)
      have hi2 : i = 10 ∨ i = 21 := by simpa using hi
      rcases hi2 with rfl | rfl
      · refine D_map (x := .tmp 17) (some 18) rfl rfl rfl Try.underlying59 rfl rfl (fun x10 W3 bb => ?_)
        have s3 := s2.trans (bb.mono s2.size)
        refine ⟨s3, ?_⟩
        simp only [Act.put, List.setIfInBounds_toArray, List.set_cons_zero, List.set_cons_succ]
        refine wpAnyH_all (rs := [21]) (by kernel_rfl) (by decide) (fun i hi => ?_)
        obtain rfl : i = 21 := by simpa using hi
        refine D_call (f := 40) (args := #[ptrV d.hb]) (some 29) rfl rfl rfl (by simp [go_sem]) ((C2.out _ s3).mono ?_)
        rintro e W4 ⟨x21, rfl, bb⟩
        have s4 := s3.trans (bb.mono s3.size)
        refine ⟨_, rfl, s4, ?_⟩
        simp only [Act.put, List.setIfInBounds_toArray, List.set_cons_zero, List.set_cons_succ]
        refine wpAnyH_all (rs := [26]) (by kernel_rfl) (by decide) (fun i hi => ?_)
        obtain rfl : i = 26 := by simpa using hi
        refine D_call (f := 40) (args := #[ptrV r.hb]) (some 34) rfl rfl rfl (by simp [go_sem]) ((C3.out _ s4).mono ?_)
        rintro e W5 ⟨x26, rfl, bb⟩
        have s5 := s4.trans (bb.mono s4.size)
        refine ⟨_, rfl, s5, ?_⟩
        simp only [Act.put, List.setIfInBounds_toArray, List.set_cons_zero, List.set_cons_succ]
        refine H_take (i := 31) (v := .agg #[.map (some x4), .map (some x10), .map (some x16), ptrV x21, ptrV x26, .int .i64 0, .int .i64 0, .int .i64 0, .int .i64 0, .int .i64 0]) (some 39) rfl rfl (by kernel_rfl) (by kernel_rfl) (by kernel_rfl) (fun _ _ _ h => h) rfl (fun X hX => ?_) s5 ?_
        · simp [go_sem]
        simp only [Act.put, List.setIfInBounds_toArray, List.set_cons_zero, List.set_cons_succ]
        have sz := s5.trans (Below.mono ((Below.refl _ W5).alloc (Nat.le_refl _) (.cells #[.map (some x4), .map (some x10), .map (some x16), ptrV x21, ptrV x26, .int .i64 0, .int .i64 0, .int .i64 0, .int .i64 0, .int .i64 0] 63)) s5.size)
        refine H_value (i := 32) (v := .pointer (some ⟨W5.heap.size, 0, none⟩)) (some 40) rfl rfl (by kernel_rfl) rfl (by simp [go_sem]) sz ?_
        simp only [Act.put, List.setIfInBounds_toArray, List.set_cons_zero, List.set_cons_succ]
        refine H_take (i := 33) (v := .pointer (some ⟨W5.heap.size, 0, none⟩)) (some 3) rfl rfl (by kernel_rfl) (by kernel_rfl) (by kernel_rfl) (fun _ _ _ h => h) rfl (fun X hX => ?_) sz ?_
        · simp [go_sem]
        simp only [Act.put, List.setIfInBounds_toArray, List.set_cons_zero, List.set_cons_succ]
        refine wpAnyH_done (by kernel_rfl) ?_ _
        go_wp2_with fail
        go_meet
        exact ⟨_, rfl, sz⟩
      · refine D_call (f := 40) (args := #[ptrV d.hb]) (some 29) rfl rfl rfl (by simp [go_sem]) ((C2.out _ s2).mono ?_)
        rintro e W3 ⟨x21, rfl, bb⟩
        have s3 := s2.trans (bb.mono s2.size)
        refine ⟨_, rfl, s3, ?_⟩
        simp only [Act.put, List.setIfInBounds_toArray, List.set_cons_zero, List.set_cons_succ]
        refine wpAnyH_all (rs := [10, 26]) (by kernel_rfl) (by decide) (fun i hi => ?_)
        have hi2 : i = 10 ∨ i = 26 := by simpa using hi
        rcases hi2 with rfl | rfl
        · refine D_map (x := .tmp 17) (some 18) rfl rfl rfl Try.underlying59 rfl rfl (fun x10 W4 bb => ?_)
          have s4 := s3.trans (bb.mono s3.size)
          refine ⟨s4, ?_⟩
          simp only [Act.put, List.setIfInBounds_toArray, List.set_cons_zero, List.set_cons_succ]
          refine wpAnyH_all (rs := [26]) (by kernel_rfl) (by decide) (fun i hi => ?_)
          obtain rfl : i = 26 := by simpa using hi
          refine D_call (f := 40) (args := #[ptrV r.hb]) (some 34) rfl rfl rfl (by simp [go_sem]) ((C3.out _ s4).mono ?_)
          rintro e W5 ⟨x26, rfl, bb⟩
          have s5 := s4.trans (bb.mono s4.size)
          refine ⟨_, rfl, s5, ?_⟩
          simp only [Act.put, List.setIfInBounds_toArray, List.set_cons_zero, List.set_cons_succ]
          refine H_take (i := 31) (v := .agg #[.map (some x4), .map (some x10), .map (some x16), ptrV x21, ptrV x26, .int .i64 0, .int .i64 0, .int .i64 0, .int .i64 0, .int .i64 0]) (some 39) rfl rfl (by kernel_rfl) (by kernel_rfl) (by kernel_rfl) (fun _ _ _ h => h) rfl (fun X hX => ?_) s5 ?_
          · simp [go_sem]
          simp only [Act.put, List.setIfInBounds_toArray, List.set_cons_zero, List.set_cons_succ]
          have sz := s5.trans (Below.mono ((Below.refl _ W5).alloc (Nat.le_refl _) (.cells #[.map (some x4), .map (some x10), .map (some x16), ptrV x21, ptrV x26, .int .i64 0, .int .i64 0, .int .i64 0, .int .i64 0, .int .i64 0] 63)) s5.size)
          refine H_value (i := 32) (v := .pointer (some ⟨W5.heap.size, 0, none⟩)) (some 40) rfl rfl (by kernel_rfl) rfl (by simp [go_sem]) sz ?_
          simp only [Act.put, List.setIfInBounds_toArray, List.set_cons_zero, List.set_cons_succ]
          refine H_take (i := 33) (v := .pointer (some ⟨W5.heap.size, 0, none⟩)) (some 3) rfl rfl (by kernel_rfl) (by kernel_rfl) (by kernel_rfl) (fun _ _ _ h => h) rfl (fun X hX => ?_) sz ?_
          · simp [go_sem]
          simp only [Act.put, List.setIfInBounds_toArray, List.set_cons_zero, List.set_cons_succ]
          refine wpAnyH_done (by kernel_rfl) ?_ _
          go_wp2_with fail
          go_meet
          exact ⟨_, rfl, sz⟩
        · refine D_call (f := 40) (args := #[ptrV r.hb]) (some 34) rfl rfl rfl (by simp [go_sem]) ((C3.out _ s3).mono ?_)
          rintro e W4 ⟨x26, rfl, bb⟩
          have s4 := s3.trans (bb.mono s3.size)
          refine ⟨_, rfl, s4, ?_⟩
          simp only [Act.put, List.setIfInBounds_toArray, List.set_cons_zero, List.set_cons_succ]
          refine wpAnyH_all (rs := [10]) (by kernel_rfl) (by decide) (fun i hi => ?_)
          obtain rfl : i = 10 := by simpa using hi
          refine D_map (x := .tmp 17) (some 18) rfl rfl rfl Try.underlying59 rfl rfl (fun x10 W5 bb => ?_)
          have s5 := s4.trans (bb.mono s4.size)
          refine ⟨s5, ?_⟩
          simp only [Act.put, List.setIfInBounds_toArray, List.set_cons_zero, List.set_cons_succ]
          refine H_take (i := 31) (v := .agg #[.map (some x4), .map (some x10), .map (some x16), ptrV x21, ptrV x26, .int .i64 0, .int .i64 0, .int .i64 0, .int .i64 0, .int .i64 0]) (some 39) rfl rfl (by kernel_rfl) (by kernel_rfl) (by kernel_rfl) (fun _ _ _ h => h) rfl (fun X hX => ?_) s5 ?_
          · simp [go_sem]
          simp only [Act.put, List.setIfInBounds_toArray, List.set_cons_zero, List.set_cons_succ]
          have sz := s5.trans (Below.mono ((Below.refl _ W5).alloc (Nat.le_refl _) (.cells #[.map (some x4), .map (some x10), .map (some x16), ptrV x21, ptrV x26, .int .i64 0, .int .i64 0, .int .i64 0, .int .i64 0, .int .i64 0] 63)) s5.size)
          refine H_value (i := 32) (v := .pointer (some ⟨W5.heap.size, 0, none⟩)) (some 40) rfl rfl (by kernel_rfl) rfl (by simp [go_sem]) sz ?_
          simp only [Act.put, List.setIfInBounds_toArray, List.set_cons_zero, List.set_cons_succ]
          refine H_take (i := 33) (v := .pointer (some ⟨W5.heap.size, 0, none⟩)) (some 3) rfl rfl (by kernel_rfl) (by kernel_rfl) (by kernel_rfl) (fun _ _ _ h => h) rfl (fun X hX => ?_) sz ?_
          · simp [go_sem]
          simp only [Act.put, List.setIfInBounds_toArray, List.set_cons_zero, List.set_cons_succ]
          refine wpAnyH_done (by kernel_rfl) ?_ _
          go_wp2_with fail
          go_meet
          exact ⟨_, rfl, sz⟩
    · refine D_call (f := 40) (args := #[ptrV d.hb]) (some 29) rfl rfl rfl (by simp [go_sem]) ((C2.out _ s1).mono ?_)
      rintro e W2 ⟨x21, rfl, bb⟩
      have s2 := s1.trans (bb.mono s1.size)
      refine ⟨_, rfl, s2, ?_⟩
      simp only [Act.put, List.setIfInBounds_toArray, List.set_cons_zero, List.set_cons_succ]
      refine wpAnyH_all (rs := [10, 16, 26]) (by kernel_rfl) (by decide) (fun i hi => ?_)
      have hi2 : i = 10 ∨ i = 16 ∨ i = 26 := by simpa using hi
      rcases hi2 with rfl | rfl | rfl
      · refine D_map (x := .tmp 17) (some 18) rfl rfl rfl Try.underlying59 rfl rfl (fun x10 W3 bb => ?_)
        have s3 := s2.trans (bb.mono s2.size)
        refine ⟨s3, ?_⟩
        simp only [Act.put, List.setIfInBounds_toArray, List.set_cons_zero, List.set_cons_succ]
        refine wpAnyH_all (rs := [16, 26]) (by kernel_rfl) (by decide) (fun i hi => ?_)
        have hi2 : i = 16 ∨ i = 26 := by simpa using hi
        rcases hi2 with rfl | rfl
        · refine D_map (x := .tmp 23) (some 24) rfl rfl rfl Try.underlying60 rfl rfl (fun x16 W4 bb => ?_)
          have s4 := s3.trans (bb.mono s3.size)
          refine ⟨s4, ?_⟩
          simp only [Act.put, List.setIfInBounds_toArray, List.set_cons_zero, List.set_cons_succ]
          refine wpAnyH_all (rs := [26]) (by kernel_rfl) (by decide) (fun i hi => ?_)
          obtain rfl : i = 26 := by simpa using hi
          refine D_call (f := 40) (args := #[ptrV r.hb]) (some 34) rfl rfl rfl (by simp [go_sem]) ((C3.out _ s4).mono ?_)
          rintro e W5 ⟨x26, rfl, bb⟩
          have s5 := s4.trans (bb.mono s4.size)
          refine ⟨_, rfl, s5, ?_⟩
          simp only [Act.put, List.setIfInBounds_toArray, List.set_cons_zero, List.set_cons_succ]
          refine H_take (i := 31) (v := .agg #[.map (some x4), .map (some x10), .map (some x16), ptrV x21, ptrV x26, .int .i64 0, .int .i64 0, .int .i64 0, .int .i64 0, .int .i64 0]) (some 39) rfl rfl (by kernel_rfl) (by kernel_rfl) (by kernel_rfl) (fun _ _ _ h => h) rfl (fun X hX => ?_) s5 ?_
          · simp [go_sem]
          simp only [Act.put, List.setIfInBounds_toArray, List.set_cons_zero, List.set_cons_succ]
          have sz := s5.trans (Below.mono ((Below.refl _ W5).alloc (Nat.le_refl _) (.cells #[.map (some x4), .map (some x10), .map (some x16), ptrV x21, ptrV x26, .int .i64 0, .int .i64 0, .int .i64 0, .int .i64 0, .int .i64 0] 63)) s5.size)
          refine H_value (i := 32) (v := .pointer (some ⟨W5.heap.size, 0, none⟩)) (some 40) rfl rfl (by kernel_rfl) rfl (by simp [go_sem]) sz ?_
          simp only [Act.put, List.setIfInBounds_toArray, List.set_cons_zero, List.set_cons_succ]
          refine H_take (i := 33) (v := .pointer (some ⟨W5.heap.size, 0, none⟩)) (some 3) rfl rfl (by kernel_rfl) (by kernel_rfl) (by kernel_rfl) (fun _ _ _ h => h) rfl (fun X hX => ?_) sz ?_
          · simp [go_sem]
          simp only [Act.put, List.setIfInBounds_toArray, List.set_cons_zero, List.set_cons_succ]
          refine wpAnyH_done (by kernel_rfl) ?_ _
          go_wp2_with fail
          go_meet
          exact ⟨_, rfl, sz⟩
        · refine D_call (f := 40) (args := #[ptrV r.hb]) (some 34) rfl rfl rfl (by simp [go_sem]) ((C3.out _ s3).mono ?_)
          rintro e W4 ⟨x26, rfl, bb⟩
          have s4 := s3.trans (bb.mono s3.size)
          refine ⟨_, rfl, s4, ?_⟩
          simp only [Act.put, List.setIfInBounds_toArray, List.set_cons_zero, List.set_cons_succ]
          refine wpAnyH_all (rs := [16]) (by kernel_rfl) (by decide) (fun i hi => ?_)
          obtain rfl : i = 16 := by simpa using hi
          refine D_map (x := .tmp 23) (some 24) rfl rfl rfl Try.underlying60 rfl rfl (fun x16 W5 bb => ?_)
          have s5 := s4.trans (bb.mono s4.size)
          refine ⟨s5, ?_⟩
          simp only [Act.put, List.setIfInBounds_toArray, List.set_cons_zero, List.set_cons_succ]
          refine H_take (i := 31) (v := .agg #[.map (some x4), .map (some x10), .map (some x16), ptrV x21, ptrV x26, .int .i64 0, .int .i64 0, .int .i64 0, .int .i64 0, .int .i64 0]) (some 39) rfl rfl (by kernel_rfl) (by kernel_rfl) (by kernel_rfl) (fun _ _ _ h => h) rfl (fun X hX => ?_) s5 ?_
          · simp [go_sem]
          simp only [Act.put, List.setIfInBounds_toArray, List.set_cons_zero, List.set_cons_succ]
          have sz := s5.trans (Below.mono ((Below.refl _ W5).alloc (Nat.le_refl _) (.cells #[.map (some x4), .map (some x10), .map (some x16), ptrV x21, ptrV x26, .int .i64 0, .int .i64 0, .int .i64 0, .int .i64 0, .int .i64 0] 63)) s5.size)
          refine H_value (i := 32) (v := .pointer (some ⟨W5.heap.size, 0, none⟩)) (some 40) rfl rfl (by kernel_rfl) rfl (by simp [go_sem]) sz ?_
          simp only [Act.put, List.setIfInBounds_toArray, List.set_cons_zero, List.set_cons_succ]
          refine H_take (i := 33) (v := .pointer (some ⟨W5.heap.size, 0, none⟩)) (some 3) rfl rfl (by kernel_rfl) (by kernel_rfl) (by kernel_rfl) (fun _ _ _ h => h) rfl (fun X hX => ?_) sz ?_
          · simp [go_sem]
          simp only [Act.put, List.setIfInBounds_toArray, List.set_cons_zero, List.set_cons_succ]
          refine wpAnyH_done (by kernel_rfl) ?_ _
          go_wp2_with fail
          go_meet
          exact ⟨_, rfl, sz⟩
      · refine D_map (x := .tmp 23) (some 24) rfl rfl rfl Try.underlying60 rfl rfl (fun x16 W3 bb => ?_)
        have s3 := s2.trans (bb.mono s2.size)
        refine ⟨s3, ?_⟩
        simp only [Act.put, List.setIfInBounds_toArray, List.set_cons_zero, List.set_cons_succ]
        refine wpAnyH_all (rs := [10, 26]) (by kernel_rfl) (by decide) (fun i hi => ?_)
        have hi2 : i = 10 ∨ i = 26 := by simpa using hi
        rcases hi2 with rfl | rfl
        · refine D_map (x := .tmp 17) (some 18) rfl rfl rfl Try.underlying59 rfl rfl (fun x10 W4 bb => ?_)
          have s4 := s3.trans (bb.mono s3.size)
          refine ⟨s4, ?_⟩
          simp only [Act.put, List.setIfInBounds_toArray, List.set_cons_zero, List.set_cons_succ]
          refine wpAnyH_all (rs := [26]) (by kernel_rfl) (by decide) (fun i hi => ?_)
          obtain rfl : i = 26 := by simpa using hi
          refine D_call (f := 40) (args := #[ptrV r.hb]) (some 34) rfl rfl rfl (by simp [go_sem]) ((C3.out _ s4).mono ?_)
          rintro e W5 ⟨x26, rfl, bb⟩
          have s5 := s4.trans (bb.mono s4.size)
          refine ⟨_, rfl, s5, ?_⟩
          simp only [Act.put, List.setIfInBounds_toArray, List.set_cons_zero, List.set_cons_succ]
          refine H_take (i := 31) (v := .agg #[.map (some x4), .map (some x10), .map (some x16), ptrV x21, ptrV x26, .int .i64 0, .int .i64 0, .int .i64 0, .int .i64 0, .int .i64 0]) (some 39) rfl rfl (by kernel_rfl) (by kernel_rfl) (by kernel_rfl) (fun _ _ _ h => h) rfl (fun X hX => ?_) s5 ?_
          · simp [go_sem]
          simp only [Act.put, List.setIfInBounds_toArray, List.set_cons_zero, List.set_cons_succ]
          have sz := s5.trans (Below.mono ((Below.refl _ W5).alloc (Nat.le_refl _) (.cells #[.map (some x4), .map (some x10), .map (some x16), ptrV x21, ptrV x26, .int .i64 0, .int .i64 0, .int .i64 0, .int .i64 0, .int .i64 0] 63)) s5.size)
          refine H_value (i := 32) (v := .pointer (some ⟨W5.heap.size, 0, none⟩)) (some 40) rfl rfl (by kernel_rfl) rfl (by simp [go_sem]) sz ?_
          simp only [Act.put, List.setIfInBounds_toArray, List.set_cons_zero, List.set_cons_succ]
          refine H_take (i := 33) (v := .pointer (some ⟨W5.heap.size, 0, none⟩)) (some 3) rfl rfl (by kernel_rfl) (by kernel_rfl) (by kernel_rfl) (fun _ _ _ h => h) rfl (fun X hX => ?_) sz ?_
          · simp [go_sem]
          simp only [Act.put, List.setIfInBounds_toArray, List.set_cons_zero, List.set_cons_succ]
          refine wpAnyH_done (by kernel_rfl) ?_ _
          go_wp2_with fail
          go_meet
          exact ⟨_, rfl, sz⟩
        · refine D_call (f := 40) (args := #[ptrV r.hb]) (some 34) rfl rfl rfl (by simp [go_sem]) ((C3.out _ s3).mono ?_)
          rintro e W4 ⟨x26, rfl, bb⟩
          have s4 := s3.trans (bb.mono s3.size)
          refine ⟨_, rfl, s4, ?_⟩
          simp only [Act.put, List.setIfInBounds_toArray, List.set_cons_zero, List.set_cons_succ]
          refine wpAnyH_all (rs := [10]) (by kernel_rfl) (by decide) (fun i hi => ?_)
          obtain rfl : i = 10 := by simpa using hi
          refine D_map (x := .tmp 17) (some 18) rfl rfl rfl Try.underlying59 rfl rfl (fun x10 W5 bb => ?_)
          have s5 := s4.trans (bb.mono s4.size)
          refine ⟨s5, ?_⟩
          simp only [Act.put, List.setIfInBounds_toArray, List.set_cons_zero, List.set_cons_succ]
          refine H_take (i := 31) (v := .agg #[.map (some x4), .map (some x10), .map (some x16), ptrV x21, ptrV x26, .int .i64 0, .int .i64 0, .int .i64 0, .int .i64 0, .int .i64 0]) (some 39) rfl rfl (by kernel_rfl) (by kernel_rfl) (by kernel_rfl) (fun _ _ _ h => h) rfl (fun X hX => ?_) s5 ?_
          · simp [go_sem]
          simp only [Act.put, List.setIfInBounds_toArray, List.set_cons_zero, List.set_cons_succ]
          have sz := s5.trans (Below.mono ((Below.refl _ W5).alloc (Nat.le_refl _) (.cells #[.map (some x4), .map (some x10), .map (some x16), ptrV x21, ptrV x26, .int .i64 0, .int .i64 0, .int .i64 0, .int .i64 0, .int .i64 0] 63)) s5.size)
          refine H_value (i := 32) (v := .pointer (some ⟨W5.heap.size, 0, none⟩)) (some 40) rfl rfl (by kernel_rfl) rfl (by simp [go_sem]) sz ?_
          simp only [Act.put, List.setIfInBounds_toArray, List.set_cons_zero, List.set_cons_succ]
          refine H_take (i := 33) (v := .pointer (some ⟨W5.heap.size, 0, none⟩)) (some 3) rfl rfl (by kernel_rfl) (by kernel_rfl) (by kernel_rfl) (fun _ _ _ h => h) rfl (fun X hX => ?_) sz ?_
          · simp [go_sem]
          simp only [Act.put, List.setIfInBounds_toArray, List.set_cons_zero, List.set_cons_succ]
          refine wpAnyH_done (by kernel_rfl) ?_ _
          go_wp2_with fail
          go_meet
          exact ⟨_, rfl, sz⟩
      · refine D_call (f := 40) (args := #[ptrV r.hb]) (some 34) rfl rfl rfl (by simp [go_sem]) ((C3.out _ s2).mono ?_)
        rintro e W3 ⟨x26, rfl, bb⟩
        have s3 := s2.trans (bb.mono s2.size)
        refine ⟨_, rfl, s3, ?_⟩
        simp only [Act.put, List.setIfInBounds_toArray, List.set_cons_zero, List.set_cons_succ]
        refine wpAnyH_all (rs := [10, 16]) (by kernel_rfl) (by decide) (fun i hi => ?_)
        have hi2 : i = 10 ∨ i = 16 := by simpa using hi
        rcases hi2 with rfl | rfl
        · refine D_map (x := .tmp 17) (some 18) rfl rfl rfl Try.underlying59 rfl rfl (fun x10 W4 bb => ?_)
          have s4 := s3.trans (bb.mono s3.size)
          refine ⟨s4, ?_⟩
          simp only [Act.put, List.setIfInBounds_toArray, List.set_cons_zero, List.set_cons_succ]
          refine wpAnyH_all (rs := [16]) (by kernel_rfl) (by decide) (fun i hi => ?_)
          obtain rfl : i = 16 := by simpa using hi
          refine D_map (x := .tmp 23) (some 24) rfl rfl rfl Try.underlying60 rfl rfl (fun x16 W5 bb => ?_)
          have s5 := s4.trans (bb.mono s4.size)
          refine ⟨s5, ?_⟩
          simp only [Act.put, List.setIfInBounds_toArray, List.set_cons_zero, List.set_cons_succ]
          refine H_take (i := 31) (v := .agg #[.map (some x4), .map (some x10), .map (some x16), ptrV x21, ptrV x26, .int .i64 0, .int .i64 0, .int .i64 0, .int .i64 0, .int .i64 0]) (some 39) rfl rfl (by kernel_rfl) (by kernel_rfl) (by kernel_rfl) (fun _ _ _ h => h) rfl (fun X hX => ?_) s5 ?_
          · simp [go_sem]
          simp only [Act.put, List.setIfInBounds_toArray, List.set_cons_zero, List.set_cons_succ]
          have sz := s5.trans (Below.mono ((Below.refl _ W5).alloc (Nat.le_refl _) (.cells #[.map (some x4), .map (some x10), .map (some x16), ptrV x21, ptrV x26, .int .i64 0, .int .i64 0, .int .i64 0, .int .i64 0, .int .i64 0] 63)) s5.size)
          refine H_value (i := 32) (v := .pointer (some ⟨W5.heap.size, 0, none⟩)) (some 40) rfl rfl (by kernel_rfl) rfl (by simp [go_sem]) sz ?_
          simp only [Act.put, List.setIfInBounds_toArray, List.set_cons_zero, List.set_cons_succ]
          refine H_take (i := 33) (v := .pointer (some ⟨W5.heap.size, 0, none⟩)) (some 3) rfl rfl (by kernel_rfl) (by kernel_rfl) (by kernel_rfl) (fun _ _ _ h => h) rfl (fun X hX => ?_) sz ?_
          · simp [go_sem]
          simp only [Act.put, List.setIfInBounds_toArray, List.set_cons_zero, List.set_cons_succ]
          refine wpAnyH_done (by kernel_rfl) ?_ _
          go_wp2_with fail
          go_meet
          exact ⟨_, rfl, sz⟩
        · refine D_map (x := .tmp 23) (some 24) rfl rfl rfl Try.underlying60 rfl rfl (fun x16 W4 bb => ?_)
          have s4 := s3.trans (bb.mono s3.size)
          refine ⟨s4, ?_⟩
          simp only [Act.put, List.setIfInBounds_toArray, List.set_cons_zero, List.set_cons_succ]
          refine wpAnyH_all (rs := [10]) (by kernel_rfl) (by decide) (fun i hi => ?_)
          obtain rfl : i = 10 := by simpa using hi
          refine D_map (x := .tmp 17) (some 18) rfl rfl rfl Try.underlying59 rfl rfl (fun x10 W5 bb => ?_)
          have s5 := s4.trans (bb.mono s4.size)
          refine ⟨s5, ?_⟩
          simp only [Act.put, List.setIfInBounds_toArray, List.set_cons_zero, List.set_cons_succ]
          refine H_take (i := 31) (v := .agg #[.map (some x4), .map (some x10), .map (some x16), ptrV x21, ptrV x26, .int .i64 0, .int .i64 0, .int .i64 0, .int .i64 0, .int .i64 0]) (some 39) rfl rfl (by kernel_rfl) (by kernel_rfl) (by kernel_rfl) (fun _ _ _ h => h) rfl (fun X hX => ?_) s5 ?_
          · simp [go_sem]
          simp only [Act.put, List.setIfInBounds_toArray, List.set_cons_zero, List.set_cons_succ]
          have sz := s5.trans (Below.mono ((Below.refl _ W5).alloc (Nat.le_refl _) (.cells #[.map (some x4), .map (some x10), .map (some x16), ptrV x21, ptrV x26, .int .i64 0, .int .i64 0, .int .i64 0, .int .i64 0, .int .i64 0] 63)) s5.size)
          refine H_value (i := 32) (v := .pointer (some ⟨W5.heap.size, 0, none⟩)) (some 40) rfl rfl (by kernel_rfl) rfl (by simp [go_sem]) sz ?_
          simp only [Act.put, List.setIfInBounds_toArray, List.set_cons_zero, List.set_cons_succ]
          refine H_take (i := 33) (v := .pointer (some ⟨W5.heap.size, 0, none⟩)) (some 3) rfl rfl (by kernel_rfl) (by kernel_rfl) (by kernel_rfl) (fun _ _ _ h => h) rfl (fun X hX => ?_) sz ?_
          · simp [go_sem]
          simp only [Act.put, List.setIfInBounds_toArray, List.set_cons_zero, List.set_cons_succ]
          refine wpAnyH_done (by kernel_rfl) ?_ _
          go_wp2_with fail
          go_meet
          exact ⟨_, rfl, sz⟩
  case rest =>
    obtain ⟨b, rfl, HB⟩ := hcut
    have B0 := HB.out
    have q1 := (BX.out _ B0).2.1
    have ylt1 := Nat.lt_of_lt_of_le ylt B0.size
    have hr1 : (Instr.range 59 (.map (some (jm + 1)))).run Try.prog wc = .ok (.pointer (some ⟨wc.heap.size, 0, none⟩)) (wc.alloc (.mapIter (some (jm + 1)) ct #[] ct)) := range_none Try.underlying59 (BX.out _ B0).2.2.2.2.2.1
    obtain ⟨w1, hw1⟩ : ∃ w1, w1 = wc.alloc (.mapIter (some (jm + 1)) ct #[] ct) := ⟨_, rfl⟩
    obtain ⟨r1, hr1'⟩ : ∃ r1, r1 = wc.heap.size := ⟨_, rfl⟩
    rw [← hw1, ← hr1'] at hr1
    have b1 : Below w.heap.size w w1 := by rw [hw1]; exact B0.trans (Below.mono ((Below.refl _ wc).alloc (Nat.le_refl _) _) B0.size)
    have hn1 : ∀ ty, (Instr.next (.pointer (some ⟨r1, 0, none⟩)) false ty).run Try.prog w1 = .ok (.tuple #[.bool false]) w1 := fun ty => next_none (BX.out _ b1).2.2.2.2.2.1 (by rw [hw1, hr1']; exact heap_alloc_new wc _)
    have HB1 : Hid (Below w.heap.size w w1) := b1
    clear hw1 hr1' b1 B0
    go_wp2_with fail
    go_loop [4] (fun s => s = undef) (fun _ => 0)
    case atStart => rfl
    case round =>
      subst hrel
      have B1 := HB1.out
      have q2 := (BX.out _ B1).2.2.1
      have ylt2 := Nat.lt_of_lt_of_le ylt B1.size
      have hr2 : (Instr.range 60 (.map (some (jm + 2)))).run Try.prog w1 = .ok (.pointer (some ⟨w1.heap.size, 0, none⟩)) (w1.alloc (.mapIter (some (jm + 2)) ch #[] ch)) := range_none Try.underlying60 (BX.out _ B1).2.2.2.2.2.2.1
      obtain ⟨w2, hw2⟩ : ∃ w2, w2 = w1.alloc (.mapIter (some (jm + 2)) ch #[] ch) := ⟨_, rfl⟩
      obtain ⟨r2, hr2'⟩ : ∃ r2, r2 = w1.heap.size := ⟨_, rfl⟩
      rw [← hw2, ← hr2'] at hr2
      have b2 : Below w.heap.size w w2 := by rw [hw2]; exact B1.trans (Below.mono ((Below.refl _ w1).alloc (Nat.le_refl _) _) B1.size)
      have hn2 : ∀ ty, (Instr.next (.pointer (some ⟨r2, 0, none⟩)) false ty).run Try.prog w2 = .ok (.tuple #[.bool false]) w2 := fun ty => next_none (BX.out _ b2).2.2.2.2.2.2.1 (by rw [hw2, hr2']; exact heap_alloc_new w1 _)
      have HB2 : Hid (Below w.heap.size w w2) := b2
      clear hw2 hr2' b2 B1
      go_wp2_with fail
      go_loop [6] (fun s => s = undef) (fun _ => 0)
      case atStart => rfl
      case round =>
        subst hrel
        go_wp2_with fail
        go_ret
        exact ⟨⟨b, rfl⟩, HB2.out⟩
end Go.Proofs.Ytjkgclogndbplaa
