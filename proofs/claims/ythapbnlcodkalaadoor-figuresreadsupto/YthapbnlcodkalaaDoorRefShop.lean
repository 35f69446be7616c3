/-
  Layer 13: the document's Shop.
-/
import Derived.Test.YthapbnlcodkalaaDoorFigShop
import Derived.Test.YthapbnlcodkalaaDoorRefTube
namespace Go.Proofs.YthapbnlcodkalaaDoor
open Go.RowKit Go.Sort

set_option maxHeartbeats 16000000 in
set_option maxRecDepth 1000000 in
theorem refShop_any (s : Sp) (w : World) (hok : s.ok) :
    Calls Tryd.prog 14 #[.agg s.cells] w fun e w' => ∃ a2 c2, e = .returned (.slice a2 s.dict.length c2) ∧ NewB w w' a2 c2 s.dict ∧ Below w.heap.size w w' := by
  obtain ⟨f, hf⟩ : ∃ f, f = s.f := ⟨_, rfl⟩
  obtain ⟨dr, hdr⟩ : ∃ dr, dr = s.dr := ⟨_, rfl⟩
  obtain ⟨C, hC⟩ : ∃ C : Array Value, C = s.cells := ⟨_, rfl⟩
  obtain ⟨w1, hw1⟩ : ∃ w1, w1 = w.alloc (.cells C 43) := ⟨_, rfl⟩
  obtain ⟨sb, hsb⟩ : ∃ sb, sb = w.heap.size := ⟨_, rfl⟩
  have B1 : Hid (Below w.heap.size w w1 ∧ w1.heap[sb]? = some (.cells C 43 (0, 0)) ∧ sb < w1.heap.size) := by
    rw [hw1, hsb]
    exact ⟨(Below.refl _ w).alloc (Nat.le_refl _) _, heap_alloc_new w _, by simp⟩
  have HC : Hid (∀ k, k < 48 → C[k]? = some (.int .i64 (f k))) := fun k hk => by rw [hC, hf]; exact s.at k hk
  have HL : Hid (C[48]? = some (.bool dr)) := by show _ = _; rw [hC, hdr]; exact s.last
  have HN : Hid (∀ k, k < 48 → I64 (f k)) := fun k hk => by rw [hf]; exact hok k hk
  have HBD : Hid ((dictL ((shopP f dr).map un)).length < 140737488355328) := by rw [hf, hdr]; have := s.small hok; unfold Sp.pairs at this; show _ < _; omega
  obtain ⟨DD, hDD⟩ : ∃ DD, DD = s.dict := ⟨_, rfl⟩
  have HDD : Hid (DD = if dictE ((shopP f dr).map un) = 0 then dictL ((shopP f dr).map un) else []) := by rw [hDD, hf, hdr]; rfl
  rw [← hDD]
  have HW1 := hide (And.intro hw1 hsb)
  rw [← hC]
  have y2 : w1.cell? ⟨sb, 2, none⟩ = some (.int .i64 (f 2)) := by rw [cell_of_row w1 sb 2 C _ (0, 0) B1.out.2.1]; exact HC.out 2 (by decide)
  have y3 : w1.cell? ⟨sb, 3, none⟩ = some (.int .i64 (f 3)) := by rw [cell_of_row w1 sb 3 C _ (0, 0) B1.out.2.1]; exact HC.out 3 (by decide)
  have y4 : w1.cell? ⟨sb, 4, none⟩ = some (.int .i64 (f 4)) := by rw [cell_of_row w1 sb 4 C _ (0, 0) B1.out.2.1]; exact HC.out 4 (by decide)
  have y5 : w1.cell? ⟨sb, 5, none⟩ = some (.int .i64 (f 5)) := by rw [cell_of_row w1 sb 5 C _ (0, 0) B1.out.2.1]; exact HC.out 5 (by decide)
  have y6 : w1.cell? ⟨sb, 6, none⟩ = some (.int .i64 (f 6)) := by rw [cell_of_row w1 sb 6 C _ (0, 0) B1.out.2.1]; exact HC.out 6 (by decide)
  clear hC hw1 hsb hok hDD hf hdr
  go_enter Tryd.func14, Tryd.ntmps14
  go_upto_region 1 with fail
  rw [← HW1.out.1, ← HW1.out.2]
  clear HW1
  go_upto_region 3 with (go_at_call 28; refine (refsums_any (f 2) (f 3) (f 4) (f 5) (f 6) w1 (HN.out 2 (by decide)) (HN.out 3 (by decide)) (HN.out 4 (by decide)) (HN.out 5 (by decide)) (HN.out 6 (by decide))).mono ?_; rintro e w3 ⟨a3, rfl, o3, b3⟩; have O3 := hide (And.intro o3 b3); clear o3 b3)
  clear y2 y3 y4 y5 y6
  go_loopg [3, 4] 24 (fun gk v i wr => ∃ k : Nat, i = .int .i64 ((k + 1 : Nat) : Int) ∧ k ≤ 24 ∧ 24 - k ≤ gk ∧ Hid (wr.ownsRow w1.heap.size 52 2 v (headP f ++ cmdsP f k).length (cellsP (headP f ++ cmdsP f k)) ∧ Below w1.heap.size w1 wr))
  case atStart => exact ⟨0, rfl, Nat.zero_le _, Nat.le_refl _, by show _ ∧ _; rw [show headP f ++ cmdsP f 0 = headP f from List.append_nil _]; exact ⟨O3.out.1, O3.out.2⟩⟩
  case round =>
    clear O3
    obtain ⟨k, rfl, hk, hgk, OK⟩ := hrel
    by_cases hlt : k < 24
    · have i0 : ((k + 1 : Nat) : Int) ≤ 24 := by omega
      go_upto_region 5 with fail
      have s6 : wr.drew.heap[sb]? = some (.cells C 43 (0, 0)) := (OK.out.2.block sb B1.out.2.2).trans B1.out.2.1
      refine wp_region_held_drew (S := fun X => X.heap[sb]? = some (.cells C 43 (0, 0))) (by kernel_rfl) s6 (fun _ => ?_)
      have H6 : Hid (wr.drew.ownsRow w1.heap.size 52 2 u3 (headP f ++ cmdsP f k).length (cellsP (headP f ++ cmdsP f k)) ∧ Below w1.heap.size w1 wr.drew) := ⟨rowG_below OK.out.1 (Below.refl _ wr).drew, OK.out.2.drew⟩
      obtain ⟨x6, hx6⟩ : ∃ x6, x6 = wr.drew := ⟨_, rfl⟩
      rw [← hx6] at s6 H6 ⊢
      clear hx6 OK
      obtain ⟨nm, hnm⟩ : ∃ nm : ByteArray, nm = ⟨(verbOf (k + 1)).toArray⟩ := ⟨_, rfl⟩
      have CN : Hid (∀ W, Calls Tryd.prog 31 #[.int .i64 ((k + 1 : Nat) : Int)] W fun e w' => e = .returned (.string nm) ∧ Below W.heap.size W w') := fun W => by rw [hnm]; exact refName_any (k + 1) (by omega) W
      have hnl : nm.size ≤ 30 := by rw [hnm]; have := verb_len (k + 1) (by omega); simpa [ByteArray.size] using this
      obtain ⟨ky, hky⟩ : ∃ ky : ByteArray, ky = cmdK (k + 1) := ⟨_, rfl⟩
      have HKY : Hid (ky = (⟨#[99, 109, 100, 45]⟩ : ByteArray) ++ nm) := by rw [hky, hnm]; rfl
      have HKE := hide hky
      clear hnm hky
      refine H_take (i := 0) (v := u3) (some 13) rfl rfl (by kernel_rfl) (by kernel_rfl) (by kernel_rfl) (fun _ _ _ h => h) rfl (fun X hX => ?_) s6 ?_
      · simp [go_sem]
      simp only [Act.put, List.setIfInBounds_toArray, List.set_cons_zero, List.set_cons_succ]
      refine H_take (i := 1) (v := .int .i64 ((k + 1 : Nat) : Int)) (some 14) rfl rfl (by kernel_rfl) (by kernel_rfl) (by kernel_rfl) (fun _ _ _ h => h) rfl (fun X hX => ?_) s6 ?_
      · simp [go_sem]
      simp only [Act.put, List.setIfInBounds_toArray, List.set_cons_zero, List.set_cons_succ]
      refine H_take (i := 4) (v := .int .i64 ((k + 1 : Nat) : Int)) (some 17) rfl rfl (by kernel_rfl) (by kernel_rfl) (by kernel_rfl) (fun _ _ _ h => h) rfl (fun X hX => ?_) s6 ?_
      · simp [go_sem]
      simp only [Act.put, List.setIfInBounds_toArray, List.set_cons_zero, List.set_cons_succ]
      refine H_take (i := 5) (v := .pointer (some ⟨sb, 7, none⟩)) (some 18) rfl rfl (by kernel_rfl) (by kernel_rfl) (by kernel_rfl) (fun _ _ _ h => h) rfl (fun X hX => ?_) s6 ?_
      · simp [go_sem]
      simp only [Act.put, List.setIfInBounds_toArray, List.set_cons_zero, List.set_cons_succ]
      refine H_take (i := 6) (v := .pointer (some ⟨sb, 8 + k, none⟩)) (some 19) rfl rfl (by kernel_rfl) (by kernel_rfl) (by kernel_rfl) (fun _ _ _ h => h) rfl (fun X hX => ?_) s6 ?_
      · exact run_index26 rfl rfl rfl (by omega)
      simp only [Act.put, List.setIfInBounds_toArray, List.set_cons_zero, List.set_cons_succ]
      refine H_take (i := 7) (v := .int .i64 (f (8 + k))) (some 20) rfl rfl (by kernel_rfl) (by kernel_rfl) (by kernel_rfl) (fun _ _ _ h => h) rfl (fun X hX => ?_) s6 ?_
      · exact run_load1 rfl rfl Tryd.isAgg3 ((cell_of_row X sb (8 + k) C _ (0, 0) hX).trans (HC.out (8 + k) (by omega)))
      simp only [Act.put, List.setIfInBounds_toArray, List.set_cons_zero, List.set_cons_succ]
      refine H_call (i := 2) (f := 31) (args := #[.int .i64 ((k + 1 : Nat) : Int)]) (some 15) rfl rfl (by kernel_rfl) rfl (by simp [go_sem]) ((CN.out x6).mono ?_)
      rintro e x7 ⟨rfl, b7⟩
      have s7 : x7.heap[sb]? = some (.cells C 43 (0, 0)) := (b7.block sb (blk_lt s6)).trans s6
      have H7 := hide (And.intro (rowG_below H6.out.1 b7) (H6.out.2.trans (b7.mono H6.out.2.size)))
      refine ⟨_, rfl, s7, ?_⟩
      clear H6 b7 s6
      simp only [Act.put, List.setIfInBounds_toArray, List.set_cons_zero, List.set_cons_succ]
      refine H_take (i := 3) (v := .string ky) (some 16) rfl rfl (by kernel_rfl) (by kernel_rfl) (by kernel_rfl) (fun _ _ _ h => h) rfl (fun X hX => ?_) s7 ?_
      · exact run_cat rfl rfl HKY.out (by have : (⟨#[99, 109, 100, 45]⟩ : ByteArray).size = 4 := rfl; omega)
      simp only [Act.put, List.setIfInBounds_toArray, List.set_cons_zero, List.set_cons_succ]
      refine H_call (i := 8) (f := 21) (args := #[.string ky, .int .i64 (f (8 + k))]) (some 21) rfl rfl (by kernel_rfl) rfl (by simp [go_sem]) ((refnum_any ky (f (8 + k)) x7 (HN.out (8 + k) (by omega))).mono ?_)
      rintro e x8 ⟨rfl, b8⟩
      have s8 : x8.heap[sb]? = some (.cells C 43 (0, 0)) := (b8.block sb (blk_lt s7)).trans s7
      have H8 := hide (And.intro (rowG_below H7.out.1 b8) (H7.out.2.trans (b8.mono H7.out.2.size)))
      refine ⟨_, rfl, s8, ?_⟩
      clear H7 b8 s7
      simp only [Act.put, List.setIfInBounds_toArray, List.set_cons_zero, List.set_cons_succ]
      have R9 := hide (row_new x8 [(ky, prS (f (8 + k)))] #[.string ky, .string (prS (f (8 + k)))] 1 rfl rfl (by show (1 : Nat) ≤ 1000; decide))
      obtain ⟨x9, hx9⟩ : ∃ x9, x9 = x8.alloc (.cells #[.string ky, .string (prS (f (8 + k)))] 52) := ⟨_, rfl⟩
      have b9 : Below x8.heap.size x8 x9 := by rw [hx9]; exact (Below.refl _ x8).alloc (Nat.le_refl _) _
      have s9 : x9.heap[sb]? = some (.cells C 43 (0, 0)) := (b9.block sb (blk_lt s8)).trans s8
      have H9 := hide (And.intro (rowG_below H8.out.1 b9) (H8.out.2.trans (b9.mono H8.out.2.size)))
      refine H_value (i := 9) (v := .slice (some ⟨x8.heap.size, 0, none⟩) 1 1) (w' := x9) (some 22) rfl rfl (by kernel_rfl) rfl (by rw [hx9]; simp [go_sem]) s9 ?_
      rw [← hx9] at R9
      clear H8 b9 s8 hx9
      simp only [Act.put, List.setIfInBounds_toArray, List.set_cons_zero, List.set_cons_succ]
      refine H_pairs (i := 10) (some 23) rfl rfl (by kernel_rfl) rfl (.tmp 13) (.tmp 22) rfl w1.heap.size _ u3 (headP f ++ cmdsP f k) [(ky, prS (f (8 + k)))] _ 1 rfl rfl H9.out.1 R9.out (by simp [headP, sumsP, cmds_len]; omega) (by show (1 : Nat) ≤ 1000; decide) H9.out.2.size (fun v10 x10 o10 g10 => ?_)
      have b10 : Below w1.heap.size w1 x10 := H9.out.2.grown g10 H9.out.2.size (fun j hj => (World.ownsRow.lt H9.out.1 j hj).1)
      have s10 : x10.heap[sb]? = some (.cells C 43 (0, 0)) := (b10.block sb B1.out.2.2).trans B1.out.2.1
      refine ⟨s10, ?_⟩
      have O10 : Hid (x10.ownsRow w1.heap.size 52 2 v10 (headP f ++ cmdsP f (k + 1)).length (cellsP (headP f ++ cmdsP f (k + 1))) ∧ Below w1.heap.size w1 x10) := by
        rw [cmds_succ, ← List.append_assoc, ← HKE.out]
        exact ⟨o10, b10⟩
      clear o10 g10 b10 s9 H9 R9
      simp only [Act.put, List.setIfInBounds_toArray, List.set_cons_zero, List.set_cons_succ]
      refine H_take (i := 11) (v := v10) (some 3) rfl rfl (by kernel_rfl) (by kernel_rfl) (by kernel_rfl) (fun _ _ _ h => h) rfl (fun X hX => ?_) s10 ?_
      · simp [go_sem]
      simp only [Act.put, List.setIfInBounds_toArray, List.set_cons_zero, List.set_cons_succ]
      refine wpAnyH_done (by kernel_rfl) ?_ _
      clear s10
      go_wp2_with fail
      go_roundg (23 - k)
      case measure => omega
      case rel => exact ⟨k + 1, by go_num, by omega, by omega, O10⟩
    · obtain rfl : k = 24 := by omega
      obtain ⟨pp, hpp⟩ : ∃ pp, pp = headP f ++ cmdsP f 24 := ⟨_, rfl⟩
      rw [← hpp] at OK
      have HPP : Hid (pp = headP f ++ cmdsP f 24 ∧ pp.length = 29) := ⟨hpp, by rw [hpp]; simp [headP, sumsP, cmds_len]⟩
      clear hpp hlt
      go_upto_region 6 with fail
      have s4 : wr.drew.heap[sb]? = some (.cells C 43 (0, 0)) := (OK.out.2.block sb B1.out.2.2).trans B1.out.2.1
      refine wp_region_held_drew (S := fun X => X.heap[sb]? = some (.cells C 43 (0, 0))) (by kernel_rfl) s4 (fun _ => ?_)
      have H4 : Hid (wr.drew.ownsRow w1.heap.size 52 2 u3 (pp).length (cellsP (pp)) ∧ Below w1.heap.size w1 wr.drew) := ⟨rowG_below OK.out.1 (Below.refl _ wr).drew, OK.out.2.drew⟩
      obtain ⟨x4, hx4⟩ : ∃ x4, x4 = wr.drew := ⟨_, rfl⟩
      rw [← hx4] at s4 H4 ⊢
      clear hx4 OK
      refine H_take (i := 0) (v := u3) (some 24) rfl rfl (by kernel_rfl) (by kernel_rfl) (by kernel_rfl) (fun _ _ _ h => h) rfl (fun X hX => ?_) s4 ?_
      · simp [go_sem]
      simp only [Act.put, List.setIfInBounds_toArray, List.set_cons_zero, List.set_cons_succ]
      refine H_take (i := 1) (v := .pointer (some ⟨sb, 33, none⟩)) (some 25) rfl rfl (by kernel_rfl) (by kernel_rfl) (by kernel_rfl) (fun _ _ _ h => h) rfl (fun X hX => ?_) s4 ?_
      · simp [go_sem]
      simp only [Act.put, List.setIfInBounds_toArray, List.set_cons_zero, List.set_cons_succ]
      refine H_take (i := 2) (v := .int .i64 (f 33)) (some 26) rfl rfl (by kernel_rfl) (by kernel_rfl) (by kernel_rfl) (fun _ _ _ h => h) rfl (fun X hX => ?_) s4 ?_
      · exact run_load1 rfl rfl Tryd.isAgg3 ((cell_of_row X sb 33 C _ (0, 0) hX).trans (HC.out 33 (by decide)))
      simp only [Act.put, List.setIfInBounds_toArray, List.set_cons_zero, List.set_cons_succ]
      refine H_take (i := 4) (v := .pointer (some ⟨sb, 34, none⟩)) (some 28) rfl rfl (by kernel_rfl) (by kernel_rfl) (by kernel_rfl) (fun _ _ _ h => h) rfl (fun X hX => ?_) s4 ?_
      · simp [go_sem]
      simp only [Act.put, List.setIfInBounds_toArray, List.set_cons_zero, List.set_cons_succ]
      refine H_take (i := 5) (v := .int .i64 (f 34)) (some 29) rfl rfl (by kernel_rfl) (by kernel_rfl) (by kernel_rfl) (fun _ _ _ h => h) rfl (fun X hX => ?_) s4 ?_
      · exact run_load1 rfl rfl Tryd.isAgg3 ((cell_of_row X sb 34 C _ (0, 0) hX).trans (HC.out 34 (by decide)))
      simp only [Act.put, List.setIfInBounds_toArray, List.set_cons_zero, List.set_cons_succ]
      refine H_take (i := 7) (v := .pointer (some ⟨sb, 41, none⟩)) (some 31) rfl rfl (by kernel_rfl) (by kernel_rfl) (by kernel_rfl) (fun _ _ _ h => h) rfl (fun X hX => ?_) s4 ?_
      · simp [go_sem]
      simp only [Act.put, List.setIfInBounds_toArray, List.set_cons_zero, List.set_cons_succ]
      refine H_take (i := 8) (v := .int .i64 (f 41)) (some 32) rfl rfl (by kernel_rfl) (by kernel_rfl) (by kernel_rfl) (fun _ _ _ h => h) rfl (fun X hX => ?_) s4 ?_
      · exact run_load1 rfl rfl Tryd.isAgg3 ((cell_of_row X sb 41 C _ (0, 0) hX).trans (HC.out 41 (by decide)))
      simp only [Act.put, List.setIfInBounds_toArray, List.set_cons_zero, List.set_cons_succ]
      refine H_take (i := 10) (v := .pointer (some ⟨sb, 36, none⟩)) (some 34) rfl rfl (by kernel_rfl) (by kernel_rfl) (by kernel_rfl) (fun _ _ _ h => h) rfl (fun X hX => ?_) s4 ?_
      · simp [go_sem]
      simp only [Act.put, List.setIfInBounds_toArray, List.set_cons_zero, List.set_cons_succ]
      refine H_take (i := 11) (v := .int .i64 (f 36)) (some 35) rfl rfl (by kernel_rfl) (by kernel_rfl) (by kernel_rfl) (fun _ _ _ h => h) rfl (fun X hX => ?_) s4 ?_
      · exact run_load1 rfl rfl Tryd.isAgg3 ((cell_of_row X sb 36 C _ (0, 0) hX).trans (HC.out 36 (by decide)))
      simp only [Act.put, List.setIfInBounds_toArray, List.set_cons_zero, List.set_cons_succ]
      refine H_take (i := 13) (v := .pointer (some ⟨sb, 37, none⟩)) (some 37) rfl rfl (by kernel_rfl) (by kernel_rfl) (by kernel_rfl) (fun _ _ _ h => h) rfl (fun X hX => ?_) s4 ?_
      · simp [go_sem]
      simp only [Act.put, List.setIfInBounds_toArray, List.set_cons_zero, List.set_cons_succ]
      refine H_take (i := 14) (v := .int .i64 (f 37)) (some 38) rfl rfl (by kernel_rfl) (by kernel_rfl) (by kernel_rfl) (fun _ _ _ h => h) rfl (fun X hX => ?_) s4 ?_
      · exact run_load1 rfl rfl Tryd.isAgg3 ((cell_of_row X sb 37 C _ (0, 0) hX).trans (HC.out 37 (by decide)))
      simp only [Act.put, List.setIfInBounds_toArray, List.set_cons_zero, List.set_cons_succ]
      refine H_take (i := 16) (v := .pointer (some ⟨sb, 38, none⟩)) (some 40) rfl rfl (by kernel_rfl) (by kernel_rfl) (by kernel_rfl) (fun _ _ _ h => h) rfl (fun X hX => ?_) s4 ?_
      · simp [go_sem]
      simp only [Act.put, List.setIfInBounds_toArray, List.set_cons_zero, List.set_cons_succ]
      refine H_take (i := 17) (v := .int .i64 (f 38)) (some 41) rfl rfl (by kernel_rfl) (by kernel_rfl) (by kernel_rfl) (fun _ _ _ h => h) rfl (fun X hX => ?_) s4 ?_
      · exact run_load1 rfl rfl Tryd.isAgg3 ((cell_of_row X sb 38 C _ (0, 0) hX).trans (HC.out 38 (by decide)))
      simp only [Act.put, List.setIfInBounds_toArray, List.set_cons_zero, List.set_cons_succ]
      refine H_take (i := 19) (v := .pointer (some ⟨sb, 39, none⟩)) (some 43) rfl rfl (by kernel_rfl) (by kernel_rfl) (by kernel_rfl) (fun _ _ _ h => h) rfl (fun X hX => ?_) s4 ?_
      · simp [go_sem]
      simp only [Act.put, List.setIfInBounds_toArray, List.set_cons_zero, List.set_cons_succ]
      refine H_take (i := 20) (v := .int .i64 (f 39)) (some 44) rfl rfl (by kernel_rfl) (by kernel_rfl) (by kernel_rfl) (fun _ _ _ h => h) rfl (fun X hX => ?_) s4 ?_
      · exact run_load1 rfl rfl Tryd.isAgg3 ((cell_of_row X sb 39 C _ (0, 0) hX).trans (HC.out 39 (by decide)))
      simp only [Act.put, List.setIfInBounds_toArray, List.set_cons_zero, List.set_cons_succ]
      refine H_take (i := 22) (v := .pointer (some ⟨sb, 40, none⟩)) (some 46) rfl rfl (by kernel_rfl) (by kernel_rfl) (by kernel_rfl) (fun _ _ _ h => h) rfl (fun X hX => ?_) s4 ?_
      · simp [go_sem]
      simp only [Act.put, List.setIfInBounds_toArray, List.set_cons_zero, List.set_cons_succ]
      refine H_take (i := 23) (v := .int .i64 (f 40)) (some 47) rfl rfl (by kernel_rfl) (by kernel_rfl) (by kernel_rfl) (fun _ _ _ h => h) rfl (fun X hX => ?_) s4 ?_
      · exact run_load1 rfl rfl Tryd.isAgg3 ((cell_of_row X sb 40 C _ (0, 0) hX).trans (HC.out 40 (by decide)))
      simp only [Act.put, List.setIfInBounds_toArray, List.set_cons_zero, List.set_cons_succ]
      refine H_take (i := 25) (v := .pointer (some ⟨sb, 35, none⟩)) (some 49) rfl rfl (by kernel_rfl) (by kernel_rfl) (by kernel_rfl) (fun _ _ _ h => h) rfl (fun X hX => ?_) s4 ?_
      · simp [go_sem]
      simp only [Act.put, List.setIfInBounds_toArray, List.set_cons_zero, List.set_cons_succ]
      refine H_take (i := 26) (v := .int .i64 (f 35)) (some 50) rfl rfl (by kernel_rfl) (by kernel_rfl) (by kernel_rfl) (fun _ _ _ h => h) rfl (fun X hX => ?_) s4 ?_
      · exact run_load1 rfl rfl Tryd.isAgg3 ((cell_of_row X sb 35 C _ (0, 0) hX).trans (HC.out 35 (by decide)))
      simp only [Act.put, List.setIfInBounds_toArray, List.set_cons_zero, List.set_cons_succ]
      refine H_take (i := 28) (v := .pointer (some ⟨sb, 0, none⟩)) (some 52) rfl rfl (by kernel_rfl) (by kernel_rfl) (by kernel_rfl) (fun _ _ _ h => h) rfl (fun X hX => ?_) s4 ?_
      · simp [go_sem]
      simp only [Act.put, List.setIfInBounds_toArray, List.set_cons_zero, List.set_cons_succ]
      refine H_take (i := 29) (v := .int .i64 (f 0)) (some 53) rfl rfl (by kernel_rfl) (by kernel_rfl) (by kernel_rfl) (fun _ _ _ h => h) rfl (fun X hX => ?_) s4 ?_
      · exact run_load1 rfl rfl Tryd.isAgg3 ((cell_of_row X sb 0 C _ (0, 0) hX).trans (HC.out 0 (by decide)))
      simp only [Act.put, List.setIfInBounds_toArray, List.set_cons_zero, List.set_cons_succ]
      refine H_take (i := 30) (v := .pointer (some ⟨sb, 1, none⟩)) (some 54) rfl rfl (by kernel_rfl) (by kernel_rfl) (by kernel_rfl) (fun _ _ _ h => h) rfl (fun X hX => ?_) s4 ?_
      · simp [go_sem]
      simp only [Act.put, List.setIfInBounds_toArray, List.set_cons_zero, List.set_cons_succ]
      refine H_take (i := 31) (v := .int .i64 (f 1)) (some 55) rfl rfl (by kernel_rfl) (by kernel_rfl) (by kernel_rfl) (fun _ _ _ h => h) rfl (fun X hX => ?_) s4 ?_
      · exact run_load1 rfl rfl Tryd.isAgg3 ((cell_of_row X sb 1 C _ (0, 0) hX).trans (HC.out 1 (by decide)))
      simp only [Act.put, List.setIfInBounds_toArray, List.set_cons_zero, List.set_cons_succ]
      refine H_take (i := 34) (v := .pointer (some ⟨sb, 42, none⟩)) (some 58) rfl rfl (by kernel_rfl) (by kernel_rfl) (by kernel_rfl) (fun _ _ _ h => h) rfl (fun X hX => ?_) s4 ?_
      · simp [go_sem]
      simp only [Act.put, List.setIfInBounds_toArray, List.set_cons_zero, List.set_cons_succ]
      refine H_take (i := 35) (v := .int .i64 (f 42)) (some 59) rfl rfl (by kernel_rfl) (by kernel_rfl) (by kernel_rfl) (fun _ _ _ h => h) rfl (fun X hX => ?_) s4 ?_
      · exact run_load1 rfl rfl Tryd.isAgg3 ((cell_of_row X sb 42 C _ (0, 0) hX).trans (HC.out 42 (by decide)))
      simp only [Act.put, List.setIfInBounds_toArray, List.set_cons_zero, List.set_cons_succ]
      refine H_take (i := 37) (v := .pointer (some ⟨sb, 43, none⟩)) (some 61) rfl rfl (by kernel_rfl) (by kernel_rfl) (by kernel_rfl) (fun _ _ _ h => h) rfl (fun X hX => ?_) s4 ?_
      · simp [go_sem]
      simp only [Act.put, List.setIfInBounds_toArray, List.set_cons_zero, List.set_cons_succ]
      refine H_take (i := 38) (v := .int .i64 (f 43)) (some 62) rfl rfl (by kernel_rfl) (by kernel_rfl) (by kernel_rfl) (fun _ _ _ h => h) rfl (fun X hX => ?_) s4 ?_
      · exact run_load1 rfl rfl Tryd.isAgg3 ((cell_of_row X sb 43 C _ (0, 0) hX).trans (HC.out 43 (by decide)))
      simp only [Act.put, List.setIfInBounds_toArray, List.set_cons_zero, List.set_cons_succ]
      refine H_take (i := 40) (v := .pointer (some ⟨sb, 44, none⟩)) (some 64) rfl rfl (by kernel_rfl) (by kernel_rfl) (by kernel_rfl) (fun _ _ _ h => h) rfl (fun X hX => ?_) s4 ?_
      · simp [go_sem]
      simp only [Act.put, List.setIfInBounds_toArray, List.set_cons_zero, List.set_cons_succ]
      refine H_take (i := 41) (v := .int .i64 (f 44)) (some 65) rfl rfl (by kernel_rfl) (by kernel_rfl) (by kernel_rfl) (fun _ _ _ h => h) rfl (fun X hX => ?_) s4 ?_
      · exact run_load1 rfl rfl Tryd.isAgg3 ((cell_of_row X sb 44 C _ (0, 0) hX).trans (HC.out 44 (by decide)))
      simp only [Act.put, List.setIfInBounds_toArray, List.set_cons_zero, List.set_cons_succ]
      refine H_take (i := 43) (v := .pointer (some ⟨sb, 45, none⟩)) (some 67) rfl rfl (by kernel_rfl) (by kernel_rfl) (by kernel_rfl) (fun _ _ _ h => h) rfl (fun X hX => ?_) s4 ?_
      · simp [go_sem]
      simp only [Act.put, List.setIfInBounds_toArray, List.set_cons_zero, List.set_cons_succ]
      refine H_take (i := 44) (v := .int .i64 (f 45)) (some 68) rfl rfl (by kernel_rfl) (by kernel_rfl) (by kernel_rfl) (fun _ _ _ h => h) rfl (fun X hX => ?_) s4 ?_
      · exact run_load1 rfl rfl Tryd.isAgg3 ((cell_of_row X sb 45 C _ (0, 0) hX).trans (HC.out 45 (by decide)))
      simp only [Act.put, List.setIfInBounds_toArray, List.set_cons_zero, List.set_cons_succ]
      refine H_take (i := 46) (v := .pointer (some ⟨sb, 47, none⟩)) (some 70) rfl rfl (by kernel_rfl) (by kernel_rfl) (by kernel_rfl) (fun _ _ _ h => h) rfl (fun X hX => ?_) s4 ?_
      · simp [go_sem]
      simp only [Act.put, List.setIfInBounds_toArray, List.set_cons_zero, List.set_cons_succ]
      refine H_take (i := 47) (v := .int .i64 (f 47)) (some 71) rfl rfl (by kernel_rfl) (by kernel_rfl) (by kernel_rfl) (fun _ _ _ h => h) rfl (fun X hX => ?_) s4 ?_
      · exact run_load1 rfl rfl Tryd.isAgg3 ((cell_of_row X sb 47 C _ (0, 0) hX).trans (HC.out 47 (by decide)))
      simp only [Act.put, List.setIfInBounds_toArray, List.set_cons_zero, List.set_cons_succ]
      refine H_call (i := 3) (f := 21) (args := #[.string ⟨#[106, 111, 98, 45, 116, 105, 109, 101, 111, 117, 116, 115]⟩, .int .i64 (f 33)]) (some 27) rfl rfl (by kernel_rfl) rfl (by simp [go_sem]) ((refnum_any ⟨#[106, 111, 98, 45, 116, 105, 109, 101, 111, 117, 116, 115]⟩ (f 33) x4 (HN.out 33 (by decide))).mono ?_)
      rintro e x5 ⟨rfl, b5⟩
      have s5 : x5.heap[sb]? = some (.cells C 43 (0, 0)) := (b5.block sb (blk_lt s4)).trans s4
      have H5 := hide (And.intro (rowG_below H4.out.1 b5) (H4.out.2.trans (b5.mono H4.out.2.size)))
      refine ⟨_, rfl, s5, ?_⟩
      clear H4 b5 s4
      simp only [Act.put, List.setIfInBounds_toArray, List.set_cons_zero, List.set_cons_succ]
      refine H_call (i := 6) (f := 21) (args := #[.string ⟨#[116, 111, 116, 97, 108, 45, 106, 111, 98, 115]⟩, .int .i64 (f 34)]) (some 30) rfl rfl (by kernel_rfl) rfl (by simp [go_sem]) ((refnum_any ⟨#[116, 111, 116, 97, 108, 45, 106, 111, 98, 115]⟩ (f 34) x5 (HN.out 34 (by decide))).mono ?_)
      rintro e x6 ⟨rfl, b6⟩
      have s6 : x6.heap[sb]? = some (.cells C 43 (0, 0)) := (b6.block sb (blk_lt s5)).trans s5
      have H6 := hide (And.intro (rowG_below H5.out.1 b6) (H5.out.2.trans (b6.mono H5.out.2.size)))
      refine ⟨_, rfl, s6, ?_⟩
      clear H5 b6 s5
      simp only [Act.put, List.setIfInBounds_toArray, List.set_cons_zero, List.set_cons_succ]
      refine H_call (i := 9) (f := 21) (args := #[.string ⟨#[109, 97, 120, 45, 106, 111, 98, 45, 115, 105, 122, 101]⟩, .int .i64 (f 41)]) (some 33) rfl rfl (by kernel_rfl) rfl (by simp [go_sem]) ((refnum_any ⟨#[109, 97, 120, 45, 106, 111, 98, 45, 115, 105, 122, 101]⟩ (f 41) x6 (HN.out 41 (by decide))).mono ?_)
      rintro e x7 ⟨rfl, b7⟩
      have s7 : x7.heap[sb]? = some (.cells C 43 (0, 0)) := (b7.block sb (blk_lt s6)).trans s6
      have H7 := hide (And.intro (rowG_below H6.out.1 b7) (H6.out.2.trans (b7.mono H6.out.2.size)))
      refine ⟨_, rfl, s7, ?_⟩
      clear H6 b7 s6
      simp only [Act.put, List.setIfInBounds_toArray, List.set_cons_zero, List.set_cons_succ]
      refine H_call (i := 12) (f := 21) (args := #[.string ⟨#[99, 117, 114, 114, 101, 110, 116, 45, 116, 117, 98, 101, 115]⟩, .int .i64 (f 36)]) (some 36) rfl rfl (by kernel_rfl) rfl (by simp [go_sem]) ((refnum_any ⟨#[99, 117, 114, 114, 101, 110, 116, 45, 116, 117, 98, 101, 115]⟩ (f 36) x7 (HN.out 36 (by decide))).mono ?_)
      rintro e x8 ⟨rfl, b8⟩
      have s8 : x8.heap[sb]? = some (.cells C 43 (0, 0)) := (b8.block sb (blk_lt s7)).trans s7
      have H8 := hide (And.intro (rowG_below H7.out.1 b8) (H7.out.2.trans (b8.mono H7.out.2.size)))
      refine ⟨_, rfl, s8, ?_⟩
      clear H7 b8 s7
      simp only [Act.put, List.setIfInBounds_toArray, List.set_cons_zero, List.set_cons_succ]
      refine H_call (i := 15) (f := 21) (args := #[.string ⟨#[99, 117, 114, 114, 101, 110, 116, 45, 99, 111, 110, 110, 101, 99, 116, 105, 111, 110, 115]⟩, .int .i64 (f 37)]) (some 39) rfl rfl (by kernel_rfl) rfl (by simp [go_sem]) ((refnum_any ⟨#[99, 117, 114, 114, 101, 110, 116, 45, 99, 111, 110, 110, 101, 99, 116, 105, 111, 110, 115]⟩ (f 37) x8 (HN.out 37 (by decide))).mono ?_)
      rintro e x9 ⟨rfl, b9⟩
      have s9 : x9.heap[sb]? = some (.cells C 43 (0, 0)) := (b9.block sb (blk_lt s8)).trans s8
      have H9 := hide (And.intro (rowG_below H8.out.1 b9) (H8.out.2.trans (b9.mono H8.out.2.size)))
      refine ⟨_, rfl, s9, ?_⟩
      clear H8 b9 s8
      simp only [Act.put, List.setIfInBounds_toArray, List.set_cons_zero, List.set_cons_succ]
      refine H_call (i := 18) (f := 21) (args := #[.string ⟨#[99, 117, 114, 114, 101, 110, 116, 45, 112, 114, 111, 100, 117, 99, 101, 114, 115]⟩, .int .i64 (f 38)]) (some 42) rfl rfl (by kernel_rfl) rfl (by simp [go_sem]) ((refnum_any ⟨#[99, 117, 114, 114, 101, 110, 116, 45, 112, 114, 111, 100, 117, 99, 101, 114, 115]⟩ (f 38) x9 (HN.out 38 (by decide))).mono ?_)
      rintro e x10 ⟨rfl, b10⟩
      have s10 : x10.heap[sb]? = some (.cells C 43 (0, 0)) := (b10.block sb (blk_lt s9)).trans s9
      have H10 := hide (And.intro (rowG_below H9.out.1 b10) (H9.out.2.trans (b10.mono H9.out.2.size)))
      refine ⟨_, rfl, s10, ?_⟩
      clear H9 b10 s9
      simp only [Act.put, List.setIfInBounds_toArray, List.set_cons_zero, List.set_cons_succ]
      refine H_call (i := 21) (f := 21) (args := #[.string ⟨#[99, 117, 114, 114, 101, 110, 116, 45, 119, 111, 114, 107, 101, 114, 115]⟩, .int .i64 (f 39)]) (some 45) rfl rfl (by kernel_rfl) rfl (by simp [go_sem]) ((refnum_any ⟨#[99, 117, 114, 114, 101, 110, 116, 45, 119, 111, 114, 107, 101, 114, 115]⟩ (f 39) x10 (HN.out 39 (by decide))).mono ?_)
      rintro e x11 ⟨rfl, b11⟩
      have s11 : x11.heap[sb]? = some (.cells C 43 (0, 0)) := (b11.block sb (blk_lt s10)).trans s10
      have H11 := hide (And.intro (rowG_below H10.out.1 b11) (H10.out.2.trans (b11.mono H10.out.2.size)))
      refine ⟨_, rfl, s11, ?_⟩
      clear H10 b11 s10
      simp only [Act.put, List.setIfInBounds_toArray, List.set_cons_zero, List.set_cons_succ]
      refine H_call (i := 24) (f := 21) (args := #[.string ⟨#[99, 117, 114, 114, 101, 110, 116, 45, 119, 97, 105, 116, 105, 110, 103]⟩, .int .i64 (f 40)]) (some 48) rfl rfl (by kernel_rfl) rfl (by simp [go_sem]) ((refnum_any ⟨#[99, 117, 114, 114, 101, 110, 116, 45, 119, 97, 105, 116, 105, 110, 103]⟩ (f 40) x11 (HN.out 40 (by decide))).mono ?_)
      rintro e x12 ⟨rfl, b12⟩
      have s12 : x12.heap[sb]? = some (.cells C 43 (0, 0)) := (b12.block sb (blk_lt s11)).trans s11
      have H12 := hide (And.intro (rowG_below H11.out.1 b12) (H11.out.2.trans (b12.mono H11.out.2.size)))
      refine ⟨_, rfl, s12, ?_⟩
      clear H11 b12 s11
      simp only [Act.put, List.setIfInBounds_toArray, List.set_cons_zero, List.set_cons_succ]
      refine H_call (i := 27) (f := 21) (args := #[.string ⟨#[116, 111, 116, 97, 108, 45, 99, 111, 110, 110, 101, 99, 116, 105, 111, 110, 115]⟩, .int .i64 (f 35)]) (some 51) rfl rfl (by kernel_rfl) rfl (by simp [go_sem]) ((refnum_any ⟨#[116, 111, 116, 97, 108, 45, 99, 111, 110, 110, 101, 99, 116, 105, 111, 110, 115]⟩ (f 35) x12 (HN.out 35 (by decide))).mono ?_)
      rintro e x13 ⟨rfl, b13⟩
      have s13 : x13.heap[sb]? = some (.cells C 43 (0, 0)) := (b13.block sb (blk_lt s12)).trans s12
      have H13 := hide (And.intro (rowG_below H12.out.1 b13) (H12.out.2.trans (b13.mono H12.out.2.size)))
      refine ⟨_, rfl, s13, ?_⟩
      clear H12 b13 s12
      simp only [Act.put, List.setIfInBounds_toArray, List.set_cons_zero, List.set_cons_succ]
      refine H_call (i := 32) (f := 19) (args := #[.int .i64 (f 0), .int .i64 (f 1)]) (some 56) rfl rfl (by kernel_rfl) rfl (by simp [go_sem]) ((refless_any (f 0) (f 1) x13).mono ?_)
      rintro e w2 ⟨rfl, hw2⟩
      obtain rfl := hw2.symm
      refine ⟨_, rfl, s13, ?_⟩
      simp only [Act.put, List.setIfInBounds_toArray, List.set_cons_zero, List.set_cons_succ]
      refine H_call (i := 33) (f := 21) (args := #[.string ⟨#[117, 112, 116, 105, 109, 101]⟩, .int .i64 (lessI (f 0) (f 1))]) (some 57) rfl rfl (by kernel_rfl) rfl (by simp [go_sem]) ((refnum_any ⟨#[117, 112, 116, 105, 109, 101]⟩ (lessI (f 0) (f 1)) x13 (lessI_64 _ _)).mono ?_)
      rintro e x14 ⟨rfl, b14⟩
      have s14 : x14.heap[sb]? = some (.cells C 43 (0, 0)) := (b14.block sb (blk_lt s13)).trans s13
      have H14 := hide (And.intro (rowG_below H13.out.1 b14) (H13.out.2.trans (b14.mono H13.out.2.size)))
      refine ⟨_, rfl, s14, ?_⟩
      clear H13 b14 s13
      simp only [Act.put, List.setIfInBounds_toArray, List.set_cons_zero, List.set_cons_succ]
      refine H_call (i := 36) (f := 21) (args := #[.string ⟨#[98, 105, 110, 108, 111, 103, 45, 111, 108, 100, 101, 115, 116, 45, 105, 110, 100, 101, 120]⟩, .int .i64 (f 42)]) (some 60) rfl rfl (by kernel_rfl) rfl (by simp [go_sem]) ((refnum_any ⟨#[98, 105, 110, 108, 111, 103, 45, 111, 108, 100, 101, 115, 116, 45, 105, 110, 100, 101, 120]⟩ (f 42) x14 (HN.out 42 (by decide))).mono ?_)
      rintro e x15 ⟨rfl, b15⟩
      have s15 : x15.heap[sb]? = some (.cells C 43 (0, 0)) := (b15.block sb (blk_lt s14)).trans s14
      have H15 := hide (And.intro (rowG_below H14.out.1 b15) (H14.out.2.trans (b15.mono H14.out.2.size)))
      refine ⟨_, rfl, s15, ?_⟩
      clear H14 b15 s14
      simp only [Act.put, List.setIfInBounds_toArray, List.set_cons_zero, List.set_cons_succ]
      refine H_call (i := 39) (f := 21) (args := #[.string ⟨#[98, 105, 110, 108, 111, 103, 45, 99, 117, 114, 114, 101, 110, 116, 45, 105, 110, 100, 101, 120]⟩, .int .i64 (f 43)]) (some 63) rfl rfl (by kernel_rfl) rfl (by simp [go_sem]) ((refnum_any ⟨#[98, 105, 110, 108, 111, 103, 45, 99, 117, 114, 114, 101, 110, 116, 45, 105, 110, 100, 101, 120]⟩ (f 43) x15 (HN.out 43 (by decide))).mono ?_)
      rintro e x16 ⟨rfl, b16⟩
      have s16 : x16.heap[sb]? = some (.cells C 43 (0, 0)) := (b16.block sb (blk_lt s15)).trans s15
      have H16 := hide (And.intro (rowG_below H15.out.1 b16) (H15.out.2.trans (b16.mono H15.out.2.size)))
      refine ⟨_, rfl, s16, ?_⟩
      clear H15 b16 s15
      simp only [Act.put, List.setIfInBounds_toArray, List.set_cons_zero, List.set_cons_succ]
      refine H_call (i := 42) (f := 21) (args := #[.string ⟨#[98, 105, 110, 108, 111, 103, 45, 114, 101, 99, 111, 114, 100, 115, 45, 109, 105, 103, 114, 97, 116, 101, 100]⟩, .int .i64 (f 44)]) (some 66) rfl rfl (by kernel_rfl) rfl (by simp [go_sem]) ((refnum_any ⟨#[98, 105, 110, 108, 111, 103, 45, 114, 101, 99, 111, 114, 100, 115, 45, 109, 105, 103, 114, 97, 116, 101, 100]⟩ (f 44) x16 (HN.out 44 (by decide))).mono ?_)
      rintro e x17 ⟨rfl, b17⟩
      have s17 : x17.heap[sb]? = some (.cells C 43 (0, 0)) := (b17.block sb (blk_lt s16)).trans s16
      have H17 := hide (And.intro (rowG_below H16.out.1 b17) (H16.out.2.trans (b17.mono H16.out.2.size)))
      refine ⟨_, rfl, s17, ?_⟩
      clear H16 b17 s16
      simp only [Act.put, List.setIfInBounds_toArray, List.set_cons_zero, List.set_cons_succ]
      refine H_call (i := 45) (f := 21) (args := #[.string ⟨#[98, 105, 110, 108, 111, 103, 45, 114, 101, 99, 111, 114, 100, 115, 45, 119, 114, 105, 116, 116, 101, 110]⟩, .int .i64 (f 45)]) (some 69) rfl rfl (by kernel_rfl) rfl (by simp [go_sem]) ((refnum_any ⟨#[98, 105, 110, 108, 111, 103, 45, 114, 101, 99, 111, 114, 100, 115, 45, 119, 114, 105, 116, 116, 101, 110]⟩ (f 45) x17 (HN.out 45 (by decide))).mono ?_)
      rintro e x18 ⟨rfl, b18⟩
      have s18 : x18.heap[sb]? = some (.cells C 43 (0, 0)) := (b18.block sb (blk_lt s17)).trans s17
      have H18 := hide (And.intro (rowG_below H17.out.1 b18) (H17.out.2.trans (b18.mono H17.out.2.size)))
      refine ⟨_, rfl, s18, ?_⟩
      clear H17 b18 s17
      simp only [Act.put, List.setIfInBounds_toArray, List.set_cons_zero, List.set_cons_succ]
      refine H_call (i := 48) (f := 21) (args := #[.string ⟨#[98, 105, 110, 108, 111, 103, 45, 109, 97, 120, 45, 115, 105, 122, 101]⟩, .int .i64 (f 47)]) (some 72) rfl rfl (by kernel_rfl) rfl (by simp [go_sem]) ((refnum_any ⟨#[98, 105, 110, 108, 111, 103, 45, 109, 97, 120, 45, 115, 105, 122, 101]⟩ (f 47) x18 (HN.out 47 (by decide))).mono ?_)
      rintro e x19 ⟨rfl, b19⟩
      have s19 : x19.heap[sb]? = some (.cells C 43 (0, 0)) := (b19.block sb (blk_lt s18)).trans s18
      have H19 := hide (And.intro (rowG_below H18.out.1 b19) (H18.out.2.trans (b19.mono H18.out.2.size)))
      refine ⟨_, rfl, s19, ?_⟩
      clear H18 b19 s18
      simp only [Act.put, List.setIfInBounds_toArray, List.set_cons_zero, List.set_cons_succ]
      have R20 := hide (row_new x19 (tailP f) #[.string ⟨#[106, 111, 98, 45, 116, 105, 109, 101, 111, 117, 116, 115]⟩, .string (prS (f 33)), .string ⟨#[116, 111, 116, 97, 108, 45, 106, 111, 98, 115]⟩, .string (prS (f 34)), .string ⟨#[109, 97, 120, 45, 106, 111, 98, 45, 115, 105, 122, 101]⟩, .string (prS (f 41)), .string ⟨#[99, 117, 114, 114, 101, 110, 116, 45, 116, 117, 98, 101, 115]⟩, .string (prS (f 36)), .string ⟨#[99, 117, 114, 114, 101, 110, 116, 45, 99, 111, 110, 110, 101, 99, 116, 105, 111, 110, 115]⟩, .string (prS (f 37)), .string ⟨#[99, 117, 114, 114, 101, 110, 116, 45, 112, 114, 111, 100, 117, 99, 101, 114, 115]⟩, .string (prS (f 38)), .string ⟨#[99, 117, 114, 114, 101, 110, 116, 45, 119, 111, 114, 107, 101, 114, 115]⟩, .string (prS (f 39)), .string ⟨#[99, 117, 114, 114, 101, 110, 116, 45, 119, 97, 105, 116, 105, 110, 103]⟩, .string (prS (f 40)), .string ⟨#[116, 111, 116, 97, 108, 45, 99, 111, 110, 110, 101, 99, 116, 105, 111, 110, 115]⟩, .string (prS (f 35)), .string ⟨#[117, 112, 116, 105, 109, 101]⟩, .string (prS (lessI (f 0) (f 1))), .string ⟨#[98, 105, 110, 108, 111, 103, 45, 111, 108, 100, 101, 115, 116, 45, 105, 110, 100, 101, 120]⟩, .string (prS (f 42)), .string ⟨#[98, 105, 110, 108, 111, 103, 45, 99, 117, 114, 114, 101, 110, 116, 45, 105, 110, 100, 101, 120]⟩, .string (prS (f 43)), .string ⟨#[98, 105, 110, 108, 111, 103, 45, 114, 101, 99, 111, 114, 100, 115, 45, 109, 105, 103, 114, 97, 116, 101, 100]⟩, .string (prS (f 44)), .string ⟨#[98, 105, 110, 108, 111, 103, 45, 114, 101, 99, 111, 114, 100, 115, 45, 119, 114, 105, 116, 116, 101, 110]⟩, .string (prS (f 45)), .string ⟨#[98, 105, 110, 108, 111, 103, 45, 109, 97, 120, 45, 115, 105, 122, 101]⟩, .string (prS (f 47))] 15 rfl rfl (by show (15 : Nat) ≤ 1000; decide))
      obtain ⟨x20, hx20⟩ : ∃ x20, x20 = x19.alloc (.cells #[.string ⟨#[106, 111, 98, 45, 116, 105, 109, 101, 111, 117, 116, 115]⟩, .string (prS (f 33)), .string ⟨#[116, 111, 116, 97, 108, 45, 106, 111, 98, 115]⟩, .string (prS (f 34)), .string ⟨#[109, 97, 120, 45, 106, 111, 98, 45, 115, 105, 122, 101]⟩, .string (prS (f 41)), .string ⟨#[99, 117, 114, 114, 101, 110, 116, 45, 116, 117, 98, 101, 115]⟩, .string (prS (f 36)), .string ⟨#[99, 117, 114, 114, 101, 110, 116, 45, 99, 111, 110, 110, 101, 99, 116, 105, 111, 110, 115]⟩, .string (prS (f 37)), .string ⟨#[99, 117, 114, 114, 101, 110, 116, 45, 112, 114, 111, 100, 117, 99, 101, 114, 115]⟩, .string (prS (f 38)), .string ⟨#[99, 117, 114, 114, 101, 110, 116, 45, 119, 111, 114, 107, 101, 114, 115]⟩, .string (prS (f 39)), .string ⟨#[99, 117, 114, 114, 101, 110, 116, 45, 119, 97, 105, 116, 105, 110, 103]⟩, .string (prS (f 40)), .string ⟨#[116, 111, 116, 97, 108, 45, 99, 111, 110, 110, 101, 99, 116, 105, 111, 110, 115]⟩, .string (prS (f 35)), .string ⟨#[117, 112, 116, 105, 109, 101]⟩, .string (prS (lessI (f 0) (f 1))), .string ⟨#[98, 105, 110, 108, 111, 103, 45, 111, 108, 100, 101, 115, 116, 45, 105, 110, 100, 101, 120]⟩, .string (prS (f 42)), .string ⟨#[98, 105, 110, 108, 111, 103, 45, 99, 117, 114, 114, 101, 110, 116, 45, 105, 110, 100, 101, 120]⟩, .string (prS (f 43)), .string ⟨#[98, 105, 110, 108, 111, 103, 45, 114, 101, 99, 111, 114, 100, 115, 45, 109, 105, 103, 114, 97, 116, 101, 100]⟩, .string (prS (f 44)), .string ⟨#[98, 105, 110, 108, 111, 103, 45, 114, 101, 99, 111, 114, 100, 115, 45, 119, 114, 105, 116, 116, 101, 110]⟩, .string (prS (f 45)), .string ⟨#[98, 105, 110, 108, 111, 103, 45, 109, 97, 120, 45, 115, 105, 122, 101]⟩, .string (prS (f 47))] 52) := ⟨_, rfl⟩
      have b20 : Below x19.heap.size x19 x20 := by rw [hx20]; exact (Below.refl _ x19).alloc (Nat.le_refl _) _
      have s20 : x20.heap[sb]? = some (.cells C 43 (0, 0)) := (b20.block sb (blk_lt s19)).trans s19
      have H20 := hide (And.intro (rowG_below H19.out.1 b20) (H19.out.2.trans (b20.mono H19.out.2.size)))
      refine H_value (i := 49) (v := .slice (some ⟨x19.heap.size, 0, none⟩) 15 15) (w' := x20) (some 73) rfl rfl (by kernel_rfl) rfl (by rw [hx20]; simp [go_sem]) s20 ?_
      rw [← hx20] at R20
      clear H19 b20 s19 hx20
      simp only [Act.put, List.setIfInBounds_toArray, List.set_cons_zero, List.set_cons_succ]
      refine H_pairs (i := 50) (some 74) rfl rfl (by kernel_rfl) rfl (.tmp 24) (.tmp 73) rfl w1.heap.size _ u3 pp (tailP f) _ 15 rfl rfl H20.out.1 R20.out (by have := HPP.out.2; omega) (by show (15 : Nat) ≤ 1000; decide) H20.out.2.size (fun v21 x21 o21 g21 => ?_)
      have b21 : Below w1.heap.size w1 x21 := H20.out.2.grown g21 H20.out.2.size (fun j hj => (World.ownsRow.lt H20.out.1 j hj).1)
      have s21 : x21.heap[sb]? = some (.cells C 43 (0, 0)) := (b21.block sb B1.out.2.2).trans B1.out.2.1
      refine ⟨s21, ?_⟩
      have OT := hide (And.intro o21 b21)
      clear o21 g21 b21 s20 H20 R20
      simp only [Act.put, List.setIfInBounds_toArray, List.set_cons_zero, List.set_cons_succ]
      refine H_take (i := 51) (v := v21) (some 3) rfl rfl (by kernel_rfl) (by kernel_rfl) (by kernel_rfl) (fun _ _ _ h => h) rfl (fun X hX => ?_) s21 ?_
      · simp [go_sem]
      simp only [Act.put, List.setIfInBounds_toArray, List.set_cons_zero, List.set_cons_succ]
      refine wpAnyH_done (by kernel_rfl) ?_ _
      clear s21
      have x48 : x21.cell? ⟨sb, 48, none⟩ = some (.bool dr) := by rw [cell_of_row x21 sb 48 C _ (0, 0) ((OT.out.2.block sb B1.out.2.2).trans B1.out.2.1)]; exact HL.out
      have HE : Hid (shopP f dr = (pp ++ tailP f) ++ [(sDr, trS dr)]) := by
        show _ = _
        rw [HPP.out.1]
        rfl
      rw [HE.out] at HBD HDD
      have hl2 : (pp ++ tailP f).length = 44 := by rw [List.length_append, HPP.out.2]; rfl
      have HL2 := hide hl2
      clear hl2 HL
      cases dr
      · have RZ := hide (row_new x21 [(sDr, trS false)] #[.string sDr, .string (trS false)] 1 rfl rfl (by show (1 : Nat) ≤ 1000; decide))
        obtain ⟨wz, hwz⟩ : ∃ wz, wz = x21.alloc (.cells #[.string sDr, .string (trS false)] 52) := ⟨_, rfl⟩
        have bz : Below x21.heap.size x21 wz := by rw [hwz]; exact (Below.refl _ x21).alloc (Nat.le_refl _) _
        rw [← hwz] at RZ
        have OZ := hide (And.intro (rowG_below OT.out.1 bz) (OT.out.2.trans (bz.mono OT.out.2.size)))
        have HWZ := hide hwz
        clear bz hwz
        go_wp2_with (first
          | (at_builtin
             rw [show x21.alloc (.cells #[.string ⟨#[100, 114, 97, 105, 110, 105, 110, 103]⟩, .string ⟨#[102, 97, 108, 115, 101]⟩] 52) = wz from HWZ.out.symm]
             refine wpList_pairs rfl (.tmp 77) (.tmp 80) rfl w1.heap.size _ v21 (pp ++ tailP f) [(sDr, trS false)] (some ⟨x21.heap.size, 0, none⟩) 1 (by rfl) (by rfl) OZ.out.1 RZ.out (by have := HL2.out; omega) (by show (1 : Nat) ≤ 1000; decide) OZ.out.2.size ?_
             intro vq wq oq gq
             have bq : Below w1.heap.size w1 wq := OZ.out.2.grown gq OZ.out.2.size (fun j hj => (World.ownsRow.lt OZ.out.1 j hj).1)
             have IQ := hide (And.intro (pairs_of_row oq (by have := HL2.out; rw [List.length_append, this]; decide)) bq)
             clear oq gq bq)
          | (go_at_call 20
             obtain ⟨ap, cp, ep, ip⟩ := IQ.out.1
             rw [ep]
             refine (reftold_any ap cp _ wq ip HBD.out).mono ?_
             rintro e wt ⟨at1, ct1, rfl, it, bt⟩
             rw [← HDD.out] at it ⊢
             have HT := hide (And.intro it bt)
             clear it bt))
        go_ret
        have BW : Below w.heap.size w wq := B1.out.1.trans (IQ.out.2.mono B1.out.1.size)
        exact ⟨_, _, rfl, ⟨HT.out.1.1, fun b' o h => Nat.le_trans BW.size (HT.out.1.2 b' o h)⟩, BW.trans (HT.out.2.mono BW.size)⟩
      · have RZ := hide (row_new x21 [(sDr, trS true)] #[.string sDr, .string (trS true)] 1 rfl rfl (by show (1 : Nat) ≤ 1000; decide))
        obtain ⟨wz, hwz⟩ : ∃ wz, wz = x21.alloc (.cells #[.string sDr, .string (trS true)] 52) := ⟨_, rfl⟩
        have bz : Below x21.heap.size x21 wz := by rw [hwz]; exact (Below.refl _ x21).alloc (Nat.le_refl _) _
        rw [← hwz] at RZ
        have OZ := hide (And.intro (rowG_below OT.out.1 bz) (OT.out.2.trans (bz.mono OT.out.2.size)))
        have HWZ := hide hwz
        clear bz hwz
        go_wp2_with (first
          | (at_builtin
             rw [show x21.alloc (.cells #[.string ⟨#[100, 114, 97, 105, 110, 105, 110, 103]⟩, .string ⟨#[116, 114, 117, 101]⟩] 52) = wz from HWZ.out.symm]
             refine wpList_pairs rfl (.tmp 77) (.tmp 80) rfl w1.heap.size _ v21 (pp ++ tailP f) [(sDr, trS true)] (some ⟨x21.heap.size, 0, none⟩) 1 (by rfl) (by rfl) OZ.out.1 RZ.out (by have := HL2.out; omega) (by show (1 : Nat) ≤ 1000; decide) OZ.out.2.size ?_
             intro vq wq oq gq
             have bq : Below w1.heap.size w1 wq := OZ.out.2.grown gq OZ.out.2.size (fun j hj => (World.ownsRow.lt OZ.out.1 j hj).1)
             have IQ := hide (And.intro (pairs_of_row oq (by have := HL2.out; rw [List.length_append, this]; decide)) bq)
             clear oq gq bq)
          | (go_at_call 20
             obtain ⟨ap, cp, ep, ip⟩ := IQ.out.1
             rw [ep]
             refine (reftold_any ap cp _ wq ip HBD.out).mono ?_
             rintro e wt ⟨at1, ct1, rfl, it, bt⟩
             rw [← HDD.out] at it ⊢
             have HT := hide (And.intro it bt)
             clear it bt))
        go_ret
        have BW : Below w.heap.size w wq := B1.out.1.trans (IQ.out.2.mono B1.out.1.size)
        exact ⟨_, _, rfl, ⟨HT.out.1.1, fun b' o h => Nat.le_trans BW.size (HT.out.1.2 b' o h)⟩, BW.trans (HT.out.2.mono BW.size)⟩
end Go.Proofs.YthapbnlcodkalaaDoor
