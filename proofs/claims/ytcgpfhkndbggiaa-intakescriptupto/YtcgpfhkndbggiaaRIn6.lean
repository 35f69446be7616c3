/-
  The document's intake: Clone.
-/
import Derived.Test.YtcgpfhkndbggiaaRIn4
import Derived.Test.YtcgpfhkndbggiaaDKeep
namespace Go.Proofs.Ytcgpfhkndbggiaa
open Go.RowKit

set_option maxHeartbeats 4000000 in
set_option maxRecDepth 1000000 in
theorem refClone_any (w : World) (rb : Nat) (v : Value) (s : In) (h : RfAt w rb v s) (hl : s.held.length ≤ 2147483648) :
    Calls Try.prog 46 #[.pointer (some ⟨rb, 0, none⟩)] w fun e w' => e = .returned (.pointer (some ⟨w.heap.size, 0, none⟩)) ∧ (∃ v', RfAt w' w.heap.size v' s ∧ ∀ k, Mine w.heap.size v' k → w.heap.size ≤ k) ∧ Below w.heap.size w w' := by
  obtain ⟨n, cr, ed, hbx, how, hlk, hn0, hn1⟩ := h
  obtain ⟨av, cv, hv, his⟩ := how.shape
  subst hv
  obtain ⟨ln, hln⟩ : ∃ ln, ln = s.held.length := ⟨_, rfl⟩
  rw [← hln] at hbx
  obtain ⟨c0, c1, c2, c3, c4, c5⟩ := hbx.cell
  have hlt := hbx.lt
  have HLK := hide hlk
  have HIS := hide his
  have HLN := hide hln
  have HBX := hide hbx
  obtain ⟨w1, hw1⟩ : ∃ w1, w1 = (w.alloc (.cells #[.int .i64 s.most, .int .i64 (s.stand : Int), .slice none 0 0, .int .i64 n, .bool cr, .bool ed] 78)).drew := ⟨_, rfl⟩
  obtain ⟨nb, hnb⟩ : ∃ nb, nb = w.heap.size := ⟨_, rfl⟩
  have B1 : Hid (Below w.heap.size w w1) := by rw [hw1]; exact ((Below.refl _ w).alloc (Nat.le_refl _) _).drew
  have X1 : Hid (RBox w1 nb s.most s.stand (.slice none 0 0) n cr ed ∧ nb = w.heap.size) := by
    refine ⟨?_, hnb⟩
    rw [hw1, hnb]
    exact heap_alloc_last w _
  have HW1 := hide (And.intro hw1 hnb)
  clear hbx how hlk his hln hw1 hnb
  go_enter Try.func46, Try.ntmps46
  go_wp2_with fail
  refine wp_tail 21 mixed (by kernel_rfl) ?_
  simp only [List.take_succ_cons, List.take_zero, List.drop_succ_cons, List.drop_zero]
  still_step
  still_step
  still_step
  still_step
  still_step
  still_step
  still_step
  still_step
  still_step
  still_step
  still_step
  still_step
  still_step
  still_step
  still_step
  still_step
  still_step
  still_step
  still_step
  still_step
  still_step
  refine wpStill_nil ?_
  go_upto_region 2 with fail
  rw [← HW1.out.1, ← HW1.out.2]
  clear HW1
  obtain ⟨_, _, d2, _, _, _⟩ := X1.out.1.cell
  have hltn := X1.out.1.lt
  have e2 := (B1.out.cell (p := ⟨rb, 2, none⟩) hlt).trans c2
  have I1 : Hid (IsBytes w1.drew av cv s.held) := HIS.out.below (B1.out.drew)
  have hlt1 := cell_lt e2
  have hln2 : ln ≤ 2147483648 := by have := HLN.out; omega
  have FIN : Hid (∀ a2 cc2 (w2 : World), Own w2 w1.heap.size (.slice a2 ln cc2) s.held → Below w1.heap.size w1 w2 → RBox w2 nb s.most s.stand (.slice none 0 0) n cr ed → Ending.returned (.pointer (some ⟨nb, 0, none⟩)) = Ending.returned (.pointer (some ⟨w.heap.size, 0, none⟩)) ∧ (∃ v', RfAt (w2.setCell ⟨nb, 2, none⟩ (.slice a2 ln cc2)) w.heap.size v' s ∧ ∀ k, Mine w.heap.size v' k → w.heap.size ≤ k) ∧ Below w.heap.size w (w2.setCell ⟨nb, 2, none⟩ (.slice a2 ln cc2))) := by
    intro a2 cc2 w2 ow be x2
    have kk : Kept (fun q => q = nb) w2 (w2.setCell ⟨nb, 2, none⟩ (.slice a2 ln cc2)) := Kept.setCell _ _ _ _ _ rfl
    refine ⟨by rw [X1.out.2], ⟨.slice a2 ln cc2, ?_, ?_⟩, ?_⟩
    · rw [← X1.out.2]
      exact ⟨n, cr, ed, x2.setHeld _, kk.own (ow.mono (Nat.zero_le _)) (fun g' hg' e => x2.apart (ow.mono (Nat.zero_le _)) (by rw [hg', e])), HLK.out, hn0, hn1⟩
    · rintro k (e | e)
      · omega
      · exact Nat.le_trans B1.out.size (ow.lt k e).1
    · exact (B1.out.trans (be.mono B1.out.size)).trans (kk.below (by have := B1.out.size; have := be.size; omega) (fun k hk e => by have := X1.out.2; omega))
  clear c0 c1 c2 c3 c4 c5 hlt
  refine wp_region_any (by kernel_rfl) (show wpAny _ _ _ _ _ _ _ w1.drew from ?_)
  obtain ⟨x1, hx1⟩ : ∃ x1, x1 = w1.drew := ⟨_, rfl⟩
  have hs1 : x1.heap.size = w1.heap.size := by rw [hx1]; rfl
  have b1x : Below w1.heap.size w1 x1 := by rw [hx1]; exact (Below.refl _ w1).drew
  have d2x : x1.cell? ⟨nb, 2, none⟩ = some (.slice none 0 0) := by rw [hx1]; exact d2
  have e2x : x1.cell? ⟨rb, 2, none⟩ = some (.slice av ln cv) := by rw [hx1]; exact e2
  have X1x : Hid (RBox x1 nb s.most s.stand (.slice none 0 0) n cr ed) := by rw [hx1]; exact X1.out.1
  rw [← hx1] at I1 ⊢
  have FIN2 : Hid (∀ a2 cc2 (w2 : World), Own w2 x1.heap.size (.slice a2 ln cc2) s.held → Below x1.heap.size x1 w2 → RBox w2 nb s.most s.stand (.slice none 0 0) n cr ed → Ending.returned (.pointer (some ⟨nb, 0, none⟩)) = Ending.returned (.pointer (some ⟨w.heap.size, 0, none⟩)) ∧ (∃ v', RfAt (w2.setCell ⟨nb, 2, none⟩ (.slice a2 ln cc2)) w.heap.size v' s ∧ ∀ k, Mine w.heap.size v' k → w.heap.size ≤ k) ∧ Below w.heap.size w (w2.setCell ⟨nb, 2, none⟩ (.slice a2 ln cc2))) := by
    intro a2 cc2 w2 ow be x2
    rw [hs1] at ow be
    exact FIN.out a2 cc2 w2 ow (b1x.trans be) x2
  have hltn2 : nb < x1.heap.size := by omega
  clear hx1 d2 e2 FIN b1x hltn hlt1 hs1
  refine A_take (i := 0) (v := .pointer (some ⟨nb, 0, none⟩)) (some 26) rfl rfl (by kernel_rfl) (by kernel_rfl) (by kernel_rfl) (fun _ _ _ h => h) (.inl ⟨rfl, fun w => ?_⟩) ?_
  · simp [go_sem]
  simp only [Act.put, List.setIfInBounds_toArray, List.set_cons_zero, List.set_cons_succ]
  refine A_take (i := 1) (v := .pointer (some ⟨nb, 0, none⟩)) (some 27) rfl rfl (by kernel_rfl) (by kernel_rfl) (by kernel_rfl) (fun _ _ _ h => h) (.inl ⟨rfl, fun w => ?_⟩) ?_
  · simp [go_sem]
  simp only [Act.put, List.setIfInBounds_toArray, List.set_cons_zero, List.set_cons_succ]
  refine A_take (i := 2) (v := .pointer (some ⟨nb, 0, none⟩)) (some 28) rfl rfl (by kernel_rfl) (by kernel_rfl) (by kernel_rfl) (fun _ _ _ h => h) (.inl ⟨rfl, fun w => ?_⟩) ?_
  · simp [go_sem]
  simp only [Act.put, List.setIfInBounds_toArray, List.set_cons_zero, List.set_cons_succ]
  refine A_take (i := 3) (v := .pointer (some ⟨nb, 2, none⟩)) (some 29) rfl rfl (by kernel_rfl) (by kernel_rfl) (by kernel_rfl) (fun _ _ _ h => h) (.inl ⟨rfl, fun w => ?_⟩) ?_
  · simp [go_sem]
  simp only [Act.put, List.setIfInBounds_toArray, List.set_cons_zero, List.set_cons_succ]
  refine A_take (i := 5) (v := .pointer (some ⟨rb, 0, none⟩)) (some 31) rfl rfl (by kernel_rfl) (by kernel_rfl) (by kernel_rfl) (fun _ _ _ h => h) (.inl ⟨rfl, fun w => ?_⟩) ?_
  · simp [go_sem]
  simp only [Act.put, List.setIfInBounds_toArray, List.set_cons_zero, List.set_cons_succ]
  refine A_take (i := 6) (v := .pointer (some ⟨rb, 0, none⟩)) (some 32) rfl rfl (by kernel_rfl) (by kernel_rfl) (by kernel_rfl) (fun _ _ _ h => h) (.inl ⟨rfl, fun w => ?_⟩) ?_
  · simp [go_sem]
  simp only [Act.put, List.setIfInBounds_toArray, List.set_cons_zero, List.set_cons_succ]
  refine A_take (i := 7) (v := .pointer (some ⟨rb, 2, none⟩)) (some 33) rfl rfl (by kernel_rfl) (by kernel_rfl) (by kernel_rfl) (fun _ _ _ h => h) (.inl ⟨rfl, fun w => ?_⟩) ?_
  · simp [go_sem]
  simp only [Act.put, List.setIfInBounds_toArray, List.set_cons_zero, List.set_cons_succ]
  refine wpAny_all (rs := [4, 8]) (by kernel_rfl) (by decide) (fun i hi => ?_)
  have hi2 : i = 4 ∨ i = 8 := by simpa using hi
  clear hi
  rcases hi2 with rfl | rfl
  · refine D_value (some 30) rfl rfl rfl (run_load1 rfl rfl Try.isAgg30 d2x) ?_
    simp only [Act.put, List.setIfInBounds_toArray, List.set_cons_zero, List.set_cons_succ]
    refine wpAny_all (rs := [8]) (by kernel_rfl) (by decide) (fun i hi => ?_)
    obtain rfl : i = 8 := by simpa using hi
    refine D_value (some 34) rfl rfl rfl (run_load1 rfl rfl Try.isAgg30 e2x) ?_
    simp only [Act.put, List.setIfInBounds_toArray, List.set_cons_zero, List.set_cons_succ]
    refine wpAny_all (rs := [9]) (by kernel_rfl) (by decide) (fun i hi => ?_)
    obtain rfl : i = 9 := by simpa using hi
    refine D_append8 (some 35) rfl rfl rfl (.tmp 30) (.tmp 34) rfl x1.heap.size (.slice none 0 0) [] rfl (Own.nil _ _) av cv s.held (by rw [← HLN.out]; rfl) I1.out (by simp only [List.length_nil]; omega) (Nat.le_refl _) (fun v2 w2 own2 gr2 => ?_)
    rw [List.nil_append] at own2
    obtain ⟨a2, cc2, hs2, _⟩ := own2.shape
    rw [← HLN.out] at hs2
    subst hs2
    have OWN2 := hide own2
    have BE2 : Hid (Below x1.heap.size x1 w2) := below_ofN gr2
    have X2 : Hid (RBox w2 nb s.most s.stand (.slice none 0 0) n cr ed) := (BE2.out.block nb hltn2).trans X1x.out
    obtain ⟨_, _, q2, _, _, _⟩ := X2.out.cell
    have qf := X2.out.free 2
    have hlt2 := X2.out.lt
    clear own2 gr2
    simp only [Act.put, List.setIfInBounds_toArray, List.set_cons_zero, List.set_cons_succ]
    refine A_take (i := 10) (v := .pointer (some ⟨nb, 0, none⟩)) (some 36) rfl rfl (by kernel_rfl) (by kernel_rfl) (by kernel_rfl) (fun _ _ _ h => h) (.inl ⟨rfl, fun w => ?_⟩) ?_
    · simp [go_sem]
    simp only [Act.put, List.setIfInBounds_toArray, List.set_cons_zero, List.set_cons_succ]
    refine A_take (i := 11) (v := .pointer (some ⟨nb, 2, none⟩)) (some 37) rfl rfl (by kernel_rfl) (by kernel_rfl) (by kernel_rfl) (fun _ _ _ h => h) (.inl ⟨rfl, fun w => ?_⟩) ?_
    · simp [go_sem]
    simp only [Act.put, List.setIfInBounds_toArray, List.set_cons_zero, List.set_cons_succ]
    refine wpAny_all (rs := [12]) (by kernel_rfl) (by decide) (fun i hi => ?_)
    obtain rfl : i = 12 := by simpa using hi
    refine D_skip (w' := w2.setCell ⟨nb, 2, none⟩ (.slice a2 ln cc2)) rfl rfl rfl (by simp [go_sem, q2, qf]) ?_
    refine wpAny_done (by kernel_rfl) ?_ _
    go_wp2_with fail
    go_ret
    exact FIN2.out a2 cc2 w2 OWN2.out BE2.out X2.out
  · refine D_value (some 34) rfl rfl rfl (run_load1 rfl rfl Try.isAgg30 e2x) ?_
    simp only [Act.put, List.setIfInBounds_toArray, List.set_cons_zero, List.set_cons_succ]
    refine wpAny_all (rs := [4]) (by kernel_rfl) (by decide) (fun i hi => ?_)
    obtain rfl : i = 4 := by simpa using hi
    refine D_value (some 30) rfl rfl rfl (run_load1 rfl rfl Try.isAgg30 d2x) ?_
    simp only [Act.put, List.setIfInBounds_toArray, List.set_cons_zero, List.set_cons_succ]
    refine wpAny_all (rs := [9]) (by kernel_rfl) (by decide) (fun i hi => ?_)
    obtain rfl : i = 9 := by simpa using hi
    refine D_append8 (some 35) rfl rfl rfl (.tmp 30) (.tmp 34) rfl x1.heap.size (.slice none 0 0) [] rfl (Own.nil _ _) av cv s.held (by rw [← HLN.out]; rfl) I1.out (by simp only [List.length_nil]; omega) (Nat.le_refl _) (fun v2 w2 own2 gr2 => ?_)
    rw [List.nil_append] at own2
    obtain ⟨a2, cc2, hs2, _⟩ := own2.shape
    rw [← HLN.out] at hs2
    subst hs2
    have OWN2 := hide own2
    have BE2 : Hid (Below x1.heap.size x1 w2) := below_ofN gr2
    have X2 : Hid (RBox w2 nb s.most s.stand (.slice none 0 0) n cr ed) := (BE2.out.block nb hltn2).trans X1x.out
    obtain ⟨_, _, q2, _, _, _⟩ := X2.out.cell
    have qf := X2.out.free 2
    have hlt2 := X2.out.lt
    clear own2 gr2
    simp only [Act.put, List.setIfInBounds_toArray, List.set_cons_zero, List.set_cons_succ]
    refine A_take (i := 10) (v := .pointer (some ⟨nb, 0, none⟩)) (some 36) rfl rfl (by kernel_rfl) (by kernel_rfl) (by kernel_rfl) (fun _ _ _ h => h) (.inl ⟨rfl, fun w => ?_⟩) ?_
    · simp [go_sem]
    simp only [Act.put, List.setIfInBounds_toArray, List.set_cons_zero, List.set_cons_succ]
    refine A_take (i := 11) (v := .pointer (some ⟨nb, 2, none⟩)) (some 37) rfl rfl (by kernel_rfl) (by kernel_rfl) (by kernel_rfl) (fun _ _ _ h => h) (.inl ⟨rfl, fun w => ?_⟩) ?_
    · simp [go_sem]
    simp only [Act.put, List.setIfInBounds_toArray, List.set_cons_zero, List.set_cons_succ]
    refine wpAny_all (rs := [12]) (by kernel_rfl) (by decide) (fun i hi => ?_)
    obtain rfl : i = 12 := by simpa using hi
    refine D_skip (w' := w2.setCell ⟨nb, 2, none⟩ (.slice a2 ln cc2)) rfl rfl rfl (by simp [go_sem, q2, qf]) ?_
    refine wpAny_done (by kernel_rfl) ?_ _
    go_wp2_with fail
    go_ret
    exact FIN2.out a2 cc2 w2 OWN2.out BE2.out X2.out
end Go.Proofs.Ytcgpfhkndbggiaa
