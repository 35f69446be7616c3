/-
  The walk of 'swap'.
-/
import Derived.Test.YtonfdmbcbfpgdaaAmX
namespace Go.Proofs.Ytonfdmbcbfpgdaa
open Go.RowKit

set_option maxHeartbeats 40000000 in
set_option maxRecDepth 1000000 in
theorem swapM (w : World) (hb mb : Nat) (v : Value) (f : FuncId) (rk : Int) (last : Int) (R : List (Int × Mk)) (i j : Nat) (ri rj : Int × Mk) (h : HeapAtM w hb v mb f rk last R) (hi : R[i]? = some ri) (hj : R[j]? = some rj) (hR : R.length ≤ 1073741824) :
    Calls Try.prog 76 #[.pointer (some ⟨hb, 0, none⟩), .int .i64 (i : Int), .int .i64 (j : Int)] w fun e w' => e = .returned (.tuple #[]) ∧ HeapAtM w' hb v mb f rk last (swapL R i j) ∧ Kept (Mine hb v mb) w w' := by
  obtain ⟨rb, cap, cur, rfl, hg, r1, r2, r3, r4⟩ := h.shape hi
  obtain ⟨box, row, ⟨g, ht, hs⟩, fit⟩ := h
  have hil := (List.getElem?_eq_some_iff.1 hi).1
  have hjl := (List.getElem?_eq_some_iff.1 hj).1
  have ci := row_cellM hg r4 hi
  have cj := row_cellM hg r4 hj
  have hhr : hb ≠ rb := fun e => by subst e; rw [box] at hg; simp at hg
  obtain ⟨es, clock, hmap⟩ := ht.map
  have hmr : mb ≠ rb := fun e => by subst e; rw [hmap] at hg; simp at hg
  have hmh : mb ≠ hb := fun e => by subst e; rw [hmap] at box; simp at box
  have h1 : w.cell? ⟨hb, 1, none⟩ = some (.slice (some ⟨rb, 0, none⟩) R.length cap) := by simp [World.cell?, box]
  have h2 : w.cell? ⟨hb, 2, none⟩ = some (.map (some mb)) := by simp [World.cell?, box]
  have fz : ∀ k, w.frozen? ⟨rb, k, none⟩ = false := fun k => by simp [World.frozen?, hg]
  have hlen := swapL_some hi hj
  obtain ⟨⟨cur1, p1, p2, p3⟩, p4⟩ := putM_row hg r1 r3 r4 hil rj
  obtain ⟨⟨cur2, q1, q2, q3⟩, q4⟩ := putM_row (R := R.set i rj) p1 (by simpa using r1) p2 (by simpa using p3) (i := j) (by simpa using hjl) ri
  rw [List.length_set] at q3
  have hgr : w.grownBy (putM (putM w rb i rj) rb j ri) (some rb) := grown_trans p4 q4
  obtain ⟨wp, hwp⟩ : ∃ wp, wp = putM (putM w rb i rj) rb j ri := ⟨_, rfl⟩
  rw [← hwp] at q1 hgr
  clear p1 p2 p3 p4 q4
  have hfi := fit ri (List.mem_of_getElem? hi)
  have hfj := fit rj (List.mem_of_getElem? hj)
  have d1 : wp.cell? ⟨hb, 1, none⟩ = some (.slice (some ⟨rb, 0, none⟩) R.length cap) := (World.cell?_of_block (hgr.block hb (cell_lt h1) (fun e => hhr (Option.some.inj e)))).trans h1
  have d2 : wp.cell? ⟨hb, 2, none⟩ = some (.map (some mb)) := (World.cell?_of_block (hgr.block hb (cell_lt h1) (fun e => hhr (Option.some.inj e)))).trans h2
  have htk : Tab wp mb R.length g := ht.block (hgr.block mb ht.lt (fun e => hmr (Option.some.inj e)))
  have box2 : wp.heap[hb]? = w.heap[hb]? := hgr.block hb (cell_lt h1) (fun e => hhr (Option.some.inj e))
  have gj := hs.has hj
  have gi := hs.has hi
  have HS : Hid (Sits (putAt (putAt g rj.1 i) ri.1 j) (swapL R i j)) := hs.swap hi hj
  have g2 : (putAt g rj.1 i ri.1).isSome = true := by unfold putAt; split <;> simp [gi]
  have hgj : (swapL R i j)[j]? = some ri := by rw [swapL_get hi hj, if_pos rfl]
  have hgi : (swapL R i j)[i]? = some rj := by
    rw [swapL_get hi hj]
    by_cases e : i = j
    · rw [if_pos e]; subst e; rw [hi] at hj; exact hj
    · rw [if_neg e, if_pos rfl]
  have hq3 : cur2.toList.take ((swapL R i j).length * 5) = flatM (swapL R i j) := by rw [swapL_length, hlen]; exact q3
  have c0i := row_cellM q1 hq3 hgi 0 (.int .i64 rj.1) rfl
  have c0j := row_cellM q1 hq3 hgj 0 (.int .i64 ri.1) rfl
  rw [Nat.add_zero] at c0i c0j
  have ROW : Hid (wp.ownsRow 0 105 5 (.slice (some ⟨rb, 0, none⟩) R.length cap) R.length (flatM (swapL R i j))) :=
    ⟨by rw [flatM_length, swapL_length], .inr ⟨rb, cap, cur2, rfl, Nat.zero_le _, q1, r1, r2, q2, by rw [hlen]; exact q3⟩⟩
  have FIT : Hid (∀ r ∈ swapL R i j, (Lit.int .i64 r.1).wf = true) := fun r hr => fit r (mem_swapL hr)
  have BOX : Hid (w.heap[hb]? = some (.cells #[.func (.func f) #[.int .i64 rk] #[], .slice (some ⟨rb, 0, none⟩) R.length cap, .map (some mb), .int .i64 last] 102 (0, 0))) := box
  have ci0 := ci 0 _ rfl
  have cj0 := cj 0 _ rfl
  have ci1 := ci 1 _ rfl
  have cj1 := cj 1 _ rfl
  have ci2 := ci 2 _ rfl
  have cj2 := cj 2 _ rfl
  have ci3 := ci 3 _ rfl
  have cj3 := cj 3 _ rfl
  have ci4 := ci 4 _ rfl
  have cj4 := cj 4 _ rfl
  have fi0 := fz (i * 5)
  have fj0 := fz (j * 5)
  have fi1 := fz (i * 5 + 1)
  have fj1 := fz (j * 5 + 1)
  have fi2 := fz (i * 5 + 2)
  have fj2 := fz (j * 5 + 2)
  have fi3 := fz (i * 5 + 3)
  have fj3 := fz (j * 5 + 3)
  have fi4 := fz (i * 5 + 4)
  have fj4 := fz (j * 5 + 4)
  simp only [Nat.add_zero] at ci0 cj0
  have hiw : (Lit.int .i64 (i : Int)).wf = true := WalkArith.wf_i64 (by omega)
  have hjw : (Lit.int .i64 (j : Int)).wf = true := WalkArith.wf_i64 (by omega)
  obtain ⟨w2, hw2⟩ : ∃ w2, w2 = wp.drew := ⟨_, rfl⟩
  have D1H : Hid (w2.cell? ⟨hb, 1, none⟩ = some (.slice (some ⟨rb, 0, none⟩) R.length cap)) := by rw [hw2]; exact d1
  have D2H : Hid (w2.cell? ⟨hb, 2, none⟩ = some (.map (some mb))) := by rw [hw2]; exact d2
  have CIH : Hid (w2.cell? ⟨rb, i * 5, none⟩ = some (.int .i64 rj.1)) := by rw [hw2]; exact c0i
  have CJH : Hid (w2.cell? ⟨rb, j * 5, none⟩ = some (.int .i64 ri.1)) := by rw [hw2]; exact c0j
  have HT : Hid (Tab w2 mb R.length g) := by rw [hw2]; exact htk
  have ROW2 : Hid (w2.ownsRow 0 105 5 (.slice (some ⟨rb, 0, none⟩) R.length cap) R.length (flatM (swapL R i j))) := by rw [hw2]; exact ROW.out
  have BOX2 : Hid (w2.heap[hb]? = w.heap[hb]?) := by rw [hw2]; exact box2
  have K2 : Hid (Kept (Mine hb (.slice (some ⟨rb, 0, none⟩) R.length cap) mb) w w2) := by rw [hw2]; exact (Kept.ofGrown hgr (fun k e => .inr (.inl e))).trans ⟨rfl, rfl, rfl, Nat.le_refl _, fun _ _ _ => rfl⟩
  have HW : Hid (w2 = (putM (putM w rb i rj) rb j ri).drew) := by rw [← hwp]; exact hw2
  obtain ⟨n, hn⟩ : ∃ n, n = R.length := ⟨_, rfl⟩
  have HN : Hid (n = R.length) := hn
  rw [← hn] at h1 D1H HT hil hjl ROW2
  have hnm : n < maxLen := by unfold maxLen; omega
  have HFW : Hid ((Lit.int .i64 ri.1).wf = true ∧ (Lit.int .i64 rj.1).wf = true ∧ (Lit.int .i64 (i : Int)).wf = true ∧ (Lit.int .i64 (j : Int)).wf = true ∧ n < maxLen) := ⟨hfi, hfj, hiw, hjw, hnm⟩
  have HRE : Hid (i = j → ri = rj) := fun e => by subst e; rw [hi] at hj; exact Option.some.inj hj
  have GG : Hid ((g rj.1).isSome = true ∧ (putAt g rj.1 i ri.1).isSome = true) := ⟨gj, g2⟩
  have BX : Hid (hb ≠ rb ∧ mb ≠ rb ∧ mb ≠ hb) := ⟨hhr, hmr, hmh⟩
  clear d1 d2 htk box2 c0i c0j ROW box row ht hs fit ci cj fz hlen hg r3 r4 q1 q2 q3 hgr gj gi g2 hmap hi hj hn hw2 hgj hgi hq3 hwp hfi hfj hiw hjw hnm h2 hhr hmr hmh r1 r2
  by_cases hij : i = j
  · obtain rfl := HRE.out hij
    subst hij
    obtain ⟨i1, i2⟩ := ri
    clear cj0 cj1 fj0 fj1 cj2 fj2 cj3 fj3 cj4 fj4
    go_enter Try.func76, Try.ntmps76
    go_wp2_with fail
    go_region
    have D1 := D1H.out
    have D2 := D2H.out
    have CI := CIH.out
    have CJ := CJH.out
    have hw2 := HW.out
    unfold putM at hw2
    rw [← hw2]
    clear hw2 ci0  ci1 fi0 fi1 ci2 fi2 ci3 fi3 ci4 fi4
    go_wp2_with fail
    refine wp_tail 13 mixed (by kernel_rfl) ?_
    simp only [List.take_succ_cons, List.take_zero, List.drop_succ_cons, List.drop_zero]
    repeat still_step
    refine wpStill_nil ?_
    refine wpList_put rfl (.tmp 35) (.tmp 43) (.tmp 44) rfl mb n g _ _ rfl rfl rfl HT.out HFW.out.2.2.2.2 HFW.out.2.1 HFW.out.2.2.1 ?_
    intro w3 ht3 hg3
    rw [if_pos GG.out.1] at ht3
    have E1 : w3.cell? ⟨hb, 1, none⟩ = some (.slice (some ⟨rb, 0, none⟩) n cap) := (World.cell?_of_block (hg3.block hb (cell_lt D1) (fun e => BX.out.2.2 (Option.some.inj e).symm))).trans D1
    have E2 : w3.cell? ⟨hb, 2, none⟩ = some (.map (some mb)) := (World.cell?_of_block (hg3.block hb (cell_lt D2) (fun e => BX.out.2.2 (Option.some.inj e).symm))).trans D2
    have EJ : w3.cell? ⟨rb, i * 5, none⟩ = some (.int .i64 i1) := (World.cell?_of_block (hg3.block rb (cell_lt CJ) (fun e => BX.out.2.1 (Option.some.inj e).symm))).trans CJ
    have HT3 : Hid (Tab w3 mb n (putAt g i1 i)) := ht3
    have HG3 : Hid (w2.grownBy w3 (some mb)) := grown_of_drew hg3
    clear ht3 hg3
    go_wp2_with fail
    refine wp_tail 13 mixed (by kernel_rfl) ?_
    simp only [List.take_succ_cons, List.take_zero, List.drop_succ_cons, List.drop_zero]
    repeat still_step
    refine wpStill_nil ?_
    refine wpList_put rfl (.tmp 48) (.tmp 56) (.tmp 57) rfl mb n (putAt g i1 i) _ _ rfl rfl rfl HT3.out HFW.out.2.2.2.2 HFW.out.1 HFW.out.2.2.2.1 ?_
    intro w4 ht4 hg4
    rw [if_pos GG.out.2] at ht4
    have HT4 : Hid (Tab w4 mb n (putAt (putAt g i1 i) i1 i)) := ht4
    have HG4 : Hid (w2.grownBy w4 (some mb)) := grown_trans HG3.out (grown_of_drew hg4)
    clear ht4 hg4
    go_wp2_with fail
    go_end0
    have hn := HN.out
    have hb2 : hb < w2.heap.size := cell_lt D1
    have hr2 : rb < w2.heap.size := cell_lt CJ
    refine ⟨rfl, ⟨?_, ?_, ⟨_, by rw [swapL_length, ← hn]; exact HT4.out, HS.out⟩, FIT.out⟩, K2.out.trans (Kept.ofGrown HG4.out (fun k e => .inr (.inr (Option.some.inj e).symm)))⟩
    · rw [HG4.out.block hb hb2 (fun e => BX.out.2.2 (Option.some.inj e).symm), BOX2.out]; exact BOX.out
    · rw [swapL_length, ← hn]; exact ROW2.out.kept HG4.out (.inr (fun e => BX.out.2.1 (Option.some.inj e).symm))
  · obtain ⟨i1, i2⟩ := ri
    obtain ⟨j1, j2⟩ := rj
    go_enter Try.func76, Try.ntmps76
    go_wp2_with fail
    go_region
    have D1 := D1H.out
    have D2 := D2H.out
    have CI := CIH.out
    have CJ := CJH.out
    have hw2 := HW.out
    unfold putM at hw2
    rw [← hw2]
    clear hw2 ci0 cj0 cj1 fj0 fj1 ci1 fi0 fi1 ci2 cj2 fi2 fj2 ci3 cj3 fi3 fj3 ci4 cj4 fi4 fj4
    go_wp2_with fail
    refine wp_tail 13 mixed (by kernel_rfl) ?_
    simp only [List.take_succ_cons, List.take_zero, List.drop_succ_cons, List.drop_zero]
    repeat still_step
    refine wpStill_nil ?_
    refine wpList_put rfl (.tmp 35) (.tmp 43) (.tmp 44) rfl mb n g _ _ rfl rfl rfl HT.out HFW.out.2.2.2.2 HFW.out.2.1 HFW.out.2.2.1 ?_
    intro w3 ht3 hg3
    rw [if_pos GG.out.1] at ht3
    have E1 : w3.cell? ⟨hb, 1, none⟩ = some (.slice (some ⟨rb, 0, none⟩) n cap) := (World.cell?_of_block (hg3.block hb (cell_lt D1) (fun e => BX.out.2.2 (Option.some.inj e).symm))).trans D1
    have E2 : w3.cell? ⟨hb, 2, none⟩ = some (.map (some mb)) := (World.cell?_of_block (hg3.block hb (cell_lt D2) (fun e => BX.out.2.2 (Option.some.inj e).symm))).trans D2
    have EJ : w3.cell? ⟨rb, j * 5, none⟩ = some (.int .i64 i1) := (World.cell?_of_block (hg3.block rb (cell_lt CJ) (fun e => BX.out.2.1 (Option.some.inj e).symm))).trans CJ
    have HT3 : Hid (Tab w3 mb n (putAt g j1 i)) := ht3
    have HG3 : Hid (w2.grownBy w3 (some mb)) := grown_of_drew hg3
    clear ht3 hg3
    go_wp2_with fail
    refine wp_tail 13 mixed (by kernel_rfl) ?_
    simp only [List.take_succ_cons, List.take_zero, List.drop_succ_cons, List.drop_zero]
    repeat still_step
    refine wpStill_nil ?_
    refine wpList_put rfl (.tmp 48) (.tmp 56) (.tmp 57) rfl mb n (putAt g j1 i) _ _ rfl rfl rfl HT3.out HFW.out.2.2.2.2 HFW.out.1 HFW.out.2.2.2.1 ?_
    intro w4 ht4 hg4
    rw [if_pos GG.out.2] at ht4
    have HT4 : Hid (Tab w4 mb n (putAt (putAt g j1 i) i1 j)) := ht4
    have HG4 : Hid (w2.grownBy w4 (some mb)) := grown_trans HG3.out (grown_of_drew hg4)
    clear ht4 hg4
    go_wp2_with fail
    go_end0
    have hn := HN.out
    have hb2 : hb < w2.heap.size := cell_lt D1
    have hr2 : rb < w2.heap.size := cell_lt CJ
    refine ⟨rfl, ⟨?_, ?_, ⟨_, by rw [swapL_length, ← hn]; exact HT4.out, HS.out⟩, FIT.out⟩, K2.out.trans (Kept.ofGrown HG4.out (fun k e => .inr (.inr (Option.some.inj e).symm)))⟩
    · rw [HG4.out.block hb hb2 (fun e => BX.out.2.2 (Option.some.inj e).symm), BOX2.out]; exact BOX.out
    · rw [swapL_length, ← hn]; exact ROW2.out.kept HG4.out (.inr (fun e => BX.out.2.1 (Option.some.inj e).symm))
end Go.Proofs.Ytonfdmbcbfpgdaa
