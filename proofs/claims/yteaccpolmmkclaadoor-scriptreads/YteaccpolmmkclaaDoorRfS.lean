/-
  RefStepB, RefStepC.
-/
import Derived.Test.YteaccpolmmkclaaDoorRfB
namespace Go.Proofs.YteaccpolmmkclaaDoor
open Go.RowKit Go.Lib

theorem strs_box {w X : World} {b o c : Nat} {ss : List ByteArray} (hs : IsStrs X (some ⟨b, o, none⟩) c ss) (i : Nat) (v : Value) (hb : b < w.heap.size) : IsStrs (X.setCell ⟨w.heap.size + 1, i, none⟩ v) (some ⟨b, o, none⟩) c ss := by
  obtain ⟨h1, h2, h3⟩ := hs
  refine ⟨h1, h2, ?_⟩
  rcases h3 with h3 | ⟨b', o', e, hb', hc⟩
  · exact .inl h3
  · cases e
    have ks : Kept (fun j => j = w.heap.size + 1) X (X.setCell ⟨w.heap.size + 1, i, none⟩ v) := Kept.setCell _ _ _ _ _ rfl
    exact .inr ⟨b, o, rfl, by have := ks.size; omega, fun j x hj => ks.cell (by omega) (hc j x hj)⟩
set_option maxHeartbeats 4000000 in
set_option maxRecDepth 1000000 in
theorem refStep6 (a : Option Addr) (c : Nat) (ss : List ByteArray) (w : World) (h : IsStrs w a c ss) (hl : ss.length ≤ 1048577) (hz : ∀ x ∈ ss, x.size ≤ 1048576) :
    Calls Tryd.prog 18 #[.int .i64 6, .slice a ss.length c] w (StepRP 6 (tls ss) w) := by
  have S0 := hide (sq_start w #[.int .i64 6, .int .i64 0, .slice none 0 0, .int .i64 0, .slice none 0 0])
  generalize hw2 : (w.alloc (.cells #[.int .i64 0, .int .i64 0, .slice none 0 0, .int .i64 0, .slice none 0 0] 40)).alloc (.cells #[.int .i64 6, .int .i64 0, .slice none 0 0, .int .i64 0, .slice none 0 0] 40) = w2 at S0
  have HW := hide hw2
  clear hw2
  have CK := hide (refKeep_any a c ss w2 (h.below S0.out.low) hl hz)
  obtain ⟨m, hm⟩ : ∃ m, ss.length = m := ⟨_, rfl⟩
  rw [hm] at CK ⊢
  have HT : Hid (stepK 6 (tls ss) = (keepP (tls ss)).map fun ks => (⟨6, 0, [], 0, ks⟩ : StepP)) := by
    show ((keepP (tls ss)).map fun k => ((0 : Int), k)).map (fun t => (⟨6, 0, [], t.1, t.2⟩ : StepP)) = _
    rw [Option.map_map]
    rfl
  clear h hl hz hm
  go_enter Tryd.func18, Tryd.ntmps18
  go_upto_region 2 with fail
  rw [HW.out]
  go_wp2_with fail
  refine CK.out.mono ?_
  rintro e w3 ⟨b3, h3⟩
  have S3 := hide (S0.out.later b3)
  obtain ⟨z4, zf4⟩ := S3.out.cell 4
  simp only [List.getElem?_toArray, List.getElem?_cons_zero, List.getElem?_cons_succ] at z4
  rcases h3 with ⟨ks, ka, kc, ht, rfl, ho⟩ | ⟨ht, rfl⟩
  · have HK : Hid (stepK 6 (tls ss) = some ⟨6, 0, [], 0, ks⟩) := by show _ = _; rw [HT.out, ht]; rfl
    have HO := hide (ho.mono S0.out.low.size)
    have S4 := hide (S3.out.set 4 (.slice ka ks.length kc) (cs' := #[.int .i64 6, .int .i64 0, .slice none 0 0, .int .i64 0, .slice ka ks.length kc]) rfl)
    clear ht ho b3
    go_wp2_with (first
      | (refine wpList_load_row rfl 40 (.tmp 6) rfl (w.heap.size + 1) rfl 40 _ (0, 0) _ S4.out.box Tryd.underlying40 rfl step_size ?_)
      | (refine wpList_store_row rfl 40 (.tmp 4) (.tmp 81) rfl w.heap.size #[.int .i64 6, .int .i64 0, .slice none 0 0, .int .i64 0, .slice ka ks.length kc] rfl rfl 40 _ S4.out.ret step_size rfl step_one ?_))
    have hrow : ((w3.setCell ⟨w.heap.size + 1, 4, none⟩ (.slice ka ks.length kc)).setRow w.heap.size #[.int .i64 6, .int .i64 0, .slice none 0 0, .int .i64 0, .slice ka ks.length kc]).heap[w.heap.size]? = some (.cells #[.int .i64 6, .int .i64 0, .slice none 0 0, .int .i64 0, .slice ka ks.length kc] 40 (0, 0)) := setRow_heap _ _ _ _ _ _ S4.out.ret
    refine bodyPost_ret (results_cell_tmp_row (P := Tryd.prog) Tryd.results18 _ _ w.heap.size 40 _ (0, 0) _ _ rfl rfl hrow Tryd.underlying40 rfl step_size) rfl ?_
    exact ⟨below_setRow S4.out.low (Nat.le_refl _) _, 0, 0, none, 0, 0, ka, ks.length, kc, true, rfl, .inl ⟨rfl, _, HK.out, rfl, rfl, rfl, rfl, rfl, S4.out.own3 (by decide) (Own.nil _ _) _, S4.out.own3 (by decide) (S3.out.own (by decide) HO.out 4 _) _⟩⟩
  · have HK : Hid (stepK 6 (tls ss) = none) := by show _ = _; rw [HT.out, ht]; rfl
    have S4 := hide (S3.out.set 4 (.slice none 0 0) (cs' := #[.int .i64 6, .int .i64 0, .slice none 0 0, .int .i64 0, .slice none 0 0]) rfl)
    clear ht b3
    go_wp2_with (first
      | (refine wpList_load_row rfl 40 (.tmp 6) rfl (w.heap.size + 1) rfl 40 _ (0, 0) _ S4.out.box Tryd.underlying40 rfl step_size ?_)
      | (refine wpList_store_row rfl 40 (.tmp 4) (.tmp 81) rfl w.heap.size #[.int .i64 6, .int .i64 0, .slice none 0 0, .int .i64 0, .slice none 0 0] rfl rfl 40 _ S4.out.ret step_size rfl step_one ?_))
    have hrow : ((w3.setCell ⟨w.heap.size + 1, 4, none⟩ (.slice none 0 0)).setRow w.heap.size #[.int .i64 6, .int .i64 0, .slice none 0 0, .int .i64 0, .slice none 0 0]).heap[w.heap.size]? = some (.cells #[.int .i64 6, .int .i64 0, .slice none 0 0, .int .i64 0, .slice none 0 0] 40 (0, 0)) := setRow_heap _ _ _ _ _ _ S4.out.ret
    refine bodyPost_ret (results_cell_tmp_row (P := Tryd.prog) Tryd.results18 _ _ w.heap.size 40 _ (0, 0) _ _ rfl rfl hrow Tryd.underlying40 rfl step_size) rfl ?_
    exact ⟨below_setRow S4.out.low (Nat.le_refl _) _, 0, 0, none, 0, 0, none, 0, 0, false, rfl, .inr ⟨rfl, HK.out⟩⟩
set_option maxHeartbeats 4000000 in
set_option maxRecDepth 1000000 in
theorem refStep1 (a : Option Addr) (c : Nat) (ss : List ByteArray) (w : World) (h : IsStrs w a c ss) (hl : ss.length ≤ 1048577) (hz : ∀ x ∈ ss, x.size ≤ 1048576) :
    Calls Tryd.prog 18 #[.int .i64 1, .slice a ss.length c] w (StepRP 1 (tls ss) w) := by
  have S0 := hide (sq_start w #[.int .i64 1, .int .i64 0, .slice none 0 0, .int .i64 0, .slice none 0 0])
  generalize hw2 : (w.alloc (.cells #[.int .i64 0, .int .i64 0, .slice none 0 0, .int .i64 0, .slice none 0 0] 40)).alloc (.cells #[.int .i64 1, .int .i64 0, .slice none 0 0, .int .i64 0, .slice none 0 0] 40) = w2 at S0
  have HW := hide hw2
  clear hw2
  match ss, h, hl, hz with
  | [], h, hl, hz =>
    have HK : Hid (stepK 1 (tls []) = none) := rfl
    clear h hl hz
    go_enter Tryd.func18, Tryd.ntmps18
    go_upto_region 2 with fail
    rw [HW.out]
    go_wp2_with (first
      | (refine wpList_load_row rfl 40 (.tmp 6) rfl (w.heap.size + 1) rfl 40 _ (0, 0) _ S0.out.box Tryd.underlying40 rfl step_size ?_)
      | (refine wpList_store_row rfl 40 (.tmp 4) (.tmp 26) rfl w.heap.size #[.int .i64 1, .int .i64 0, .slice none 0 0, .int .i64 0, .slice none 0 0] rfl rfl 40 _ S0.out.ret step_size rfl step_one ?_))
    have hrow : (w2.setRow w.heap.size #[.int .i64 1, .int .i64 0, .slice none 0 0, .int .i64 0, .slice none 0 0]).heap[w.heap.size]? = some (.cells #[.int .i64 1, .int .i64 0, .slice none 0 0, .int .i64 0, .slice none 0 0] 40 (0, 0)) := setRow_heap _ _ _ _ _ _ S0.out.ret
    refine bodyPost_ret (results_cell_tmp_row (P := Tryd.prog) Tryd.results18 _ _ w.heap.size 40 _ (0, 0) _ _ rfl rfl hrow Tryd.underlying40 rfl step_size) rfl ?_
    exact ⟨below_setRow S0.out.low (Nat.le_refl _) _, 0, 0, none, 0, 0, none, 0, 0, false, rfl, .inr ⟨rfl, HK.out⟩⟩
  | x :: r, h, hl, hz =>
    obtain ⟨b, o, rfl, hb, hc0⟩ := h.at (i := 0) (x := x) rfl
    have c0 : w2.cell? ⟨b, o, none⟩ = some (.string x) := (S0.out.low.cell (p := ⟨b, o, none⟩) hb).trans hc0
    have hxs : x.size ≤ 1048576 := hz x (by simp)
    obtain ⟨n, hn⟩ : ∃ n, parseV x.data.toList maxWord = n := ⟨_, rfl⟩
    obtain ⟨pb, hpb⟩ : ∃ pb, parseB x.data.toList maxWord = pb := ⟨_, rfl⟩
    have CP := hide (refParse_any x maxWord w2 (by unfold maxLen; omega) (by decide) (by decide))
    rw [hn, hpb] at CP
    have hnp : numP (tls (x :: r)) = if pb then some (n, tls r) else none := by
      show (if parseB x.data.toList maxWord then some (parseV x.data.toList maxWord, tls r) else none) = _
      rw [hpb, hn]
    have hcc := h.1
    simp only [List.length_cons] at hcc hl
    have HQ := hide ((h.below S0.out.low).drop 1 (by simp))
    have HZQ : Hid (∀ z ∈ r, z.size ≤ 1048576) := fun z h9 => hz z (by simp [h9])
    have S1 := hide (S0.out.set 1 (.int .i64 n) (cs' := #[.int .i64 1, .int .i64 n, .slice none 0 0, .int .i64 0, .slice none 0 0]) rfl)
    obtain ⟨m, hm⟩ : ∃ m, (x :: r).length = m := ⟨_, rfl⟩
    have hm1 : r.length + 1 = m := by simpa using hm
    rw [hm]
    have g0 : ((m : Int) == 0) = false := by rw [beq_eq_false_iff_ne]; omega
    have g1 : (0 : Int) < (m : Int) := by omega
    have g2 : (1 : Int) ≤ (m : Int) := by omega
    obtain ⟨z1, zf1⟩ := S0.out.cell 1
    simp only [List.getElem?_toArray, List.getElem?_cons_zero, List.getElem?_cons_succ] at z1
    have HT : Hid (stepK 1 (tls (x :: r)) = if pb then (tailP false false (tls r)).map fun t => (⟨1, n, [], t.1, t.2⟩ : StepP) else none) := by
      show ((numP (tls (x :: r))).bind fun p => Option.bind (some ([], p.2)) fun q => (tailP false false q.2).map fun t => (⟨1, p.1, q.1, t.1, t.2⟩ : StepP)) = _
      rw [hnp]
      cases pb <;> rfl
    clear hn hpb hnp h hz hm
    by_cases hr : r = []
    · subst hr
      simp at hm1
      subst hm1
      simp at hcc
      cases pb with
      | true =>
        have HK : Hid (stepK 1 (tls [x]) = some ⟨1, n, [], 0, []⟩) := by show _ = _; rw [HT.out]; rfl
        by_cases hc1 : c = 1
        · subst hc1
          go_enter Tryd.func18, Tryd.ntmps18
          go_upto_region 2 with fail
          rw [HW.out]
          go_wp2_with fail
          refine CP.out.mono ?_
          rintro e w5 ⟨rfl, hw5⟩
          rw [hw5]
          clear hw5 w5
          go_wp2_with (first
            | (refine wpList_load_row rfl 40 (.tmp 6) rfl (w.heap.size + 1) rfl 40 _ (0, 0) _ S1.out.box Tryd.underlying40 rfl step_size ?_)
            | (refine wpList_store_row rfl 40 (.tmp 4) (.tmp 81) rfl w.heap.size #[.int .i64 1, .int .i64 n, .slice none 0 0, .int .i64 0, .slice none 0 0] rfl rfl 40 _ S1.out.ret step_size rfl step_one ?_))
          have hrow : ((w2.setCell ⟨w.heap.size + 1, 1, none⟩ (.int .i64 n)).setRow w.heap.size #[.int .i64 1, .int .i64 n, .slice none 0 0, .int .i64 0, .slice none 0 0]).heap[w.heap.size]? = some (.cells #[.int .i64 1, .int .i64 n, .slice none 0 0, .int .i64 0, .slice none 0 0] 40 (0, 0)) := setRow_heap _ _ _ _ _ _ S1.out.ret
          refine bodyPost_ret (results_cell_tmp_row (P := Tryd.prog) Tryd.results18 _ _ w.heap.size 40 _ (0, 0) _ _ rfl rfl hrow Tryd.underlying40 rfl step_size) rfl ?_
          exact ⟨below_setRow S1.out.low (Nat.le_refl _) _, n, 0, none, 0, 0, none, 0, 0, true, rfl, .inl ⟨rfl, _, HK.out, rfl, rfl, rfl, rfl, rfl, S1.out.own3 (by decide) (Own.nil _ _) _, S1.out.own3 (by decide) (OwnI.nil _ _) _⟩⟩
        · skip
          go_enter Tryd.func18, Tryd.ntmps18
          go_upto_region 2 with fail
          rw [HW.out]
          go_wp2_with fail
          refine CP.out.mono ?_
          rintro e w5 ⟨rfl, hw5⟩
          rw [hw5]
          clear hw5 w5
          go_wp2_with (first
            | (refine wpList_load_row rfl 40 (.tmp 6) rfl (w.heap.size + 1) rfl 40 _ (0, 0) _ S1.out.box Tryd.underlying40 rfl step_size ?_)
            | (refine wpList_store_row rfl 40 (.tmp 4) (.tmp 81) rfl w.heap.size #[.int .i64 1, .int .i64 n, .slice none 0 0, .int .i64 0, .slice none 0 0] rfl rfl 40 _ S1.out.ret step_size rfl step_one ?_))
          have hrow : ((w2.setCell ⟨w.heap.size + 1, 1, none⟩ (.int .i64 n)).setRow w.heap.size #[.int .i64 1, .int .i64 n, .slice none 0 0, .int .i64 0, .slice none 0 0]).heap[w.heap.size]? = some (.cells #[.int .i64 1, .int .i64 n, .slice none 0 0, .int .i64 0, .slice none 0 0] 40 (0, 0)) := setRow_heap _ _ _ _ _ _ S1.out.ret
          refine bodyPost_ret (results_cell_tmp_row (P := Tryd.prog) Tryd.results18 _ _ w.heap.size 40 _ (0, 0) _ _ rfl rfl hrow Tryd.underlying40 rfl step_size) rfl ?_
          exact ⟨below_setRow S1.out.low (Nat.le_refl _) _, n, 0, none, 0, 0, none, 0, 0, true, rfl, .inl ⟨rfl, _, HK.out, rfl, rfl, rfl, rfl, rfl, S1.out.own3 (by decide) (Own.nil _ _) _, S1.out.own3 (by decide) (OwnI.nil _ _) _⟩⟩
      | false =>
        have HK : Hid (stepK 1 (tls [x]) = none) := by show _ = _; rw [HT.out]; rfl
        by_cases hc1 : c = 1
        · subst hc1
          go_enter Tryd.func18, Tryd.ntmps18
          go_upto_region 2 with fail
          rw [HW.out]
          go_wp2_with fail
          refine CP.out.mono ?_
          rintro e w5 ⟨rfl, hw5⟩
          rw [hw5]
          clear hw5 w5
          go_wp2_with (first
            | (refine wpList_load_row rfl 40 (.tmp 6) rfl (w.heap.size + 1) rfl 40 _ (0, 0) _ S1.out.box Tryd.underlying40 rfl step_size ?_)
            | (refine wpList_store_row rfl 40 (.tmp 4) (.tmp 81) rfl w.heap.size #[.int .i64 1, .int .i64 n, .slice none 0 0, .int .i64 0, .slice none 0 0] rfl rfl 40 _ S1.out.ret step_size rfl step_one ?_))
          have hrow : ((w2.setCell ⟨w.heap.size + 1, 1, none⟩ (.int .i64 n)).setRow w.heap.size #[.int .i64 1, .int .i64 n, .slice none 0 0, .int .i64 0, .slice none 0 0]).heap[w.heap.size]? = some (.cells #[.int .i64 1, .int .i64 n, .slice none 0 0, .int .i64 0, .slice none 0 0] 40 (0, 0)) := setRow_heap _ _ _ _ _ _ S1.out.ret
          refine bodyPost_ret (results_cell_tmp_row (P := Tryd.prog) Tryd.results18 _ _ w.heap.size 40 _ (0, 0) _ _ rfl rfl hrow Tryd.underlying40 rfl step_size) rfl ?_
          exact ⟨below_setRow S1.out.low (Nat.le_refl _) _, n, 0, none, 0, 0, none, 0, 0, false, rfl, .inr ⟨rfl, HK.out⟩⟩
        · skip
          go_enter Tryd.func18, Tryd.ntmps18
          go_upto_region 2 with fail
          rw [HW.out]
          go_wp2_with fail
          refine CP.out.mono ?_
          rintro e w5 ⟨rfl, hw5⟩
          rw [hw5]
          clear hw5 w5
          go_wp2_with (first
            | (refine wpList_load_row rfl 40 (.tmp 6) rfl (w.heap.size + 1) rfl 40 _ (0, 0) _ S1.out.box Tryd.underlying40 rfl step_size ?_)
            | (refine wpList_store_row rfl 40 (.tmp 4) (.tmp 81) rfl w.heap.size #[.int .i64 1, .int .i64 n, .slice none 0 0, .int .i64 0, .slice none 0 0] rfl rfl 40 _ S1.out.ret step_size rfl step_one ?_))
          have hrow : ((w2.setCell ⟨w.heap.size + 1, 1, none⟩ (.int .i64 n)).setRow w.heap.size #[.int .i64 1, .int .i64 n, .slice none 0 0, .int .i64 0, .slice none 0 0]).heap[w.heap.size]? = some (.cells #[.int .i64 1, .int .i64 n, .slice none 0 0, .int .i64 0, .slice none 0 0] 40 (0, 0)) := setRow_heap _ _ _ _ _ _ S1.out.ret
          refine bodyPost_ret (results_cell_tmp_row (P := Tryd.prog) Tryd.results18 _ _ w.heap.size 40 _ (0, 0) _ _ rfl rfl hrow Tryd.underlying40 rfl step_size) rfl ?_
          exact ⟨below_setRow S1.out.low (Nat.le_refl _) _, n, 0, none, 0, 0, none, 0, 0, false, rfl, .inr ⟨rfl, HK.out⟩⟩
    · have HK : Hid (stepK 1 (tls (x :: r)) = none) := by
        show _ = _
        rw [HT.out, tail_none (by intro e; exact hr (by simpa [tls] using e))]
        cases pb <;> rfl
      have hrl : 0 < r.length := by
        cases r with
        | nil => exact absurd rfl hr
        | cons _ _ => simp
      have hc1 : ¬ c = 1 := by omega
      have g3 : (((m - 1 : Nat) : Int) == 0) = false := by rw [beq_eq_false_iff_ne]; omega
      have g4 : ¬ (m - 1 = 0) := by omega
      clear hr hrl hcc hl
      cases pb with
      | true =>
        go_enter Tryd.func18, Tryd.ntmps18
        go_upto_region 2 with fail
        rw [HW.out]
        go_wp2_with fail
        refine CP.out.mono ?_
        rintro e w5 ⟨rfl, hw5⟩
        rw [hw5]
        clear hw5 w5
        go_wp2_with (first
          | (refine wpList_load_row rfl 40 (.tmp 6) rfl (w.heap.size + 1) rfl 40 _ (0, 0) _ S1.out.box Tryd.underlying40 rfl step_size ?_)
          | (refine wpList_store_row rfl 40 (.tmp 4) (.tmp 81) rfl w.heap.size #[.int .i64 1, .int .i64 n, .slice none 0 0, .int .i64 0, .slice none 0 0] rfl rfl 40 _ S1.out.ret step_size rfl step_one ?_))
        have hrow : ((w2.setCell ⟨w.heap.size + 1, 1, none⟩ (.int .i64 n)).setRow w.heap.size #[.int .i64 1, .int .i64 n, .slice none 0 0, .int .i64 0, .slice none 0 0]).heap[w.heap.size]? = some (.cells #[.int .i64 1, .int .i64 n, .slice none 0 0, .int .i64 0, .slice none 0 0] 40 (0, 0)) := setRow_heap _ _ _ _ _ _ S1.out.ret
        refine bodyPost_ret (results_cell_tmp_row (P := Tryd.prog) Tryd.results18 _ _ w.heap.size 40 _ (0, 0) _ _ rfl rfl hrow Tryd.underlying40 rfl step_size) rfl ?_
        exact ⟨below_setRow S1.out.low (Nat.le_refl _) _, n, 0, none, 0, 0, none, 0, 0, false, rfl, .inr ⟨rfl, HK.out⟩⟩
      | false =>
        go_enter Tryd.func18, Tryd.ntmps18
        go_upto_region 2 with fail
        rw [HW.out]
        go_wp2_with fail
        refine CP.out.mono ?_
        rintro e w5 ⟨rfl, hw5⟩
        rw [hw5]
        clear hw5 w5
        go_wp2_with (first
          | (refine wpList_load_row rfl 40 (.tmp 6) rfl (w.heap.size + 1) rfl 40 _ (0, 0) _ S1.out.box Tryd.underlying40 rfl step_size ?_)
          | (refine wpList_store_row rfl 40 (.tmp 4) (.tmp 81) rfl w.heap.size #[.int .i64 1, .int .i64 n, .slice none 0 0, .int .i64 0, .slice none 0 0] rfl rfl 40 _ S1.out.ret step_size rfl step_one ?_))
        have hrow : ((w2.setCell ⟨w.heap.size + 1, 1, none⟩ (.int .i64 n)).setRow w.heap.size #[.int .i64 1, .int .i64 n, .slice none 0 0, .int .i64 0, .slice none 0 0]).heap[w.heap.size]? = some (.cells #[.int .i64 1, .int .i64 n, .slice none 0 0, .int .i64 0, .slice none 0 0] 40 (0, 0)) := setRow_heap _ _ _ _ _ _ S1.out.ret
        refine bodyPost_ret (results_cell_tmp_row (P := Tryd.prog) Tryd.results18 _ _ w.heap.size 40 _ (0, 0) _ _ rfl rfl hrow Tryd.underlying40 rfl step_size) rfl ?_
        exact ⟨below_setRow S1.out.low (Nat.le_refl _) _, n, 0, none, 0, 0, none, 0, 0, false, rfl, .inr ⟨rfl, HK.out⟩⟩
set_option maxHeartbeats 4000000 in
set_option maxRecDepth 1000000 in
theorem refStep3 (a : Option Addr) (c : Nat) (ss : List ByteArray) (w : World) (h : IsStrs w a c ss) (hl : ss.length ≤ 1048577) (hz : ∀ x ∈ ss, x.size ≤ 1048576) :
    Calls Tryd.prog 18 #[.int .i64 3, .slice a ss.length c] w (StepRP 3 (tls ss) w) := by
  have S0 := hide (sq_start w #[.int .i64 3, .int .i64 0, .slice none 0 0, .int .i64 0, .slice none 0 0])
  generalize hw2 : (w.alloc (.cells #[.int .i64 0, .int .i64 0, .slice none 0 0, .int .i64 0, .slice none 0 0] 40)).alloc (.cells #[.int .i64 3, .int .i64 0, .slice none 0 0, .int .i64 0, .slice none 0 0] 40) = w2 at S0
  have HW := hide hw2
  clear hw2
  match ss, h, hl, hz with
  | [], h, hl, hz =>
    have HK : Hid (stepK 3 (tls []) = none) := rfl
    clear h hl hz
    go_enter Tryd.func18, Tryd.ntmps18
    go_upto_region 2 with fail
    rw [HW.out]
    go_wp2_with (first
      | (refine wpList_load_row rfl 40 (.tmp 6) rfl (w.heap.size + 1) rfl 40 _ (0, 0) _ S0.out.box Tryd.underlying40 rfl step_size ?_)
      | (refine wpList_store_row rfl 40 (.tmp 4) (.tmp 26) rfl w.heap.size #[.int .i64 3, .int .i64 0, .slice none 0 0, .int .i64 0, .slice none 0 0] rfl rfl 40 _ S0.out.ret step_size rfl step_one ?_))
    have hrow : (w2.setRow w.heap.size #[.int .i64 3, .int .i64 0, .slice none 0 0, .int .i64 0, .slice none 0 0]).heap[w.heap.size]? = some (.cells #[.int .i64 3, .int .i64 0, .slice none 0 0, .int .i64 0, .slice none 0 0] 40 (0, 0)) := setRow_heap _ _ _ _ _ _ S0.out.ret
    refine bodyPost_ret (results_cell_tmp_row (P := Tryd.prog) Tryd.results18 _ _ w.heap.size 40 _ (0, 0) _ _ rfl rfl hrow Tryd.underlying40 rfl step_size) rfl ?_
    exact ⟨below_setRow S0.out.low (Nat.le_refl _) _, 0, 0, none, 0, 0, none, 0, 0, false, rfl, .inr ⟨rfl, HK.out⟩⟩
  | x :: r, h, hl, hz =>
    obtain ⟨b, o, rfl, hb, hc0⟩ := h.at (i := 0) (x := x) rfl
    have c0 : w2.cell? ⟨b, o, none⟩ = some (.string x) := (S0.out.low.cell (p := ⟨b, o, none⟩) hb).trans hc0
    have hxs : x.size ≤ 1048576 := hz x (by simp)
    obtain ⟨n, hn⟩ : ∃ n, parseV x.data.toList maxWord = n := ⟨_, rfl⟩
    obtain ⟨pb, hpb⟩ : ∃ pb, parseB x.data.toList maxWord = pb := ⟨_, rfl⟩
    have CP := hide (refParse_any x maxWord w2 (by unfold maxLen; omega) (by decide) (by decide))
    rw [hn, hpb] at CP
    have hnp : numP (tls (x :: r)) = if pb then some (n, tls r) else none := by
      show (if parseB x.data.toList maxWord then some (parseV x.data.toList maxWord, tls r) else none) = _
      rw [hpb, hn]
    have hcc := h.1
    simp only [List.length_cons] at hcc hl
    have HQ := hide ((h.below S0.out.low).drop 1 (by simp))
    have HZQ : Hid (∀ z ∈ r, z.size ≤ 1048576) := fun z h9 => hz z (by simp [h9])
    have S1 := hide (S0.out.set 1 (.int .i64 n) (cs' := #[.int .i64 3, .int .i64 n, .slice none 0 0, .int .i64 0, .slice none 0 0]) rfl)
    obtain ⟨m, hm⟩ : ∃ m, (x :: r).length = m := ⟨_, rfl⟩
    have hm1 : r.length + 1 = m := by simpa using hm
    rw [hm]
    have g0 : ((m : Int) == 0) = false := by rw [beq_eq_false_iff_ne]; omega
    have g1 : (0 : Int) < (m : Int) := by omega
    have g2 : (1 : Int) ≤ (m : Int) := by omega
    obtain ⟨z1, zf1⟩ := S0.out.cell 1
    simp only [List.getElem?_toArray, List.getElem?_cons_zero, List.getElem?_cons_succ] at z1
    have HT : Hid (stepK 3 (tls (x :: r)) = if pb then (tailP true false (tls r)).map fun t => (⟨3, n, [], t.1, t.2⟩ : StepP) else none) := by
      show ((numP (tls (x :: r))).bind fun p => Option.bind (some ([], p.2)) fun q => (tailP true false q.2).map fun t => (⟨3, p.1, q.1, t.1, t.2⟩ : StepP)) = _
      rw [hnp]
      cases pb <;> rfl
    clear hn hpb hnp h hz hm
    have b1 : Below w2.heap.size w2 w2 := Below.refl _ _
    obtain ⟨z0, zf0⟩ := S1.out.cell 0
    obtain ⟨z1, zf1⟩ := S1.out.cell 1
    obtain ⟨z2, zf2⟩ := S1.out.cell 2
    obtain ⟨z3, zf3⟩ := S1.out.cell 3
    obtain ⟨z4, zf4⟩ := S1.out.cell 4
    simp only [List.getElem?_toArray, List.getElem?_cons_zero, List.getElem?_cons_succ] at z0 z1 z2 z3 z4
    have HQ1 : Hid (IsStrs (w2.setCell ⟨w.heap.size + 1, 1, none⟩ (.int .i64 n)) (some ⟨b, o + 1, none⟩) (c - 1) r) := strs_box HQ.out 1 (.int .i64 n) hb
    by_cases hc1 : c = 1
    · subst hc1
      have hr0 : r = [] := List.eq_nil_of_length_eq_zero (by omega)
      subst hr0
      have CB := hide (refBroken_any 3 n none 0 0 (some ⟨b, o, none⟩) (0) [] (w2.setCell ⟨w.heap.size + 1, 1, none⟩ (.int .i64 n)) IsStrs.nil (by omega) HZQ.out)
      have hqm : ([] : List ByteArray).length = m - 1 := by omega
      rw [hqm] at CB
      clear hl hcc hm1 hqm
      go_enter Tryd.func18, Tryd.ntmps18
      go_upto_region 2 with fail
      rw [HW.out]
      go_wp2_with fail
      refine CP.out.mono ?_
      rintro e w5 ⟨rfl, hw5⟩
      rw [hw5]
      clear hw5 w5
      go_wp2_with fail
      refine CB.out.mono ?_
      rintro e w3 ⟨b3, bk, ak, nk, ck, ok, rfl, h3⟩
      have S3 := hide (S1.out.later b3)
      have S4 := hide (S3.out.row #[.int .i64 3, .int .i64 n, .slice none 0 0, .int .i64 bk, .slice ak nk ck])
      clear z0 z1 z2 z3 z4
      go_upto_region 24 with (refine wpList_store_row rfl 40 (.tmp 6) (.tmp 71) rfl (w.heap.size + 1) #[.int .i64 3, .int .i64 n, .slice none 0 0, .int .i64 bk, .slice ak nk ck] rfl rfl 40 _ S3.out.box step_size rfl step_one ?_)
      have hsz1 : w.heap.size ≤ (w2.setCell ⟨w.heap.size + 1, 1, none⟩ (.int .i64 n)).heap.size := S1.out.low.size
      rcases h3 with ⟨rfl, ks, ht, hk, ho⟩ | ⟨rfl, ht⟩
      · cases pb with
        | true =>
          have HK : Hid (stepK 3 (tls (x :: [])) = some ⟨3, n, [], bk, ks⟩) := by show _ = _; rw [HT.out, ht]; rfl
          have HO := hide (And.intro hk (ho.mono hsz1))
          clear ht hk ho b3 hsz1
          go_wp2_with (first
            | (refine wpList_load_row rfl 40 (.tmp 6) rfl (w.heap.size + 1) rfl 40 _ (0, 0) _ S4.out.box Tryd.underlying40 rfl step_size ?_)
            | (refine wpList_store_row rfl 40 (.tmp 4) (.tmp 81) rfl w.heap.size #[.int .i64 3, .int .i64 n, .slice none 0 0, .int .i64 bk, .slice ak nk ck] rfl rfl 40 _ S4.out.ret step_size rfl step_one ?_))
          have hrow : ((w3.setRow (w.heap.size + 1) #[.int .i64 3, .int .i64 n, .slice none 0 0, .int .i64 bk, .slice ak nk ck]).setRow w.heap.size #[.int .i64 3, .int .i64 n, .slice none 0 0, .int .i64 bk, .slice ak nk ck]).heap[w.heap.size]? = some (.cells #[.int .i64 3, .int .i64 n, .slice none 0 0, .int .i64 bk, .slice ak nk ck] 40 (0, 0)) := setRow_heap _ _ _ _ _ _ S4.out.ret
          refine bodyPost_ret (results_cell_tmp_row (P := Tryd.prog) Tryd.results18 _ _ w.heap.size 40 _ (0, 0) _ _ rfl rfl hrow Tryd.underlying40 rfl step_size) rfl ?_
          exact ⟨below_setRow S4.out.low (Nat.le_refl _) _, n, bk, none, 0, 0, ak, nk, ck, true, rfl, .inl ⟨rfl, _, HK.out, rfl, rfl, rfl, rfl, HO.out.1, S4.out.own3 (by decide) (Own.nil _ _) _, S4.out.own3 (by decide) (S3.out.own2 (by decide) HO.out.2 _) _⟩⟩
        | false =>
          have HK : Hid (stepK 3 (tls (x :: [])) = none) := by show _ = _; rw [HT.out]; rfl
          clear ht hk ho b3 hsz1
          go_wp2_with (first
            | (refine wpList_load_row rfl 40 (.tmp 6) rfl (w.heap.size + 1) rfl 40 _ (0, 0) _ S4.out.box Tryd.underlying40 rfl step_size ?_)
            | (refine wpList_store_row rfl 40 (.tmp 4) (.tmp 81) rfl w.heap.size #[.int .i64 3, .int .i64 n, .slice none 0 0, .int .i64 bk, .slice ak nk ck] rfl rfl 40 _ S4.out.ret step_size rfl step_one ?_))
          have hrow : ((w3.setRow (w.heap.size + 1) #[.int .i64 3, .int .i64 n, .slice none 0 0, .int .i64 bk, .slice ak nk ck]).setRow w.heap.size #[.int .i64 3, .int .i64 n, .slice none 0 0, .int .i64 bk, .slice ak nk ck]).heap[w.heap.size]? = some (.cells #[.int .i64 3, .int .i64 n, .slice none 0 0, .int .i64 bk, .slice ak nk ck] 40 (0, 0)) := setRow_heap _ _ _ _ _ _ S4.out.ret
          refine bodyPost_ret (results_cell_tmp_row (P := Tryd.prog) Tryd.results18 _ _ w.heap.size 40 _ (0, 0) _ _ rfl rfl hrow Tryd.underlying40 rfl step_size) rfl ?_
          exact ⟨below_setRow S4.out.low (Nat.le_refl _) _, n, bk, none, 0, 0, ak, nk, ck, false, rfl, .inr ⟨rfl, HK.out⟩⟩
      · have HK : Hid (stepK 3 (tls (x :: [])) = none) := by
          show _ = _
          rw [HT.out, ht]
          cases pb <;> rfl
        clear ht b3 hsz1
        cases pb with
        | true =>
          go_wp2_with (first
            | (refine wpList_load_row rfl 40 (.tmp 6) rfl (w.heap.size + 1) rfl 40 _ (0, 0) _ S4.out.box Tryd.underlying40 rfl step_size ?_)
            | (refine wpList_store_row rfl 40 (.tmp 4) (.tmp 81) rfl w.heap.size #[.int .i64 3, .int .i64 n, .slice none 0 0, .int .i64 bk, .slice ak nk ck] rfl rfl 40 _ S4.out.ret step_size rfl step_one ?_))
          have hrow : ((w3.setRow (w.heap.size + 1) #[.int .i64 3, .int .i64 n, .slice none 0 0, .int .i64 bk, .slice ak nk ck]).setRow w.heap.size #[.int .i64 3, .int .i64 n, .slice none 0 0, .int .i64 bk, .slice ak nk ck]).heap[w.heap.size]? = some (.cells #[.int .i64 3, .int .i64 n, .slice none 0 0, .int .i64 bk, .slice ak nk ck] 40 (0, 0)) := setRow_heap _ _ _ _ _ _ S4.out.ret
          refine bodyPost_ret (results_cell_tmp_row (P := Tryd.prog) Tryd.results18 _ _ w.heap.size 40 _ (0, 0) _ _ rfl rfl hrow Tryd.underlying40 rfl step_size) rfl ?_
          exact ⟨below_setRow S4.out.low (Nat.le_refl _) _, n, bk, none, 0, 0, ak, nk, ck, false, rfl, .inr ⟨rfl, HK.out⟩⟩
        | false =>
          go_wp2_with (first
            | (refine wpList_load_row rfl 40 (.tmp 6) rfl (w.heap.size + 1) rfl 40 _ (0, 0) _ S4.out.box Tryd.underlying40 rfl step_size ?_)
            | (refine wpList_store_row rfl 40 (.tmp 4) (.tmp 81) rfl w.heap.size #[.int .i64 3, .int .i64 n, .slice none 0 0, .int .i64 bk, .slice ak nk ck] rfl rfl 40 _ S4.out.ret step_size rfl step_one ?_))
          have hrow : ((w3.setRow (w.heap.size + 1) #[.int .i64 3, .int .i64 n, .slice none 0 0, .int .i64 bk, .slice ak nk ck]).setRow w.heap.size #[.int .i64 3, .int .i64 n, .slice none 0 0, .int .i64 bk, .slice ak nk ck]).heap[w.heap.size]? = some (.cells #[.int .i64 3, .int .i64 n, .slice none 0 0, .int .i64 bk, .slice ak nk ck] 40 (0, 0)) := setRow_heap _ _ _ _ _ _ S4.out.ret
          refine bodyPost_ret (results_cell_tmp_row (P := Tryd.prog) Tryd.results18 _ _ w.heap.size 40 _ (0, 0) _ _ rfl rfl hrow Tryd.underlying40 rfl step_size) rfl ?_
          exact ⟨below_setRow S4.out.low (Nat.le_refl _) _, n, bk, none, 0, 0, ak, nk, ck, false, rfl, .inr ⟨rfl, HK.out⟩⟩
    · skip
      have CB := hide (refBroken_any 3 n none 0 0 (some ⟨b, o + 1, none⟩) (c - 1) r (w2.setCell ⟨w.heap.size + 1, 1, none⟩ (.int .i64 n)) HQ1.out (by omega) HZQ.out)
      have hqm : (r : List ByteArray).length = m - 1 := by omega
      rw [hqm] at CB
      clear hl hcc hm1 hqm
      go_enter Tryd.func18, Tryd.ntmps18
      go_upto_region 2 with fail
      rw [HW.out]
      go_wp2_with fail
      refine CP.out.mono ?_
      rintro e w5 ⟨rfl, hw5⟩
      rw [hw5]
      clear hw5 w5
      go_wp2_with fail
      refine CB.out.mono ?_
      rintro e w3 ⟨b3, bk, ak, nk, ck, ok, rfl, h3⟩
      have S3 := hide (S1.out.later b3)
      have S4 := hide (S3.out.row #[.int .i64 3, .int .i64 n, .slice none 0 0, .int .i64 bk, .slice ak nk ck])
      clear z0 z1 z2 z3 z4
      go_upto_region 24 with (refine wpList_store_row rfl 40 (.tmp 6) (.tmp 71) rfl (w.heap.size + 1) #[.int .i64 3, .int .i64 n, .slice none 0 0, .int .i64 bk, .slice ak nk ck] rfl rfl 40 _ S3.out.box step_size rfl step_one ?_)
      have hsz1 : w.heap.size ≤ (w2.setCell ⟨w.heap.size + 1, 1, none⟩ (.int .i64 n)).heap.size := S1.out.low.size
      rcases h3 with ⟨rfl, ks, ht, hk, ho⟩ | ⟨rfl, ht⟩
      · cases pb with
        | true =>
          have HK : Hid (stepK 3 (tls (x :: r)) = some ⟨3, n, [], bk, ks⟩) := by show _ = _; rw [HT.out, ht]; rfl
          have HO := hide (And.intro hk (ho.mono hsz1))
          clear ht hk ho b3 hsz1
          go_wp2_with (first
            | (refine wpList_load_row rfl 40 (.tmp 6) rfl (w.heap.size + 1) rfl 40 _ (0, 0) _ S4.out.box Tryd.underlying40 rfl step_size ?_)
            | (refine wpList_store_row rfl 40 (.tmp 4) (.tmp 81) rfl w.heap.size #[.int .i64 3, .int .i64 n, .slice none 0 0, .int .i64 bk, .slice ak nk ck] rfl rfl 40 _ S4.out.ret step_size rfl step_one ?_))
          have hrow : ((w3.setRow (w.heap.size + 1) #[.int .i64 3, .int .i64 n, .slice none 0 0, .int .i64 bk, .slice ak nk ck]).setRow w.heap.size #[.int .i64 3, .int .i64 n, .slice none 0 0, .int .i64 bk, .slice ak nk ck]).heap[w.heap.size]? = some (.cells #[.int .i64 3, .int .i64 n, .slice none 0 0, .int .i64 bk, .slice ak nk ck] 40 (0, 0)) := setRow_heap _ _ _ _ _ _ S4.out.ret
          refine bodyPost_ret (results_cell_tmp_row (P := Tryd.prog) Tryd.results18 _ _ w.heap.size 40 _ (0, 0) _ _ rfl rfl hrow Tryd.underlying40 rfl step_size) rfl ?_
          exact ⟨below_setRow S4.out.low (Nat.le_refl _) _, n, bk, none, 0, 0, ak, nk, ck, true, rfl, .inl ⟨rfl, _, HK.out, rfl, rfl, rfl, rfl, HO.out.1, S4.out.own3 (by decide) (Own.nil _ _) _, S4.out.own3 (by decide) (S3.out.own2 (by decide) HO.out.2 _) _⟩⟩
        | false =>
          have HK : Hid (stepK 3 (tls (x :: r)) = none) := by show _ = _; rw [HT.out]; rfl
          clear ht hk ho b3 hsz1
          go_wp2_with (first
            | (refine wpList_load_row rfl 40 (.tmp 6) rfl (w.heap.size + 1) rfl 40 _ (0, 0) _ S4.out.box Tryd.underlying40 rfl step_size ?_)
            | (refine wpList_store_row rfl 40 (.tmp 4) (.tmp 81) rfl w.heap.size #[.int .i64 3, .int .i64 n, .slice none 0 0, .int .i64 bk, .slice ak nk ck] rfl rfl 40 _ S4.out.ret step_size rfl step_one ?_))
          have hrow : ((w3.setRow (w.heap.size + 1) #[.int .i64 3, .int .i64 n, .slice none 0 0, .int .i64 bk, .slice ak nk ck]).setRow w.heap.size #[.int .i64 3, .int .i64 n, .slice none 0 0, .int .i64 bk, .slice ak nk ck]).heap[w.heap.size]? = some (.cells #[.int .i64 3, .int .i64 n, .slice none 0 0, .int .i64 bk, .slice ak nk ck] 40 (0, 0)) := setRow_heap _ _ _ _ _ _ S4.out.ret
          refine bodyPost_ret (results_cell_tmp_row (P := Tryd.prog) Tryd.results18 _ _ w.heap.size 40 _ (0, 0) _ _ rfl rfl hrow Tryd.underlying40 rfl step_size) rfl ?_
          exact ⟨below_setRow S4.out.low (Nat.le_refl _) _, n, bk, none, 0, 0, ak, nk, ck, false, rfl, .inr ⟨rfl, HK.out⟩⟩
      · have HK : Hid (stepK 3 (tls (x :: r)) = none) := by
          show _ = _
          rw [HT.out, ht]
          cases pb <;> rfl
        clear ht b3 hsz1
        cases pb with
        | true =>
          go_wp2_with (first
            | (refine wpList_load_row rfl 40 (.tmp 6) rfl (w.heap.size + 1) rfl 40 _ (0, 0) _ S4.out.box Tryd.underlying40 rfl step_size ?_)
            | (refine wpList_store_row rfl 40 (.tmp 4) (.tmp 81) rfl w.heap.size #[.int .i64 3, .int .i64 n, .slice none 0 0, .int .i64 bk, .slice ak nk ck] rfl rfl 40 _ S4.out.ret step_size rfl step_one ?_))
          have hrow : ((w3.setRow (w.heap.size + 1) #[.int .i64 3, .int .i64 n, .slice none 0 0, .int .i64 bk, .slice ak nk ck]).setRow w.heap.size #[.int .i64 3, .int .i64 n, .slice none 0 0, .int .i64 bk, .slice ak nk ck]).heap[w.heap.size]? = some (.cells #[.int .i64 3, .int .i64 n, .slice none 0 0, .int .i64 bk, .slice ak nk ck] 40 (0, 0)) := setRow_heap _ _ _ _ _ _ S4.out.ret
          refine bodyPost_ret (results_cell_tmp_row (P := Tryd.prog) Tryd.results18 _ _ w.heap.size 40 _ (0, 0) _ _ rfl rfl hrow Tryd.underlying40 rfl step_size) rfl ?_
          exact ⟨below_setRow S4.out.low (Nat.le_refl _) _, n, bk, none, 0, 0, ak, nk, ck, false, rfl, .inr ⟨rfl, HK.out⟩⟩
        | false =>
          go_wp2_with (first
            | (refine wpList_load_row rfl 40 (.tmp 6) rfl (w.heap.size + 1) rfl 40 _ (0, 0) _ S4.out.box Tryd.underlying40 rfl step_size ?_)
            | (refine wpList_store_row rfl 40 (.tmp 4) (.tmp 81) rfl w.heap.size #[.int .i64 3, .int .i64 n, .slice none 0 0, .int .i64 bk, .slice ak nk ck] rfl rfl 40 _ S4.out.ret step_size rfl step_one ?_))
          have hrow : ((w3.setRow (w.heap.size + 1) #[.int .i64 3, .int .i64 n, .slice none 0 0, .int .i64 bk, .slice ak nk ck]).setRow w.heap.size #[.int .i64 3, .int .i64 n, .slice none 0 0, .int .i64 bk, .slice ak nk ck]).heap[w.heap.size]? = some (.cells #[.int .i64 3, .int .i64 n, .slice none 0 0, .int .i64 bk, .slice ak nk ck] 40 (0, 0)) := setRow_heap _ _ _ _ _ _ S4.out.ret
          refine bodyPost_ret (results_cell_tmp_row (P := Tryd.prog) Tryd.results18 _ _ w.heap.size 40 _ (0, 0) _ _ rfl rfl hrow Tryd.underlying40 rfl step_size) rfl ?_
          exact ⟨below_setRow S4.out.low (Nat.le_refl _) _, n, bk, none, 0, 0, ak, nk, ck, false, rfl, .inr ⟨rfl, HK.out⟩⟩
end Go.Proofs.YteaccpolmmkclaaDoor

namespace Go.Proofs.YteaccpolmmkclaaDoor
open Go.RowKit Go.Lib

theorem SQ.below (w X : World) (cs : Array Value) (h : SQ w X cs) (i : Nat) (v : Value) : Below w.heap.size w (X.setCell ⟨w.heap.size + 1, i, none⟩ v) :=
  h.low.trans ((Kept.setCell (fun j => j = w.heap.size + 1) X (w.heap.size + 1) i v rfl).below h.low.size (fun j hj e => by omega))
theorem stepK2 (x : Tx) (r : List Tx) (n : Int) (pb : Bool) (hnp : numP (x :: r) = if pb then some (n, r) else none) : stepK 2 (x :: r) = if pb then (match r with | y :: q => (dataP y).bind fun bs => (tailP true false q).map fun t => (⟨2, n, bs, t.1, t.2⟩ : StepP) | [] => none) else none := by
  show ((numP (x :: r)).bind fun p => Option.bind (match p.2 with | x :: r => (dataP x).map fun b => (b, r) | [] => none) fun q => (tailP true false q.2).map fun t => (⟨2, p.1, q.1, t.1, t.2⟩ : StepP)) = _
  rw [hnp]
  cases pb with
  | false => rfl
  | true =>
    cases r with
    | nil => rfl
    | cons y q =>
      show Option.bind ((dataP y).map fun b => (b, q)) _ = (dataP y).bind _
      cases dataP y <;> rfl
set_option maxHeartbeats 4000000 in
set_option maxRecDepth 1000000 in
theorem refStep2 (a : Option Addr) (c : Nat) (ss : List ByteArray) (w : World) (h : IsStrs w a c ss) (hl : ss.length ≤ 1048577) (hz : ∀ x ∈ ss, x.size ≤ 1048576) :
    Calls Tryd.prog 18 #[.int .i64 2, .slice a ss.length c] w (StepRP 2 (tls ss) w) := by
  have S0 := hide (sq_start w #[.int .i64 2, .int .i64 0, .slice none 0 0, .int .i64 0, .slice none 0 0])
  generalize hw2 : (w.alloc (.cells #[.int .i64 0, .int .i64 0, .slice none 0 0, .int .i64 0, .slice none 0 0] 40)).alloc (.cells #[.int .i64 2, .int .i64 0, .slice none 0 0, .int .i64 0, .slice none 0 0] 40) = w2 at S0
  have HW := hide hw2
  clear hw2
  match ss, h, hl, hz with
  | [], h, hl, hz =>
    have HK : Hid (stepK 2 (tls []) = none) := rfl
    clear h hl hz
    go_enter Tryd.func18, Tryd.ntmps18
    go_upto_region 2 with fail
    rw [HW.out]
    go_wp2_with (first
      | (refine wpList_load_row rfl 40 (.tmp 6) rfl (w.heap.size + 1) rfl 40 _ (0, 0) _ S0.out.box Tryd.underlying40 rfl step_size ?_)
      | (refine wpList_store_row rfl 40 (.tmp 4) (.tmp 26) rfl w.heap.size #[.int .i64 2, .int .i64 0, .slice none 0 0, .int .i64 0, .slice none 0 0] rfl rfl 40 _ S0.out.ret step_size rfl step_one ?_))
    have hrow : (w2.setRow w.heap.size #[.int .i64 2, .int .i64 0, .slice none 0 0, .int .i64 0, .slice none 0 0]).heap[w.heap.size]? = some (.cells #[.int .i64 2, .int .i64 0, .slice none 0 0, .int .i64 0, .slice none 0 0] 40 (0, 0)) := setRow_heap _ _ _ _ _ _ S0.out.ret
    refine bodyPost_ret (results_cell_tmp_row (P := Tryd.prog) Tryd.results18 _ _ w.heap.size 40 _ (0, 0) _ _ rfl rfl hrow Tryd.underlying40 rfl step_size) rfl ?_
    exact ⟨below_setRow S0.out.low (Nat.le_refl _) _, 0, 0, none, 0, 0, none, 0, 0, false, rfl, .inr ⟨rfl, HK.out⟩⟩
  | x :: r, h, hl, hz =>
    obtain ⟨b, o, rfl, hb, hc0⟩ := h.at (i := 0) (x := x) rfl
    have c0 : w2.cell? ⟨b, o, none⟩ = some (.string x) := (S0.out.low.cell (p := ⟨b, o, none⟩) hb).trans hc0
    have hxs : x.size ≤ 1048576 := hz x (by simp)
    obtain ⟨n, hn⟩ : ∃ n, parseV x.data.toList maxWord = n := ⟨_, rfl⟩
    obtain ⟨pb, hpb⟩ : ∃ pb, parseB x.data.toList maxWord = pb := ⟨_, rfl⟩
    have CP := hide (refParse_any x maxWord w2 (by unfold maxLen; omega) (by decide) (by decide))
    rw [hn, hpb] at CP
    have hnp : numP (tls (x :: r)) = if pb then some (n, tls r) else none := by
      show (if parseB x.data.toList maxWord then some (parseV x.data.toList maxWord, tls r) else none) = _
      rw [hpb, hn]
    have hcc := h.1
    simp only [List.length_cons] at hcc hl
    have HQ := hide ((h.below S0.out.low).drop 1 (by simp))
    have HZQ : Hid (∀ z ∈ r, z.size ≤ 1048576) := fun z h9 => hz z (by simp [h9])
    have S1 := hide (S0.out.set 1 (.int .i64 n) (cs' := #[.int .i64 2, .int .i64 n, .slice none 0 0, .int .i64 0, .slice none 0 0]) rfl)
    obtain ⟨m, hm⟩ : ∃ m, (x :: r).length = m := ⟨_, rfl⟩
    have hm1 : r.length + 1 = m := by simpa using hm
    rw [hm]
    have g0 : ((m : Int) == 0) = false := by rw [beq_eq_false_iff_ne]; omega
    have g1 : (0 : Int) < (m : Int) := by omega
    have g2 : (1 : Int) ≤ (m : Int) := by omega
    obtain ⟨z1, zf1⟩ := S0.out.cell 1
    simp only [List.getElem?_toArray, List.getElem?_cons_zero, List.getElem?_cons_succ] at z1
    have HT : Hid (stepK 2 (tls (x :: r)) = if pb then (match tls r with | y :: q => (dataP y).bind fun bs => (tailP true false q).map fun t => (⟨2, n, bs, t.1, t.2⟩ : StepP) | [] => none) else none) := stepK2 _ _ n pb hnp
    clear hn hpb hnp hz hm
    cases r with
    | nil =>
      have HK : Hid (stepK 2 (tls [x]) = none) := by show _ = _; rw [HT.out]; cases pb <;> rfl
      simp at hm1
      subst hm1
      simp at hcc
      clear h
      by_cases hc1 : c = 1
      · subst hc1
        cases pb with
        | true =>
          go_enter Tryd.func18, Tryd.ntmps18
          go_upto_region 2 with fail
          rw [HW.out]
          go_wp2_with fail
          refine CP.out.mono ?_
          rintro e w5 ⟨rfl, hw5⟩
          rw [hw5]
          clear hw5 w5
          go_wp2_with (first
            | (refine wpList_load_row rfl 40 (.tmp 6) rfl (w.heap.size + 1) rfl 40 _ (0, 0) _ S1.out.box Tryd.underlying40 rfl step_size ?_)
            | (refine wpList_store_row rfl 40 (.tmp 4) (.tmp 42) rfl w.heap.size #[.int .i64 2, .int .i64 n, .slice none 0 0, .int .i64 0, .slice none 0 0] rfl rfl 40 _ S1.out.ret step_size rfl step_one ?_))
          have hrow : ((w2.setCell ⟨w.heap.size + 1, 1, none⟩ (.int .i64 n)).setRow w.heap.size #[.int .i64 2, .int .i64 n, .slice none 0 0, .int .i64 0, .slice none 0 0]).heap[w.heap.size]? = some (.cells #[.int .i64 2, .int .i64 n, .slice none 0 0, .int .i64 0, .slice none 0 0] 40 (0, 0)) := setRow_heap _ _ _ _ _ _ S1.out.ret
          refine bodyPost_ret (results_cell_tmp_row (P := Tryd.prog) Tryd.results18 _ _ w.heap.size 40 _ (0, 0) _ _ rfl rfl hrow Tryd.underlying40 rfl step_size) rfl ?_
          exact ⟨below_setRow S1.out.low (Nat.le_refl _) _, n, 0, none, 0, 0, none, 0, 0, false, rfl, .inr ⟨rfl, HK.out⟩⟩
        | false =>
          go_enter Tryd.func18, Tryd.ntmps18
          go_upto_region 2 with fail
          rw [HW.out]
          go_wp2_with fail
          refine CP.out.mono ?_
          rintro e w5 ⟨rfl, hw5⟩
          rw [hw5]
          clear hw5 w5
          go_wp2_with (first
            | (refine wpList_load_row rfl 40 (.tmp 6) rfl (w.heap.size + 1) rfl 40 _ (0, 0) _ S1.out.box Tryd.underlying40 rfl step_size ?_)
            | (refine wpList_store_row rfl 40 (.tmp 4) (.tmp 42) rfl w.heap.size #[.int .i64 2, .int .i64 n, .slice none 0 0, .int .i64 0, .slice none 0 0] rfl rfl 40 _ S1.out.ret step_size rfl step_one ?_))
          have hrow : ((w2.setCell ⟨w.heap.size + 1, 1, none⟩ (.int .i64 n)).setRow w.heap.size #[.int .i64 2, .int .i64 n, .slice none 0 0, .int .i64 0, .slice none 0 0]).heap[w.heap.size]? = some (.cells #[.int .i64 2, .int .i64 n, .slice none 0 0, .int .i64 0, .slice none 0 0] 40 (0, 0)) := setRow_heap _ _ _ _ _ _ S1.out.ret
          refine bodyPost_ret (results_cell_tmp_row (P := Tryd.prog) Tryd.results18 _ _ w.heap.size 40 _ (0, 0) _ _ rfl rfl hrow Tryd.underlying40 rfl step_size) rfl ?_
          exact ⟨below_setRow S1.out.low (Nat.le_refl _) _, n, 0, none, 0, 0, none, 0, 0, false, rfl, .inr ⟨rfl, HK.out⟩⟩
      · cases pb with
        | true =>
          go_enter Tryd.func18, Tryd.ntmps18
          go_upto_region 2 with fail
          rw [HW.out]
          go_wp2_with fail
          refine CP.out.mono ?_
          rintro e w5 ⟨rfl, hw5⟩
          rw [hw5]
          clear hw5 w5
          go_wp2_with (first
            | (refine wpList_load_row rfl 40 (.tmp 6) rfl (w.heap.size + 1) rfl 40 _ (0, 0) _ S1.out.box Tryd.underlying40 rfl step_size ?_)
            | (refine wpList_store_row rfl 40 (.tmp 4) (.tmp 42) rfl w.heap.size #[.int .i64 2, .int .i64 n, .slice none 0 0, .int .i64 0, .slice none 0 0] rfl rfl 40 _ S1.out.ret step_size rfl step_one ?_))
          have hrow : ((w2.setCell ⟨w.heap.size + 1, 1, none⟩ (.int .i64 n)).setRow w.heap.size #[.int .i64 2, .int .i64 n, .slice none 0 0, .int .i64 0, .slice none 0 0]).heap[w.heap.size]? = some (.cells #[.int .i64 2, .int .i64 n, .slice none 0 0, .int .i64 0, .slice none 0 0] 40 (0, 0)) := setRow_heap _ _ _ _ _ _ S1.out.ret
          refine bodyPost_ret (results_cell_tmp_row (P := Tryd.prog) Tryd.results18 _ _ w.heap.size 40 _ (0, 0) _ _ rfl rfl hrow Tryd.underlying40 rfl step_size) rfl ?_
          exact ⟨below_setRow S1.out.low (Nat.le_refl _) _, n, 0, none, 0, 0, none, 0, 0, false, rfl, .inr ⟨rfl, HK.out⟩⟩
        | false =>
          go_enter Tryd.func18, Tryd.ntmps18
          go_upto_region 2 with fail
          rw [HW.out]
          go_wp2_with fail
          refine CP.out.mono ?_
          rintro e w5 ⟨rfl, hw5⟩
          rw [hw5]
          clear hw5 w5
          go_wp2_with (first
            | (refine wpList_load_row rfl 40 (.tmp 6) rfl (w.heap.size + 1) rfl 40 _ (0, 0) _ S1.out.box Tryd.underlying40 rfl step_size ?_)
            | (refine wpList_store_row rfl 40 (.tmp 4) (.tmp 42) rfl w.heap.size #[.int .i64 2, .int .i64 n, .slice none 0 0, .int .i64 0, .slice none 0 0] rfl rfl 40 _ S1.out.ret step_size rfl step_one ?_))
          have hrow : ((w2.setCell ⟨w.heap.size + 1, 1, none⟩ (.int .i64 n)).setRow w.heap.size #[.int .i64 2, .int .i64 n, .slice none 0 0, .int .i64 0, .slice none 0 0]).heap[w.heap.size]? = some (.cells #[.int .i64 2, .int .i64 n, .slice none 0 0, .int .i64 0, .slice none 0 0] 40 (0, 0)) := setRow_heap _ _ _ _ _ _ S1.out.ret
          refine bodyPost_ret (results_cell_tmp_row (P := Tryd.prog) Tryd.results18 _ _ w.heap.size 40 _ (0, 0) _ _ rfl rfl hrow Tryd.underlying40 rfl step_size) rfl ?_
          exact ⟨below_setRow S1.out.low (Nat.le_refl _) _, n, 0, none, 0, 0, none, 0, 0, false, rfl, .inr ⟨rfl, HK.out⟩⟩
    | cons y q =>
      have hc1 : ¬ c = 1 := by simp at hcc; omega
      have HT2 : Hid (stepK 2 (tls (x :: y :: q)) = if pb then (dataP y.data.toList).bind (fun bs => (tailP true false (tls q)).map fun t => (⟨2, n, bs, t.1, t.2⟩ : StepP)) else none) := HT.out
      have hys : y.size ≤ 1048576 := HZQ.out y (by simp)
      have HZQ2 : Hid (∀ z ∈ q, z.size ≤ 1048576) := fun z h9 => HZQ.out z (by simp [h9])
      have CD := hide (refData_any y (w2.setCell ⟨w.heap.size + 1, 1, none⟩ (.int .i64 n)) hys)
      obtain ⟨_, _, e', _, hcy⟩ := h.at (i := 1) (x := y) rfl
      cases e'
      have cy : (w2.setCell ⟨w.heap.size + 1, 1, none⟩ (.int .i64 n)).cell? ⟨b, o + 1, none⟩ = some (.string y) := (S1.out.low.cell (p := ⟨b, o + 1, none⟩) hb).trans hcy
      have HS := hide h
      have g5 : (((m - 1 : Nat) : Int) == 0) = false := by rw [beq_eq_false_iff_ne]; simp at hm1; omega
      have g6 : ¬ (m - 1 = 0) := by simp at hm1; omega
      have g7 : (0 : Int) < ((m - 1 : Nat) : Int) := by simp at hm1; omega
      have g8 : (1 : Int) ≤ ((m - 1 : Nat) : Int) := by simp at hm1; omega
      have g9 : 0 < m - 1 := by simp at hm1; omega
      clear h hcy
      by_cases hc2 : c - 1 = 1
      · have hq0 : q = [] := List.eq_nil_of_length_eq_zero (by simp at hcc; omega)
        subst hq0
        cases pb with
        | true =>
          go_enter Tryd.func18, Tryd.ntmps18
          go_upto_region 2 with fail
          rw [HW.out]
          go_wp2_with fail
          refine CP.out.mono ?_
          rintro e w5 ⟨rfl, hw5⟩
          rw [hw5]
          clear hw5 w5
          go_wp2_with fail
          refine CD.out.mono ?_
          rintro e w3 ⟨b3, h3⟩
          have S3 := hide (S1.out.later b3)
          obtain ⟨z2, zf2⟩ := S3.out.cell 2
          simp only [List.getElem?_toArray, List.getElem?_cons_zero, List.getElem?_cons_succ] at z2
          rcases h3 with ⟨bs, da, dc, hdp', rfl, hdo⟩ | ⟨hdp', rfl⟩
          · have hdp := hide hdp'
            have S4 := hide (S3.out.set 2 (.slice da bs.length dc) (cs' := #[.int .i64 2, .int .i64 n, .slice da bs.length dc, .int .i64 0, .slice none 0 0]) rfl)
            have HD4 : Hid (Own (w3.setCell ⟨w.heap.size + 1, 2, none⟩ (.slice da bs.length dc)) w.heap.size (.slice da bs.length dc) bs) := S3.out.own (by decide) (hdo.mono S1.out.low.size) 2 _
            clear hdp' hdo b3
            obtain ⟨y0, yf0⟩ := S4.out.cell 0
            obtain ⟨y1, yf1⟩ := S4.out.cell 1
            obtain ⟨y2, yf2⟩ := S4.out.cell 2
            obtain ⟨y3, yf3⟩ := S4.out.cell 3
            obtain ⟨y4, yf4⟩ := S4.out.cell 4
            simp only [List.getElem?_toArray, List.getElem?_cons_zero, List.getElem?_cons_succ] at y0 y1 y2 y3 y4
            have CB := hide (refBroken_any 2 n da (bs.length) dc (some ⟨b, o + 1, none⟩) (0) [] (w3.setCell ⟨w.heap.size + 1, 2, none⟩ (.slice da bs.length dc)) IsStrs.nil (by simp) (fun z h9 => by cases h9))
            have hqm : ([] : List ByteArray).length = m - 2 := by simp at hm1; simp; omega
            rw [hqm] at CB
            clear hqm
            go_wp2_with fail
            refine CB.out.mono ?_
            rintro e w4 ⟨b4, bk, ak, nk, ck, ok, rfl, h4⟩
            have S5 := hide (S4.out.later b4)
            have S6 := hide (S5.out.row #[.int .i64 2, .int .i64 n, .slice da bs.length dc, .int .i64 bk, .slice ak nk ck])
            have HDO : Hid (Own w4 w.heap.size (.slice da bs.length dc) bs) := (HD4.out.below b4)
            clear y0 y1 y2 y3 y4
            go_upto_region 24 with (refine wpList_store_row rfl 40 (.tmp 6) (.tmp 71) rfl (w.heap.size + 1) #[.int .i64 2, .int .i64 n, .slice da bs.length dc, .int .i64 bk, .slice ak nk ck] rfl rfl 40 _ S5.out.box step_size rfl step_one ?_)
            have hsz1 : w.heap.size ≤ (w3.setCell ⟨w.heap.size + 1, 2, none⟩ (.slice da bs.length dc)).heap.size := S4.out.low.size
            rcases h4 with ⟨rfl, ks, ht, hk, ho⟩ | ⟨rfl, ht⟩
            · have HK : Hid (stepK 2 (tls (x :: y :: [])) = some ⟨2, n, bs, bk, ks⟩) := by show _ = _; rw [HT2.out, if_pos trivial, hdp.out, Option.bind_some, ht]; rfl
              have HO := hide (And.intro hk (ho.mono hsz1))
              clear ht hk ho b4 hsz1
              go_wp2_with (first
                | (refine wpList_load_row rfl 40 (.tmp 6) rfl (w.heap.size + 1) rfl 40 _ (0, 0) _ S6.out.box Tryd.underlying40 rfl step_size ?_)
                | (refine wpList_store_row rfl 40 (.tmp 4) (.tmp 81) rfl w.heap.size #[.int .i64 2, .int .i64 n, .slice da bs.length dc, .int .i64 bk, .slice ak nk ck] rfl rfl 40 _ S6.out.ret step_size rfl step_one ?_))
              have hrow : ((w4.setRow (w.heap.size + 1) #[.int .i64 2, .int .i64 n, .slice da bs.length dc, .int .i64 bk, .slice ak nk ck]).setRow w.heap.size #[.int .i64 2, .int .i64 n, .slice da bs.length dc, .int .i64 bk, .slice ak nk ck]).heap[w.heap.size]? = some (.cells #[.int .i64 2, .int .i64 n, .slice da bs.length dc, .int .i64 bk, .slice ak nk ck] 40 (0, 0)) := setRow_heap _ _ _ _ _ _ S6.out.ret
              refine bodyPost_ret (results_cell_tmp_row (P := Tryd.prog) Tryd.results18 _ _ w.heap.size 40 _ (0, 0) _ _ rfl rfl hrow Tryd.underlying40 rfl step_size) rfl ?_
              exact ⟨below_setRow S6.out.low (Nat.le_refl _) _, n, bk, da, bs.length, dc, ak, nk, ck, true, rfl, .inl ⟨rfl, _, HK.out, rfl, rfl, rfl, rfl, HO.out.1, S6.out.own3 (by decide) (S5.out.own2 (by decide) HDO.out _) _, S6.out.own3 (by decide) (S5.out.own2 (by decide) HO.out.2 _) _⟩⟩
            · have HK : Hid (stepK 2 (tls (x :: y :: [])) = none) := by show _ = _; rw [HT2.out, if_pos trivial, hdp.out, Option.bind_some, ht]; rfl
              clear ht b4 hsz1
              go_wp2_with (first
                | (refine wpList_load_row rfl 40 (.tmp 6) rfl (w.heap.size + 1) rfl 40 _ (0, 0) _ S6.out.box Tryd.underlying40 rfl step_size ?_)
                | (refine wpList_store_row rfl 40 (.tmp 4) (.tmp 81) rfl w.heap.size #[.int .i64 2, .int .i64 n, .slice da bs.length dc, .int .i64 bk, .slice ak nk ck] rfl rfl 40 _ S6.out.ret step_size rfl step_one ?_))
              have hrow : ((w4.setRow (w.heap.size + 1) #[.int .i64 2, .int .i64 n, .slice da bs.length dc, .int .i64 bk, .slice ak nk ck]).setRow w.heap.size #[.int .i64 2, .int .i64 n, .slice da bs.length dc, .int .i64 bk, .slice ak nk ck]).heap[w.heap.size]? = some (.cells #[.int .i64 2, .int .i64 n, .slice da bs.length dc, .int .i64 bk, .slice ak nk ck] 40 (0, 0)) := setRow_heap _ _ _ _ _ _ S6.out.ret
              refine bodyPost_ret (results_cell_tmp_row (P := Tryd.prog) Tryd.results18 _ _ w.heap.size 40 _ (0, 0) _ _ rfl rfl hrow Tryd.underlying40 rfl step_size) rfl ?_
              exact ⟨below_setRow S6.out.low (Nat.le_refl _) _, n, bk, da, bs.length, dc, ak, nk, ck, false, rfl, .inr ⟨rfl, HK.out⟩⟩
          · have hdp := hide hdp'
            have S4 := hide (S3.out.set 2 (.slice none 0 0) (cs' := #[.int .i64 2, .int .i64 n, .slice none 0 0, .int .i64 0, .slice none 0 0]) rfl)
            clear hdp' b3
            obtain ⟨y0, yf0⟩ := S4.out.cell 0
            obtain ⟨y1, yf1⟩ := S4.out.cell 1
            obtain ⟨y2, yf2⟩ := S4.out.cell 2
            obtain ⟨y3, yf3⟩ := S4.out.cell 3
            obtain ⟨y4, yf4⟩ := S4.out.cell 4
            simp only [List.getElem?_toArray, List.getElem?_cons_zero, List.getElem?_cons_succ] at y0 y1 y2 y3 y4
            have CB := hide (refBroken_any 2 n none (0) 0 (some ⟨b, o + 1, none⟩) (0) [] (w3.setCell ⟨w.heap.size + 1, 2, none⟩ (.slice none 0 0)) IsStrs.nil (by simp) (fun z h9 => by cases h9))
            have hqm : ([] : List ByteArray).length = m - 2 := by simp at hm1; simp; omega
            rw [hqm] at CB
            clear hqm
            go_wp2_with fail
            refine CB.out.mono ?_
            rintro e w4 ⟨b4, bk, ak, nk, ck, ok, rfl, h4⟩
            have S5 := hide (S4.out.later b4)
            have S6 := hide (S5.out.row #[.int .i64 2, .int .i64 n, .slice none 0 0, .int .i64 bk, .slice ak nk ck])
            clear y0 y1 y2 y3 y4
            go_upto_region 24 with (refine wpList_store_row rfl 40 (.tmp 6) (.tmp 71) rfl (w.heap.size + 1) #[.int .i64 2, .int .i64 n, .slice none 0 0, .int .i64 bk, .slice ak nk ck] rfl rfl 40 _ S5.out.box step_size rfl step_one ?_)
            have hsz1 : w.heap.size ≤ (w3.setCell ⟨w.heap.size + 1, 2, none⟩ (.slice none 0 0)).heap.size := S4.out.low.size
            have HK : Hid (stepK 2 (tls (x :: y :: [])) = none) := by
              show _ = _
              rw [HT2.out]
              rw [if_pos trivial, hdp.out]; rfl
            clear h4 b4 hsz1
            cases ok with
            | true =>
              go_wp2_with (first
                | (refine wpList_load_row rfl 40 (.tmp 6) rfl (w.heap.size + 1) rfl 40 _ (0, 0) _ S6.out.box Tryd.underlying40 rfl step_size ?_)
                | (refine wpList_store_row rfl 40 (.tmp 4) (.tmp 81) rfl w.heap.size #[.int .i64 2, .int .i64 n, .slice none 0 0, .int .i64 bk, .slice ak nk ck] rfl rfl 40 _ S6.out.ret step_size rfl step_one ?_))
              have hrow : ((w4.setRow (w.heap.size + 1) #[.int .i64 2, .int .i64 n, .slice none 0 0, .int .i64 bk, .slice ak nk ck]).setRow w.heap.size #[.int .i64 2, .int .i64 n, .slice none 0 0, .int .i64 bk, .slice ak nk ck]).heap[w.heap.size]? = some (.cells #[.int .i64 2, .int .i64 n, .slice none 0 0, .int .i64 bk, .slice ak nk ck] 40 (0, 0)) := setRow_heap _ _ _ _ _ _ S6.out.ret
              refine bodyPost_ret (results_cell_tmp_row (P := Tryd.prog) Tryd.results18 _ _ w.heap.size 40 _ (0, 0) _ _ rfl rfl hrow Tryd.underlying40 rfl step_size) rfl ?_
              exact ⟨below_setRow S6.out.low (Nat.le_refl _) _, n, bk, none, 0, 0, ak, nk, ck, false, rfl, .inr ⟨rfl, HK.out⟩⟩
            | false =>
              go_wp2_with (first
                | (refine wpList_load_row rfl 40 (.tmp 6) rfl (w.heap.size + 1) rfl 40 _ (0, 0) _ S6.out.box Tryd.underlying40 rfl step_size ?_)
                | (refine wpList_store_row rfl 40 (.tmp 4) (.tmp 81) rfl w.heap.size #[.int .i64 2, .int .i64 n, .slice none 0 0, .int .i64 bk, .slice ak nk ck] rfl rfl 40 _ S6.out.ret step_size rfl step_one ?_))
              have hrow : ((w4.setRow (w.heap.size + 1) #[.int .i64 2, .int .i64 n, .slice none 0 0, .int .i64 bk, .slice ak nk ck]).setRow w.heap.size #[.int .i64 2, .int .i64 n, .slice none 0 0, .int .i64 bk, .slice ak nk ck]).heap[w.heap.size]? = some (.cells #[.int .i64 2, .int .i64 n, .slice none 0 0, .int .i64 bk, .slice ak nk ck] 40 (0, 0)) := setRow_heap _ _ _ _ _ _ S6.out.ret
              refine bodyPost_ret (results_cell_tmp_row (P := Tryd.prog) Tryd.results18 _ _ w.heap.size 40 _ (0, 0) _ _ rfl rfl hrow Tryd.underlying40 rfl step_size) rfl ?_
              exact ⟨below_setRow S6.out.low (Nat.le_refl _) _, n, bk, none, 0, 0, ak, nk, ck, false, rfl, .inr ⟨rfl, HK.out⟩⟩
        | false =>
          go_enter Tryd.func18, Tryd.ntmps18
          go_upto_region 2 with fail
          rw [HW.out]
          go_wp2_with fail
          refine CP.out.mono ?_
          rintro e w5 ⟨rfl, hw5⟩
          rw [hw5]
          clear hw5 w5
          go_wp2_with fail
          refine CD.out.mono ?_
          rintro e w3 ⟨b3, h3⟩
          have S3 := hide (S1.out.later b3)
          obtain ⟨z2, zf2⟩ := S3.out.cell 2
          simp only [List.getElem?_toArray, List.getElem?_cons_zero, List.getElem?_cons_succ] at z2
          rcases h3 with ⟨bs, da, dc, hdp', rfl, hdo⟩ | ⟨hdp', rfl⟩
          · have hdp := hide hdp'
            have S4 := hide (S3.out.set 2 (.slice da bs.length dc) (cs' := #[.int .i64 2, .int .i64 n, .slice da bs.length dc, .int .i64 0, .slice none 0 0]) rfl)
            have HD4 : Hid (Own (w3.setCell ⟨w.heap.size + 1, 2, none⟩ (.slice da bs.length dc)) w.heap.size (.slice da bs.length dc) bs) := S3.out.own (by decide) (hdo.mono S1.out.low.size) 2 _
            clear hdp' hdo b3
            obtain ⟨y0, yf0⟩ := S4.out.cell 0
            obtain ⟨y1, yf1⟩ := S4.out.cell 1
            obtain ⟨y2, yf2⟩ := S4.out.cell 2
            obtain ⟨y3, yf3⟩ := S4.out.cell 3
            obtain ⟨y4, yf4⟩ := S4.out.cell 4
            simp only [List.getElem?_toArray, List.getElem?_cons_zero, List.getElem?_cons_succ] at y0 y1 y2 y3 y4
            have CB := hide (refBroken_any 2 n da (bs.length) dc (some ⟨b, o + 1, none⟩) (0) [] (w3.setCell ⟨w.heap.size + 1, 2, none⟩ (.slice da bs.length dc)) IsStrs.nil (by simp) (fun z h9 => by cases h9))
            have hqm : ([] : List ByteArray).length = m - 2 := by simp at hm1; simp; omega
            rw [hqm] at CB
            clear hqm
            go_wp2_with fail
            refine CB.out.mono ?_
            rintro e w4 ⟨b4, bk, ak, nk, ck, ok, rfl, h4⟩
            have S5 := hide (S4.out.later b4)
            have S6 := hide (S5.out.row #[.int .i64 2, .int .i64 n, .slice da bs.length dc, .int .i64 bk, .slice ak nk ck])
            clear y0 y1 y2 y3 y4
            go_upto_region 24 with (refine wpList_store_row rfl 40 (.tmp 6) (.tmp 71) rfl (w.heap.size + 1) #[.int .i64 2, .int .i64 n, .slice da bs.length dc, .int .i64 bk, .slice ak nk ck] rfl rfl 40 _ S5.out.box step_size rfl step_one ?_)
            have hsz1 : w.heap.size ≤ (w3.setCell ⟨w.heap.size + 1, 2, none⟩ (.slice da bs.length dc)).heap.size := S4.out.low.size
            have HK : Hid (stepK 2 (tls (x :: y :: [])) = none) := by
              show _ = _
              rw [HT2.out]
              rfl
            clear h4 b4 hsz1
            cases ok with
            | true =>
              go_wp2_with (first
                | (refine wpList_load_row rfl 40 (.tmp 6) rfl (w.heap.size + 1) rfl 40 _ (0, 0) _ S6.out.box Tryd.underlying40 rfl step_size ?_)
                | (refine wpList_store_row rfl 40 (.tmp 4) (.tmp 81) rfl w.heap.size #[.int .i64 2, .int .i64 n, .slice da bs.length dc, .int .i64 bk, .slice ak nk ck] rfl rfl 40 _ S6.out.ret step_size rfl step_one ?_))
              have hrow : ((w4.setRow (w.heap.size + 1) #[.int .i64 2, .int .i64 n, .slice da bs.length dc, .int .i64 bk, .slice ak nk ck]).setRow w.heap.size #[.int .i64 2, .int .i64 n, .slice da bs.length dc, .int .i64 bk, .slice ak nk ck]).heap[w.heap.size]? = some (.cells #[.int .i64 2, .int .i64 n, .slice da bs.length dc, .int .i64 bk, .slice ak nk ck] 40 (0, 0)) := setRow_heap _ _ _ _ _ _ S6.out.ret
              refine bodyPost_ret (results_cell_tmp_row (P := Tryd.prog) Tryd.results18 _ _ w.heap.size 40 _ (0, 0) _ _ rfl rfl hrow Tryd.underlying40 rfl step_size) rfl ?_
              exact ⟨below_setRow S6.out.low (Nat.le_refl _) _, n, bk, da, bs.length, dc, ak, nk, ck, false, rfl, .inr ⟨rfl, HK.out⟩⟩
            | false =>
              go_wp2_with (first
                | (refine wpList_load_row rfl 40 (.tmp 6) rfl (w.heap.size + 1) rfl 40 _ (0, 0) _ S6.out.box Tryd.underlying40 rfl step_size ?_)
                | (refine wpList_store_row rfl 40 (.tmp 4) (.tmp 81) rfl w.heap.size #[.int .i64 2, .int .i64 n, .slice da bs.length dc, .int .i64 bk, .slice ak nk ck] rfl rfl 40 _ S6.out.ret step_size rfl step_one ?_))
              have hrow : ((w4.setRow (w.heap.size + 1) #[.int .i64 2, .int .i64 n, .slice da bs.length dc, .int .i64 bk, .slice ak nk ck]).setRow w.heap.size #[.int .i64 2, .int .i64 n, .slice da bs.length dc, .int .i64 bk, .slice ak nk ck]).heap[w.heap.size]? = some (.cells #[.int .i64 2, .int .i64 n, .slice da bs.length dc, .int .i64 bk, .slice ak nk ck] 40 (0, 0)) := setRow_heap _ _ _ _ _ _ S6.out.ret
              refine bodyPost_ret (results_cell_tmp_row (P := Tryd.prog) Tryd.results18 _ _ w.heap.size 40 _ (0, 0) _ _ rfl rfl hrow Tryd.underlying40 rfl step_size) rfl ?_
              exact ⟨below_setRow S6.out.low (Nat.le_refl _) _, n, bk, da, bs.length, dc, ak, nk, ck, false, rfl, .inr ⟨rfl, HK.out⟩⟩
          · have hdp := hide hdp'
            have S4 := hide (S3.out.set 2 (.slice none 0 0) (cs' := #[.int .i64 2, .int .i64 n, .slice none 0 0, .int .i64 0, .slice none 0 0]) rfl)
            clear hdp' b3
            obtain ⟨y0, yf0⟩ := S4.out.cell 0
            obtain ⟨y1, yf1⟩ := S4.out.cell 1
            obtain ⟨y2, yf2⟩ := S4.out.cell 2
            obtain ⟨y3, yf3⟩ := S4.out.cell 3
            obtain ⟨y4, yf4⟩ := S4.out.cell 4
            simp only [List.getElem?_toArray, List.getElem?_cons_zero, List.getElem?_cons_succ] at y0 y1 y2 y3 y4
            have CB := hide (refBroken_any 2 n none (0) 0 (some ⟨b, o + 1, none⟩) (0) [] (w3.setCell ⟨w.heap.size + 1, 2, none⟩ (.slice none 0 0)) IsStrs.nil (by simp) (fun z h9 => by cases h9))
            have hqm : ([] : List ByteArray).length = m - 2 := by simp at hm1; simp; omega
            rw [hqm] at CB
            clear hqm
            go_wp2_with fail
            refine CB.out.mono ?_
            rintro e w4 ⟨b4, bk, ak, nk, ck, ok, rfl, h4⟩
            have S5 := hide (S4.out.later b4)
            have S6 := hide (S5.out.row #[.int .i64 2, .int .i64 n, .slice none 0 0, .int .i64 bk, .slice ak nk ck])
            clear y0 y1 y2 y3 y4
            go_upto_region 24 with (refine wpList_store_row rfl 40 (.tmp 6) (.tmp 71) rfl (w.heap.size + 1) #[.int .i64 2, .int .i64 n, .slice none 0 0, .int .i64 bk, .slice ak nk ck] rfl rfl 40 _ S5.out.box step_size rfl step_one ?_)
            have hsz1 : w.heap.size ≤ (w3.setCell ⟨w.heap.size + 1, 2, none⟩ (.slice none 0 0)).heap.size := S4.out.low.size
            have HK : Hid (stepK 2 (tls (x :: y :: [])) = none) := by
              show _ = _
              rw [HT2.out]
              rfl
            clear h4 b4 hsz1
            cases ok with
            | true =>
              go_wp2_with (first
                | (refine wpList_load_row rfl 40 (.tmp 6) rfl (w.heap.size + 1) rfl 40 _ (0, 0) _ S6.out.box Tryd.underlying40 rfl step_size ?_)
                | (refine wpList_store_row rfl 40 (.tmp 4) (.tmp 81) rfl w.heap.size #[.int .i64 2, .int .i64 n, .slice none 0 0, .int .i64 bk, .slice ak nk ck] rfl rfl 40 _ S6.out.ret step_size rfl step_one ?_))
              have hrow : ((w4.setRow (w.heap.size + 1) #[.int .i64 2, .int .i64 n, .slice none 0 0, .int .i64 bk, .slice ak nk ck]).setRow w.heap.size #[.int .i64 2, .int .i64 n, .slice none 0 0, .int .i64 bk, .slice ak nk ck]).heap[w.heap.size]? = some (.cells #[.int .i64 2, .int .i64 n, .slice none 0 0, .int .i64 bk, .slice ak nk ck] 40 (0, 0)) := setRow_heap _ _ _ _ _ _ S6.out.ret
              refine bodyPost_ret (results_cell_tmp_row (P := Tryd.prog) Tryd.results18 _ _ w.heap.size 40 _ (0, 0) _ _ rfl rfl hrow Tryd.underlying40 rfl step_size) rfl ?_
              exact ⟨below_setRow S6.out.low (Nat.le_refl _) _, n, bk, none, 0, 0, ak, nk, ck, false, rfl, .inr ⟨rfl, HK.out⟩⟩
            | false =>
              go_wp2_with (first
                | (refine wpList_load_row rfl 40 (.tmp 6) rfl (w.heap.size + 1) rfl 40 _ (0, 0) _ S6.out.box Tryd.underlying40 rfl step_size ?_)
                | (refine wpList_store_row rfl 40 (.tmp 4) (.tmp 81) rfl w.heap.size #[.int .i64 2, .int .i64 n, .slice none 0 0, .int .i64 bk, .slice ak nk ck] rfl rfl 40 _ S6.out.ret step_size rfl step_one ?_))
              have hrow : ((w4.setRow (w.heap.size + 1) #[.int .i64 2, .int .i64 n, .slice none 0 0, .int .i64 bk, .slice ak nk ck]).setRow w.heap.size #[.int .i64 2, .int .i64 n, .slice none 0 0, .int .i64 bk, .slice ak nk ck]).heap[w.heap.size]? = some (.cells #[.int .i64 2, .int .i64 n, .slice none 0 0, .int .i64 bk, .slice ak nk ck] 40 (0, 0)) := setRow_heap _ _ _ _ _ _ S6.out.ret
              refine bodyPost_ret (results_cell_tmp_row (P := Tryd.prog) Tryd.results18 _ _ w.heap.size 40 _ (0, 0) _ _ rfl rfl hrow Tryd.underlying40 rfl step_size) rfl ?_
              exact ⟨below_setRow S6.out.low (Nat.le_refl _) _, n, bk, none, 0, 0, ak, nk, ck, false, rfl, .inr ⟨rfl, HK.out⟩⟩
      · have HQ9 := hide (HS.out.drop 2 (by simp))
        cases pb with
        | true =>
          go_enter Tryd.func18, Tryd.ntmps18
          go_upto_region 2 with fail
          rw [HW.out]
          go_wp2_with fail
          refine CP.out.mono ?_
          rintro e w5 ⟨rfl, hw5⟩
          rw [hw5]
          clear hw5 w5
          go_wp2_with fail
          refine CD.out.mono ?_
          rintro e w3 ⟨b3, h3⟩
          have S3 := hide (S1.out.later b3)
          obtain ⟨z2, zf2⟩ := S3.out.cell 2
          simp only [List.getElem?_toArray, List.getElem?_cons_zero, List.getElem?_cons_succ] at z2
          rcases h3 with ⟨bs, da, dc, hdp', rfl, hdo⟩ | ⟨hdp', rfl⟩
          · have hdp := hide hdp'
            have S4 := hide (S3.out.set 2 (.slice da bs.length dc) (cs' := #[.int .i64 2, .int .i64 n, .slice da bs.length dc, .int .i64 0, .slice none 0 0]) rfl)
            have HD4 : Hid (Own (w3.setCell ⟨w.heap.size + 1, 2, none⟩ (.slice da bs.length dc)) w.heap.size (.slice da bs.length dc) bs) := S3.out.own (by decide) (hdo.mono S1.out.low.size) 2 _
            clear hdp' hdo b3
            obtain ⟨y0, yf0⟩ := S4.out.cell 0
            obtain ⟨y1, yf1⟩ := S4.out.cell 1
            obtain ⟨y2, yf2⟩ := S4.out.cell 2
            obtain ⟨y3, yf3⟩ := S4.out.cell 3
            obtain ⟨y4, yf4⟩ := S4.out.cell 4
            simp only [List.getElem?_toArray, List.getElem?_cons_zero, List.getElem?_cons_succ] at y0 y1 y2 y3 y4
            have CB := hide (refBroken_any 2 n da (bs.length) dc (some ⟨b, o + 1 + 1, none⟩) (c - 1 - 1) q (w3.setCell ⟨w.heap.size + 1, 2, none⟩ (.slice da bs.length dc)) (by rw [Nat.add_assoc, Nat.sub_sub]; exact (HQ9.out.below (SQ.below _ _ _ S3.out 2 (.slice da bs.length dc)))) (by simp at hl; omega) HZQ2.out)
            have hqm : (q : List ByteArray).length = m - 2 := by simp at hm1; omega
            rw [hqm] at CB
            clear hqm
            go_wp2_with fail
            refine CB.out.mono ?_
            rintro e w4 ⟨b4, bk, ak, nk, ck, ok, rfl, h4⟩
            have S5 := hide (S4.out.later b4)
            have S6 := hide (S5.out.row #[.int .i64 2, .int .i64 n, .slice da bs.length dc, .int .i64 bk, .slice ak nk ck])
            have HDO : Hid (Own w4 w.heap.size (.slice da bs.length dc) bs) := (HD4.out.below b4)
            clear y0 y1 y2 y3 y4
            go_upto_region 24 with (refine wpList_store_row rfl 40 (.tmp 6) (.tmp 71) rfl (w.heap.size + 1) #[.int .i64 2, .int .i64 n, .slice da bs.length dc, .int .i64 bk, .slice ak nk ck] rfl rfl 40 _ S5.out.box step_size rfl step_one ?_)
            have hsz1 : w.heap.size ≤ (w3.setCell ⟨w.heap.size + 1, 2, none⟩ (.slice da bs.length dc)).heap.size := S4.out.low.size
            rcases h4 with ⟨rfl, ks, ht, hk, ho⟩ | ⟨rfl, ht⟩
            · have HK : Hid (stepK 2 (tls (x :: y :: q)) = some ⟨2, n, bs, bk, ks⟩) := by show _ = _; rw [HT2.out, if_pos trivial, hdp.out, Option.bind_some, ht]; rfl
              have HO := hide (And.intro hk (ho.mono hsz1))
              clear ht hk ho b4 hsz1
              go_wp2_with (first
                | (refine wpList_load_row rfl 40 (.tmp 6) rfl (w.heap.size + 1) rfl 40 _ (0, 0) _ S6.out.box Tryd.underlying40 rfl step_size ?_)
                | (refine wpList_store_row rfl 40 (.tmp 4) (.tmp 81) rfl w.heap.size #[.int .i64 2, .int .i64 n, .slice da bs.length dc, .int .i64 bk, .slice ak nk ck] rfl rfl 40 _ S6.out.ret step_size rfl step_one ?_))
              have hrow : ((w4.setRow (w.heap.size + 1) #[.int .i64 2, .int .i64 n, .slice da bs.length dc, .int .i64 bk, .slice ak nk ck]).setRow w.heap.size #[.int .i64 2, .int .i64 n, .slice da bs.length dc, .int .i64 bk, .slice ak nk ck]).heap[w.heap.size]? = some (.cells #[.int .i64 2, .int .i64 n, .slice da bs.length dc, .int .i64 bk, .slice ak nk ck] 40 (0, 0)) := setRow_heap _ _ _ _ _ _ S6.out.ret
              refine bodyPost_ret (results_cell_tmp_row (P := Tryd.prog) Tryd.results18 _ _ w.heap.size 40 _ (0, 0) _ _ rfl rfl hrow Tryd.underlying40 rfl step_size) rfl ?_
              exact ⟨below_setRow S6.out.low (Nat.le_refl _) _, n, bk, da, bs.length, dc, ak, nk, ck, true, rfl, .inl ⟨rfl, _, HK.out, rfl, rfl, rfl, rfl, HO.out.1, S6.out.own3 (by decide) (S5.out.own2 (by decide) HDO.out _) _, S6.out.own3 (by decide) (S5.out.own2 (by decide) HO.out.2 _) _⟩⟩
            · have HK : Hid (stepK 2 (tls (x :: y :: q)) = none) := by show _ = _; rw [HT2.out, if_pos trivial, hdp.out, Option.bind_some, ht]; rfl
              clear ht b4 hsz1
              go_wp2_with (first
                | (refine wpList_load_row rfl 40 (.tmp 6) rfl (w.heap.size + 1) rfl 40 _ (0, 0) _ S6.out.box Tryd.underlying40 rfl step_size ?_)
                | (refine wpList_store_row rfl 40 (.tmp 4) (.tmp 81) rfl w.heap.size #[.int .i64 2, .int .i64 n, .slice da bs.length dc, .int .i64 bk, .slice ak nk ck] rfl rfl 40 _ S6.out.ret step_size rfl step_one ?_))
              have hrow : ((w4.setRow (w.heap.size + 1) #[.int .i64 2, .int .i64 n, .slice da bs.length dc, .int .i64 bk, .slice ak nk ck]).setRow w.heap.size #[.int .i64 2, .int .i64 n, .slice da bs.length dc, .int .i64 bk, .slice ak nk ck]).heap[w.heap.size]? = some (.cells #[.int .i64 2, .int .i64 n, .slice da bs.length dc, .int .i64 bk, .slice ak nk ck] 40 (0, 0)) := setRow_heap _ _ _ _ _ _ S6.out.ret
              refine bodyPost_ret (results_cell_tmp_row (P := Tryd.prog) Tryd.results18 _ _ w.heap.size 40 _ (0, 0) _ _ rfl rfl hrow Tryd.underlying40 rfl step_size) rfl ?_
              exact ⟨below_setRow S6.out.low (Nat.le_refl _) _, n, bk, da, bs.length, dc, ak, nk, ck, false, rfl, .inr ⟨rfl, HK.out⟩⟩
          · have hdp := hide hdp'
            have S4 := hide (S3.out.set 2 (.slice none 0 0) (cs' := #[.int .i64 2, .int .i64 n, .slice none 0 0, .int .i64 0, .slice none 0 0]) rfl)
            clear hdp' b3
            obtain ⟨y0, yf0⟩ := S4.out.cell 0
            obtain ⟨y1, yf1⟩ := S4.out.cell 1
            obtain ⟨y2, yf2⟩ := S4.out.cell 2
            obtain ⟨y3, yf3⟩ := S4.out.cell 3
            obtain ⟨y4, yf4⟩ := S4.out.cell 4
            simp only [List.getElem?_toArray, List.getElem?_cons_zero, List.getElem?_cons_succ] at y0 y1 y2 y3 y4
            have CB := hide (refBroken_any 2 n none (0) 0 (some ⟨b, o + 1 + 1, none⟩) (c - 1 - 1) q (w3.setCell ⟨w.heap.size + 1, 2, none⟩ (.slice none 0 0)) (by rw [Nat.add_assoc, Nat.sub_sub]; exact (HQ9.out.below (SQ.below _ _ _ S3.out 2 (.slice none 0 0)))) (by simp at hl; omega) HZQ2.out)
            have hqm : (q : List ByteArray).length = m - 2 := by simp at hm1; omega
            rw [hqm] at CB
            clear hqm
            go_wp2_with fail
            refine CB.out.mono ?_
            rintro e w4 ⟨b4, bk, ak, nk, ck, ok, rfl, h4⟩
            have S5 := hide (S4.out.later b4)
            have S6 := hide (S5.out.row #[.int .i64 2, .int .i64 n, .slice none 0 0, .int .i64 bk, .slice ak nk ck])
            clear y0 y1 y2 y3 y4
            go_upto_region 24 with (refine wpList_store_row rfl 40 (.tmp 6) (.tmp 71) rfl (w.heap.size + 1) #[.int .i64 2, .int .i64 n, .slice none 0 0, .int .i64 bk, .slice ak nk ck] rfl rfl 40 _ S5.out.box step_size rfl step_one ?_)
            have hsz1 : w.heap.size ≤ (w3.setCell ⟨w.heap.size + 1, 2, none⟩ (.slice none 0 0)).heap.size := S4.out.low.size
            have HK : Hid (stepK 2 (tls (x :: y :: q)) = none) := by
              show _ = _
              rw [HT2.out]
              rw [if_pos trivial, hdp.out]; rfl
            clear h4 b4 hsz1
            cases ok with
            | true =>
              go_wp2_with (first
                | (refine wpList_load_row rfl 40 (.tmp 6) rfl (w.heap.size + 1) rfl 40 _ (0, 0) _ S6.out.box Tryd.underlying40 rfl step_size ?_)
                | (refine wpList_store_row rfl 40 (.tmp 4) (.tmp 81) rfl w.heap.size #[.int .i64 2, .int .i64 n, .slice none 0 0, .int .i64 bk, .slice ak nk ck] rfl rfl 40 _ S6.out.ret step_size rfl step_one ?_))
              have hrow : ((w4.setRow (w.heap.size + 1) #[.int .i64 2, .int .i64 n, .slice none 0 0, .int .i64 bk, .slice ak nk ck]).setRow w.heap.size #[.int .i64 2, .int .i64 n, .slice none 0 0, .int .i64 bk, .slice ak nk ck]).heap[w.heap.size]? = some (.cells #[.int .i64 2, .int .i64 n, .slice none 0 0, .int .i64 bk, .slice ak nk ck] 40 (0, 0)) := setRow_heap _ _ _ _ _ _ S6.out.ret
              refine bodyPost_ret (results_cell_tmp_row (P := Tryd.prog) Tryd.results18 _ _ w.heap.size 40 _ (0, 0) _ _ rfl rfl hrow Tryd.underlying40 rfl step_size) rfl ?_
              exact ⟨below_setRow S6.out.low (Nat.le_refl _) _, n, bk, none, 0, 0, ak, nk, ck, false, rfl, .inr ⟨rfl, HK.out⟩⟩
            | false =>
              go_wp2_with (first
                | (refine wpList_load_row rfl 40 (.tmp 6) rfl (w.heap.size + 1) rfl 40 _ (0, 0) _ S6.out.box Tryd.underlying40 rfl step_size ?_)
                | (refine wpList_store_row rfl 40 (.tmp 4) (.tmp 81) rfl w.heap.size #[.int .i64 2, .int .i64 n, .slice none 0 0, .int .i64 bk, .slice ak nk ck] rfl rfl 40 _ S6.out.ret step_size rfl step_one ?_))
              have hrow : ((w4.setRow (w.heap.size + 1) #[.int .i64 2, .int .i64 n, .slice none 0 0, .int .i64 bk, .slice ak nk ck]).setRow w.heap.size #[.int .i64 2, .int .i64 n, .slice none 0 0, .int .i64 bk, .slice ak nk ck]).heap[w.heap.size]? = some (.cells #[.int .i64 2, .int .i64 n, .slice none 0 0, .int .i64 bk, .slice ak nk ck] 40 (0, 0)) := setRow_heap _ _ _ _ _ _ S6.out.ret
              refine bodyPost_ret (results_cell_tmp_row (P := Tryd.prog) Tryd.results18 _ _ w.heap.size 40 _ (0, 0) _ _ rfl rfl hrow Tryd.underlying40 rfl step_size) rfl ?_
              exact ⟨below_setRow S6.out.low (Nat.le_refl _) _, n, bk, none, 0, 0, ak, nk, ck, false, rfl, .inr ⟨rfl, HK.out⟩⟩
        | false =>
          go_enter Tryd.func18, Tryd.ntmps18
          go_upto_region 2 with fail
          rw [HW.out]
          go_wp2_with fail
          refine CP.out.mono ?_
          rintro e w5 ⟨rfl, hw5⟩
          rw [hw5]
          clear hw5 w5
          go_wp2_with fail
          refine CD.out.mono ?_
          rintro e w3 ⟨b3, h3⟩
          have S3 := hide (S1.out.later b3)
          obtain ⟨z2, zf2⟩ := S3.out.cell 2
          simp only [List.getElem?_toArray, List.getElem?_cons_zero, List.getElem?_cons_succ] at z2
          rcases h3 with ⟨bs, da, dc, hdp', rfl, hdo⟩ | ⟨hdp', rfl⟩
          · have hdp := hide hdp'
            have S4 := hide (S3.out.set 2 (.slice da bs.length dc) (cs' := #[.int .i64 2, .int .i64 n, .slice da bs.length dc, .int .i64 0, .slice none 0 0]) rfl)
            have HD4 : Hid (Own (w3.setCell ⟨w.heap.size + 1, 2, none⟩ (.slice da bs.length dc)) w.heap.size (.slice da bs.length dc) bs) := S3.out.own (by decide) (hdo.mono S1.out.low.size) 2 _
            clear hdp' hdo b3
            obtain ⟨y0, yf0⟩ := S4.out.cell 0
            obtain ⟨y1, yf1⟩ := S4.out.cell 1
            obtain ⟨y2, yf2⟩ := S4.out.cell 2
            obtain ⟨y3, yf3⟩ := S4.out.cell 3
            obtain ⟨y4, yf4⟩ := S4.out.cell 4
            simp only [List.getElem?_toArray, List.getElem?_cons_zero, List.getElem?_cons_succ] at y0 y1 y2 y3 y4
            have CB := hide (refBroken_any 2 n da (bs.length) dc (some ⟨b, o + 1 + 1, none⟩) (c - 1 - 1) q (w3.setCell ⟨w.heap.size + 1, 2, none⟩ (.slice da bs.length dc)) (by rw [Nat.add_assoc, Nat.sub_sub]; exact (HQ9.out.below (SQ.below _ _ _ S3.out 2 (.slice da bs.length dc)))) (by simp at hl; omega) HZQ2.out)
            have hqm : (q : List ByteArray).length = m - 2 := by simp at hm1; omega
            rw [hqm] at CB
            clear hqm
            go_wp2_with fail
            refine CB.out.mono ?_
            rintro e w4 ⟨b4, bk, ak, nk, ck, ok, rfl, h4⟩
            have S5 := hide (S4.out.later b4)
            have S6 := hide (S5.out.row #[.int .i64 2, .int .i64 n, .slice da bs.length dc, .int .i64 bk, .slice ak nk ck])
            clear y0 y1 y2 y3 y4
            go_upto_region 24 with (refine wpList_store_row rfl 40 (.tmp 6) (.tmp 71) rfl (w.heap.size + 1) #[.int .i64 2, .int .i64 n, .slice da bs.length dc, .int .i64 bk, .slice ak nk ck] rfl rfl 40 _ S5.out.box step_size rfl step_one ?_)
            have hsz1 : w.heap.size ≤ (w3.setCell ⟨w.heap.size + 1, 2, none⟩ (.slice da bs.length dc)).heap.size := S4.out.low.size
            have HK : Hid (stepK 2 (tls (x :: y :: q)) = none) := by
              show _ = _
              rw [HT2.out]
              rfl
            clear h4 b4 hsz1
            cases ok with
            | true =>
              go_wp2_with (first
                | (refine wpList_load_row rfl 40 (.tmp 6) rfl (w.heap.size + 1) rfl 40 _ (0, 0) _ S6.out.box Tryd.underlying40 rfl step_size ?_)
                | (refine wpList_store_row rfl 40 (.tmp 4) (.tmp 81) rfl w.heap.size #[.int .i64 2, .int .i64 n, .slice da bs.length dc, .int .i64 bk, .slice ak nk ck] rfl rfl 40 _ S6.out.ret step_size rfl step_one ?_))
              have hrow : ((w4.setRow (w.heap.size + 1) #[.int .i64 2, .int .i64 n, .slice da bs.length dc, .int .i64 bk, .slice ak nk ck]).setRow w.heap.size #[.int .i64 2, .int .i64 n, .slice da bs.length dc, .int .i64 bk, .slice ak nk ck]).heap[w.heap.size]? = some (.cells #[.int .i64 2, .int .i64 n, .slice da bs.length dc, .int .i64 bk, .slice ak nk ck] 40 (0, 0)) := setRow_heap _ _ _ _ _ _ S6.out.ret
              refine bodyPost_ret (results_cell_tmp_row (P := Tryd.prog) Tryd.results18 _ _ w.heap.size 40 _ (0, 0) _ _ rfl rfl hrow Tryd.underlying40 rfl step_size) rfl ?_
              exact ⟨below_setRow S6.out.low (Nat.le_refl _) _, n, bk, da, bs.length, dc, ak, nk, ck, false, rfl, .inr ⟨rfl, HK.out⟩⟩
            | false =>
              go_wp2_with (first
                | (refine wpList_load_row rfl 40 (.tmp 6) rfl (w.heap.size + 1) rfl 40 _ (0, 0) _ S6.out.box Tryd.underlying40 rfl step_size ?_)
                | (refine wpList_store_row rfl 40 (.tmp 4) (.tmp 81) rfl w.heap.size #[.int .i64 2, .int .i64 n, .slice da bs.length dc, .int .i64 bk, .slice ak nk ck] rfl rfl 40 _ S6.out.ret step_size rfl step_one ?_))
              have hrow : ((w4.setRow (w.heap.size + 1) #[.int .i64 2, .int .i64 n, .slice da bs.length dc, .int .i64 bk, .slice ak nk ck]).setRow w.heap.size #[.int .i64 2, .int .i64 n, .slice da bs.length dc, .int .i64 bk, .slice ak nk ck]).heap[w.heap.size]? = some (.cells #[.int .i64 2, .int .i64 n, .slice da bs.length dc, .int .i64 bk, .slice ak nk ck] 40 (0, 0)) := setRow_heap _ _ _ _ _ _ S6.out.ret
              refine bodyPost_ret (results_cell_tmp_row (P := Tryd.prog) Tryd.results18 _ _ w.heap.size 40 _ (0, 0) _ _ rfl rfl hrow Tryd.underlying40 rfl step_size) rfl ?_
              exact ⟨below_setRow S6.out.low (Nat.le_refl _) _, n, bk, da, bs.length, dc, ak, nk, ck, false, rfl, .inr ⟨rfl, HK.out⟩⟩
          · have hdp := hide hdp'
            have S4 := hide (S3.out.set 2 (.slice none 0 0) (cs' := #[.int .i64 2, .int .i64 n, .slice none 0 0, .int .i64 0, .slice none 0 0]) rfl)
            clear hdp' b3
            obtain ⟨y0, yf0⟩ := S4.out.cell 0
            obtain ⟨y1, yf1⟩ := S4.out.cell 1
            obtain ⟨y2, yf2⟩ := S4.out.cell 2
            obtain ⟨y3, yf3⟩ := S4.out.cell 3
            obtain ⟨y4, yf4⟩ := S4.out.cell 4
            simp only [List.getElem?_toArray, List.getElem?_cons_zero, List.getElem?_cons_succ] at y0 y1 y2 y3 y4
            have CB := hide (refBroken_any 2 n none (0) 0 (some ⟨b, o + 1 + 1, none⟩) (c - 1 - 1) q (w3.setCell ⟨w.heap.size + 1, 2, none⟩ (.slice none 0 0)) (by rw [Nat.add_assoc, Nat.sub_sub]; exact (HQ9.out.below (SQ.below _ _ _ S3.out 2 (.slice none 0 0)))) (by simp at hl; omega) HZQ2.out)
            have hqm : (q : List ByteArray).length = m - 2 := by simp at hm1; omega
            rw [hqm] at CB
            clear hqm
            go_wp2_with fail
            refine CB.out.mono ?_
            rintro e w4 ⟨b4, bk, ak, nk, ck, ok, rfl, h4⟩
            have S5 := hide (S4.out.later b4)
            have S6 := hide (S5.out.row #[.int .i64 2, .int .i64 n, .slice none 0 0, .int .i64 bk, .slice ak nk ck])
            clear y0 y1 y2 y3 y4
            go_upto_region 24 with (refine wpList_store_row rfl 40 (.tmp 6) (.tmp 71) rfl (w.heap.size + 1) #[.int .i64 2, .int .i64 n, .slice none 0 0, .int .i64 bk, .slice ak nk ck] rfl rfl 40 _ S5.out.box step_size rfl step_one ?_)
            have hsz1 : w.heap.size ≤ (w3.setCell ⟨w.heap.size + 1, 2, none⟩ (.slice none 0 0)).heap.size := S4.out.low.size
            have HK : Hid (stepK 2 (tls (x :: y :: q)) = none) := by
              show _ = _
              rw [HT2.out]
              rfl
            clear h4 b4 hsz1
            cases ok with
            | true =>
              go_wp2_with (first
                | (refine wpList_load_row rfl 40 (.tmp 6) rfl (w.heap.size + 1) rfl 40 _ (0, 0) _ S6.out.box Tryd.underlying40 rfl step_size ?_)
                | (refine wpList_store_row rfl 40 (.tmp 4) (.tmp 81) rfl w.heap.size #[.int .i64 2, .int .i64 n, .slice none 0 0, .int .i64 bk, .slice ak nk ck] rfl rfl 40 _ S6.out.ret step_size rfl step_one ?_))
              have hrow : ((w4.setRow (w.heap.size + 1) #[.int .i64 2, .int .i64 n, .slice none 0 0, .int .i64 bk, .slice ak nk ck]).setRow w.heap.size #[.int .i64 2, .int .i64 n, .slice none 0 0, .int .i64 bk, .slice ak nk ck]).heap[w.heap.size]? = some (.cells #[.int .i64 2, .int .i64 n, .slice none 0 0, .int .i64 bk, .slice ak nk ck] 40 (0, 0)) := setRow_heap _ _ _ _ _ _ S6.out.ret
              refine bodyPost_ret (results_cell_tmp_row (P := Tryd.prog) Tryd.results18 _ _ w.heap.size 40 _ (0, 0) _ _ rfl rfl hrow Tryd.underlying40 rfl step_size) rfl ?_
              exact ⟨below_setRow S6.out.low (Nat.le_refl _) _, n, bk, none, 0, 0, ak, nk, ck, false, rfl, .inr ⟨rfl, HK.out⟩⟩
            | false =>
              go_wp2_with (first
                | (refine wpList_load_row rfl 40 (.tmp 6) rfl (w.heap.size + 1) rfl 40 _ (0, 0) _ S6.out.box Tryd.underlying40 rfl step_size ?_)
                | (refine wpList_store_row rfl 40 (.tmp 4) (.tmp 81) rfl w.heap.size #[.int .i64 2, .int .i64 n, .slice none 0 0, .int .i64 bk, .slice ak nk ck] rfl rfl 40 _ S6.out.ret step_size rfl step_one ?_))
              have hrow : ((w4.setRow (w.heap.size + 1) #[.int .i64 2, .int .i64 n, .slice none 0 0, .int .i64 bk, .slice ak nk ck]).setRow w.heap.size #[.int .i64 2, .int .i64 n, .slice none 0 0, .int .i64 bk, .slice ak nk ck]).heap[w.heap.size]? = some (.cells #[.int .i64 2, .int .i64 n, .slice none 0 0, .int .i64 bk, .slice ak nk ck] 40 (0, 0)) := setRow_heap _ _ _ _ _ _ S6.out.ret
              refine bodyPost_ret (results_cell_tmp_row (P := Tryd.prog) Tryd.results18 _ _ w.heap.size 40 _ (0, 0) _ _ rfl rfl hrow Tryd.underlying40 rfl step_size) rfl ?_
              exact ⟨below_setRow S6.out.low (Nat.le_refl _) _, n, bk, none, 0, 0, ak, nk, ck, false, rfl, .inr ⟨rfl, HK.out⟩⟩
theorem refStep_any (k : Int) (hk : 1 ≤ k ∧ k ≤ 7) (a : Option Addr) (c : Nat) (ss : List ByteArray) (w : World) (h : IsStrs w a c ss) (hl : ss.length ≤ 1048577) (hz : ∀ x ∈ ss, x.size ≤ 1048576) :
    Calls Tryd.prog 18 #[.int .i64 k, .slice a ss.length c] w (StepRP k (tls ss) w) := by
  rcases (show k = 1 ∨ k = 2 ∨ k = 3 ∨ k = 4 ∨ k = 5 ∨ k = 6 ∨ k = 7 by omega) with rfl | rfl | rfl | rfl | rfl | rfl | rfl
  · exact refStep1 a c ss w h hl hz
  · exact refStep2 a c ss w h hl hz
  · exact refStep3 a c ss w h hl hz
  · exact refStep4 a c ss w h hl hz
  · exact refStep5 a c ss w h hl hz
  · exact refStep6 a c ss w h hl hz
  · exact refStep7 a c ss w h hl hz
end Go.Proofs.YteaccpolmmkclaaDoor
