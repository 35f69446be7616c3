/-
  The walk of SeatsTurns.
-/
import Derived.Test.YtogmobkkpmpdcaaTurnKit
import Derived.Deep.RegionWith
import Derived.Deep.Cut
import Derived.Deep.CutRange
import Derived.Deep.CutBlock
namespace Go.Proofs.Ytogmobkkpmpdcaa.seatsTurns
open Go.RowKit
set_option maxHeartbeats 8000000 in
set_option maxRecDepth 1000000 in
theorem walk (a0 : Option Addr) (c0 : Nat) (l0 : List Int) (a1 : Option Addr) (c1 : Nat) (l1 : List Int) (a2 : Option Addr) (c2 : Nat) (l2 : List Int) (w : World) (f0 : IsInts w a0 c0 l0 ∧ (a0 = none → c0 = 0)) (f1 : IsInts w a1 c1 l1 ∧ (a1 = none → c1 = 0)) (f2 : IsInts w a2 c2 l2 ∧ (a2 = none → c2 = 0)) :
    Calls Try.prog 4 #[.slice a0 l0.length c0, .slice a1 l1.length c1, .slice a2 l2.length c2] w fun e w' => e = .returned (.bool true) ∧ Below w.heap.size w w' := by
  obtain ⟨i0, hi, hz0, hz1, hz2⟩ := info_parts info_int
  have hnn := fun w p => s_not_nil w p
  have CS : Hid (Calls Try.prog 6 #[] w fun e w' => e = .returned (.bool true) ∧ Below w.heap.size w w') := shown_any w
  have CN : Hid (∀ W, Calls Try.prog 7 #[] W fun e w' => ∃ sb, e = .returned (ptrV sb) ∧ (∃ S, Tn W.heap.size w' sb S [] 1) ∧ Below W.heap.size W w') := tNew
  have F0 : Hid (IsInts w a0 c0 l0) := f0.1
  have F1 : Hid (IsInts w a1 c1 l1) := f1.1
  have F2 : Hid (IsInts w a2 c2 l2) := f2.1
  obtain ⟨n0, hn0⟩ : ∃ n, n = l0.length := ⟨_, rfl⟩
  obtain ⟨n1, hn1⟩ : ∃ n, n = l1.length := ⟨_, rfl⟩
  obtain ⟨n2, hn2⟩ : ∃ n, n = l2.length := ⟨_, rfl⟩
  have N0 : Hid (n0 = l0.length ∧ n1 = l1.length ∧ n2 = l2.length) := ⟨hn0, hn1, hn2⟩
  have g0 : n0 ≤ c0 ∧ n0 ≤ maxLen := by have := f0.1.1; have := f0.1.2.1; omega
  have g1 : n1 ≤ c1 ∧ n1 ≤ maxLen := by have := f1.1.1; have := f1.1.2.1; omega
  have g2 : n2 ≤ c2 ∧ n2 ≤ maxLen := by have := f2.1.1; have := f2.1.2.1; omega
  have g0c := g0.1
  have g1c := g1.1
  have g2c := g2.1
  rw [← hn0, ← hn1, ← hn2]
  clear hn0 hn1 hn2 f0 f1 f2 g0 g1 g2
  go_enter Try.func4, Try.ntmps4
  go_upto_block 0 with (first
    | (go_at_call 6; refine CS.out.mono ?_; rintro e w1 ⟨rfl, b1⟩; have B1 : Hid (Below w.heap.size w w1) := b1; clear b1)
    | (go_at_call 7; refine (CN.out _).mono ?_; rintro e w2 ⟨sb, rfl, s2, b2⟩; have H2 : Hid ((∃ S, Tn w1.heap.size w2 sb S [] 1) ∧ Below w1.heap.size w1 w2) := ⟨s2, b2⟩; clear s2 b2))
  obtain ⟨B, hB⟩ : ∃ B, B = w1.heap.size := ⟨_, rfl⟩
  obtain ⟨w3, hw3⟩ : ∃ w3, w3 = w2.alloc (.cells #[] 3) := ⟨_, rfl⟩
  have L0 : Hid (Lp w B sb [] 1 (.slice (some ⟨w2.heap.size, 0, none⟩) 0 0) w3) := by
    obtain ⟨⟨S, s2⟩, b2⟩ := H2.out
    have b3 : Below w2.heap.size w2 w3 := by rw [hw3]; exact (Below.refl _ w2).alloc (Nat.le_refl _) _
    have z1 := B1.out.size
    have z2 := b2.size
    rw [hB]
    exact ⟨B1.out.trans ((b2.mono z1).trans (b3.mono (by omega))), z1, by have := b3.size; omega, ⟨S, s2.later b3⟩, by rw [hw3]; exact nums_new w2 _ (by omega)⟩
  rw [← hw3]
  obtain ⟨v0, hv0⟩ : ∃ v0, v0 = Value.slice (some ⟨w2.heap.size, 0, none⟩) 0 0 := ⟨_, rfl⟩
  have HV0 : Hid (v0 = .slice (some ⟨w2.heap.size, 0, none⟩) 0 0) := hv0
  clear hw3 hB H2 B1 CS CN hv0
  go_cut [9, 10, 11] from 33 to 60 (fun v _ _ wx => ∃ L : List Int, Hid (Lp w B sb L 257 v wx))
  case first =>
    go_wp2_with fail
    go_loopw [9, 10] (fun x i wr => ∃ (k : Nat) (L : List Int) (v : Value), x = v ∧ i = .int .i64 k ∧ k ≤ n0 ∧ k ≤ 128 ∧ Hid (Lp w B sb L (1 + 2 * k) v wr)) (fun _ i _ => 128 - (intOf i).toNat)
    case atStart => exact ⟨0, [], _, rfl, rfl, Nat.zero_le _, Nat.zero_le _, L0⟩
    case round =>
      obtain ⟨k, L, v, rfl, rfl, hk, hk2, HL⟩ := hrel
      clear L0
      by_cases hlt : k < n0 ∧ k < 128
      · as_aux_lemma =>
          obtain ⟨hlt1, hlt2⟩ := hlt
          have hltI : (k : Int) < (n0 : Int) := by omega
          have hltJ : (k : Int) < 128 := by omega
          have hk0 : (0 : Int) ≤ (k : Int) := by omega
          obtain ⟨ba, oa, x, rfl, hxw, hxc, hba⟩ := nums_at F0.out HL.out.bel (show k < l0.length by rw [← N0.out.1]; exact hlt1)
          have CP : Hid (∀ W, Calls Try.prog 16 #[.int .i64 x, .int .i64 64] W fun e w' => (∃ r : Nat, r < 64 ∧ e = .returned (.int .i64 (r : Int))) ∧ w' = W) := fun W => pick_any W x 64 (int_bounds hxw) (by decide) (by decide)
          obtain ⟨S, hS⟩ := HL.out.tn
          have HS : Hid (Tn B wr sb S L (1 + 2 * k)) := hS
          clear hS hxw
          go_upto_region 10 with (go_at_call 16; refine (CP.out _).mono ?_; rintro e w4 ⟨⟨n, hn, rfl⟩, hw'⟩; obtain rfl := hw'.symm)
          have CO : Hid (Calls Try.prog 17 #[ptrV sb, .int .i64 n] wr fun e w' => ∃ z, e = .returned (.int .i64 z) ∧ (z = 0 ↔ S.F n = none) ∧ ∃ S', Tn B w' sb S' L (1 + 2 * k + 1) ∧ (z = 0 → ∃ x, S'.F n = some x ∧ x.tk = 0) ∧ Below B wr w' ∧ Sd wr w') := tOpen HS.out (by omega) (by omega) n ⟨by omega, by omega⟩
          go_upto_region 11 with (go_at_call 17; refine CO.out.mono ?_; rintro e w5 ⟨z, rfl, hz, S5, s5, x5, b5, d5⟩; have H5 : Hid (Tn B w5 sb S5 L (1 + 2 * k + 1) ∧ (z = 0 → ∃ x, S5.F n = some x ∧ x.tk = 0) ∧ Below B wr w5 ∧ Sd wr w5) := ⟨s5, x5, b5, d5⟩; clear s5 x5 b5 d5 hz)
          · rename_i hz0' _ _ _ _
            have hz : z = 0 := by simpa using hz0'
            obtain ⟨s5, x5, b5, d5⟩ := H5.out
            obtain ⟨y, hy, hy0⟩ := x5 hz
            have CW : Hid (Calls Try.prog 18 #[ptrV sb, .int .i64 n, .int .i64 k] w5 fun e w' => e = .returned (.int .i64 0) ∧ ∃ S', Tn B w' sb S' (L ++ [(n : Int)]) (1 + 2 * k + 1 + 1) ∧ Below B w5 w' ∧ Sd w5 w') := tWait s5 (by omega) n k (by omega) hy hy0
            have L5 : Hid (Lp w B sb L (1 + 2 * k + 1) u9 w5) := HL.out.did s5 b5 d5
            have LLen : Hid (L.length ≤ 1000) := (by have h1 := s5.few.rl; rw [← s5.len] at h1; omega : L.length ≤ 1000)
            clear s5 x5 b5 d5 hy hy0 H5 HL
            go_upto_region 13 with (go_at_call 18; refine CW.out.mono ?_; rintro e w6 ⟨rfl, S6, s6, b6, d6⟩; have M6 : Hid (More w B sb (L ++ [(n : Int)]) (1 + 2 * k + 1 + 1) L u9 w6) := ⟨L5.out.bel.trans (b6.mono L5.out.base), L5.out.base, Nat.le_trans L5.out.le d6.size, ⟨S6, s6⟩, L5.out.row.sd d6⟩; clear s6 b6 d6)
            have hle6 : B ≤ w6.heap.size := M6.out.le
            go_wp2_with (at_builtin; go_must (refine wpList_append_own_at _ rfl _ _ 29 rfl B 3 i0 (.int .i64 0) 1 8 Try.underlying29 hi hz0 hz1 hz2 rfl (by decide) _ L.length (ints L) rfl (World.ownsRow.alloc M6.out.row _) ⟨w6.heap.size, 0, none⟩ 1 1 [.int .i64 n] rfl rfl (by intro j u hj; cases j with | zero => simp at hj; subst hj; simp [Addr.add] | succ j => simp at hj) (by intro u hu; simp at hu; subst hu; rfl) (by have := LLen.out; unfold maxLen; omega) (by have := LLen.out; omega) (by simp; omega) ?_; intro v8 wb hownb hgrb _ hatb; have M8 : Hid (More w B sb (L ++ [(n : Int)]) (1 + 2 * k + 1 + 1) (L ++ [(n : Int)]) v8 wb) := M6.out.next hgrb hownb; clear hownb hgrb hatb))
            exact ⟨⟨k + 1, L ++ [(n : Int)], v8, rfl, by go_num, by omega, by omega, M8.out.done.mono (by omega)⟩, by simp [intOf]; omega⟩
          · obtain ⟨s5, _, b5, d5⟩ := H5.out
            exact ⟨⟨k + 1, L, u9, rfl, by go_num, by omega, by omega, (HL.out.did s5 b5 d5).mono (by omega)⟩, by simp [intOf]; omega⟩
      · by_cases hlt1 : k < n0
        · have hltI : (k : Int) < (n0 : Int) := by omega
          have hltJ : ¬ (k : Int) < 128 := by omega
          go_wp2_with fail
          go_meet
          exact ⟨L, HL.out.mono (by omega)⟩
        · have hltI : ¬ (k : Int) < (n0 : Int) := by omega
          go_wp2_with fail
          go_meet
          exact ⟨L, HL.out.mono (by omega)⟩
  case rest =>
    obtain ⟨L1, HL1⟩ := hcut
    go_upto_block 2 with fail
    go_cut [9, 12, 13, 14, 15, 16] from 61 to 129 (fun v _ _ _ _ _ wx => ∃ L : List Int, Hid (Lp w B sb L 400 v wx))
    case first =>
      go_wp2_with fail
      go_loopw [9, 12] (fun x i wr => ∃ (k : Nat) (L : List Int) (v : Value), x = v ∧ i = .int .i64 k ∧ k ≤ n1 ∧ k ≤ 128 ∧ Hid (Lp w B sb L (257 + k) v wr)) (fun _ i _ => 128 - (intOf i).toNat)
      case atStart => exact ⟨0, L1, _, rfl, rfl, Nat.zero_le _, Nat.zero_le _, HL1⟩
      case round =>
        obtain ⟨k, L, v, rfl, rfl, hk, hk2, HL⟩ := hrel
        clear HL1
        by_cases hlt : k < n1 ∧ k < 128
        · as_aux_lemma =>
            obtain ⟨hlt1, hlt2⟩ := hlt
            have hltI : (k : Int) < (n1 : Int) := by omega
            have hltJ : (k : Int) < 128 := by omega
            have hk0 : (0 : Int) ≤ (k : Int) := by omega
            obtain ⟨ba, oa, x, rfl, hxw, hxc, hba⟩ := nums_at F1.out HL.out.bel (show k < l1.length by rw [← N0.out.2.1]; exact hlt1)
            have CP : Hid (∀ W, Calls Try.prog 16 #[.int .i64 x, .int .i64 64] W fun e w' => (∃ r : Nat, r < 64 ∧ e = .returned (.int .i64 (r : Int))) ∧ w' = W) := fun W => pick_any W x 64 (int_bounds hxw) (by decide) (by decide)
            clear hxw
            go_upto_region 18 with (go_at_call 16; refine (CP.out _).mono ?_; rintro e w4 ⟨⟨n, hn, rfl⟩, hw'⟩; obtain rfl := hw'.symm)
            obtain ⟨wo, hwo⟩ : ∃ wo, wo = wr := ⟨_, rfl⟩
            subst hwo
            obtain ⟨vw, hvw⟩ : ∃ vw, vw = u9 := ⟨_, rfl⟩
            subst hvw
            obtain ⟨w5, hw5⟩ : ∃ w5, w5 = wo.alloc (.cells #[] 3) := ⟨_, rfl⟩
            have HW5 : Hid (w5 = wo.alloc (.cells #[] 3)) := hw5
            have T5 : Hid (Two w B sb L (257 + k) vw wo.heap.size [] (.slice (some ⟨wo.heap.size, 0, none⟩) 0 0) w5) := by rw [hw5]; exact Two.start HL.out
            obtain ⟨S, hS⟩ := HL.out.tn
            have LLen : Hid (L.length ≤ 1000) := (by have h1 := hS.few.rl; rw [← hS.len] at h1; omega : L.length ≤ 1000)
            obtain ⟨av, cv, rfl⟩ := HL.out.row.form
            obtain ⟨m, hm⟩ : ∃ m, m = L.length := ⟨_, rfl⟩
            have HMM : Hid (m = L.length) := hm
            have hml : m ≤ 1000 := by rw [hm]; exact LLen.out
            rw [← hm]
            clear hw5 hS hm HL
            go_upto_region 20 with fail
            rw [← HW5.out]
            obtain ⟨B2, hB2⟩ : ∃ B2, B2 = wo.heap.size := ⟨_, rfl⟩
            rw [← hB2]
            rw [← hB2] at T5
            clear hB2 HW5
            go_loopw [14, 15] (fun lv j wr => ∃ (q : Nat) (v' : Value), lv = v' ∧ j = .int .i64 q ∧ q ≤ m ∧ Hid (Two w B sb L (257 + k) (.slice av L.length cv) B2 ((L.take q).filter (fun t => t != (n : Int))) v' wr)) (fun _ j _ => m - (intOf j).toNat)
            case atStart => exact ⟨0, _, rfl, rfl, Nat.zero_le _, T5⟩
            case round =>
              obtain ⟨q, v', rfl, rfl, hq, HT⟩ := hrel
              clear T5
              by_cases hqm : q < m
              · as_aux_lemma =>
                  have hqI : (q : Int) < (m : Int) := by omega
                  have hq0 : (0 : Int) ≤ (q : Int) := by omega
                  obtain ⟨y, hy⟩ : ∃ y, L[q]? = some y := ⟨_, List.getElem?_eq_getElem (by rw [← HMM.out]; exact hqm)⟩
                  obtain ⟨g, rfl, cy⟩ := HT.out.lp.row.cell hy
                  have hcv : m ≤ cv := by
                    have h1 := HMM.out
                    rcases HT.out.lp.row.2 with ⟨h0, _⟩ | ⟨g', cap, cur, hv, _, _, h2, _⟩
                    · cases h0
                    · simp only [Value.slice.injEq] at hv; omega
                  have hst := filter_step (n := (n : Int)) hy
                  by_cases hyn : y = (n : Int)
                  · rw [if_pos hyn, List.append_nil] at hst
                    have hynb : (y != (n : Int)) = false := by simpa using hyn
                    have HST : Hid ((L.take (q + 1)).filter (fun t => t != (n : Int)) = (L.take q).filter (fun t => t != (n : Int))) := hst
                    clear hst hy hyn
                    go_wp2_with fail
                    exact ⟨⟨q + 1, u14, rfl, by go_num, by omega, by rw [HST.out]; exact HT⟩, by simp [intOf]; omega⟩
                  · rw [if_neg hyn] at hst
                    have hynb : (y != (n : Int)) = true := by simpa using hyn
                    obtain ⟨M, hM⟩ : ∃ M, M = (L.take q).filter (fun t => t != (n : Int)) := ⟨_, rfl⟩
                    rw [← hM] at hst HT
                    have HST : Hid ((L.take (q + 1)).filter (fun t => t != (n : Int)) = M ++ [y]) := hst
                    have HML : Hid (M.length ≤ 1000) := (show M.length ≤ 1000 by
                      have h1 := List.length_filter_le (fun t => t != (n : Int)) (L.take q)
                      rw [← hM, List.length_take] at h1
                      have := LLen.out
                      omega)
                    have hle6 : B2 ≤ wr.heap.size := HT.out.le
                    clear hst hy hyn hM
                    go_wp2_with (at_builtin; go_must (refine wpList_append_own_at _ rfl _ _ 29 rfl B2 3 i0 (.int .i64 0) 1 8 Try.underlying29 hi hz0 hz1 hz2 rfl (by decide) _ M.length (ints M) rfl (World.ownsRow.alloc HT.out.row _) ⟨wr.heap.size, 0, none⟩ 1 1 [.int .i64 y] rfl rfl (by intro j u hj; cases j with | zero => simp at hj; subst hj; simp [Addr.add] | succ j => simp at hj) (by intro u hu; simp at hu; subst hu; rfl) (by have := HML.out; unfold maxLen; omega) (by have := HML.out; omega) (by simp; omega) ?_; intro v8 wb hownb hgrb _ hatb; have T8 : Hid (Two w B sb L (257 + k) (.slice (some ⟨g, 0, none⟩) L.length cv) B2 (M ++ [y]) v8 wb) := HT.out.next hgrb hownb; clear hownb hgrb hatb))
                    exact ⟨⟨q + 1, v8, rfl, by go_num, by omega, by rw [HST.out]; exact T8⟩, by simp [intOf]; omega⟩
              · have hqI : ¬ (q : Int) < (m : Int) := by omega
                obtain rfl : q = m := by omega
                have HT2 : Hid (Two w B sb L (257 + k) (.slice av L.length cv) B2 (L.filter (fun t => t != (n : Int))) u14 wr) := by
                  have h1 := HT.out
                  rw [List.take_of_length_le (by rw [← HMM.out]; exact Nat.le_refl _)] at h1
                  exact h1
                clear HT
                go_upto_region 24 with fail
                obtain ⟨M, hM⟩ : ∃ M, M = L.filter (fun t => t != (n : Int)) := ⟨_, rfl⟩
                rw [← hM] at HT2
                have HFL : Hid (M.length < q ↔ (n : Int) ∈ L) := by rw [hM, HMM.out]; exact filter_less
                have HMF : Hid (M = L.filter (fun t => t != (n : Int))) := hM
                clear hM
                obtain ⟨al, cl, rfl⟩ := HT2.out.row.form
                obtain ⟨p, hp⟩ : ∃ p, p = M.length := ⟨_, rfl⟩
                have HP : Hid (p = M.length) := hp
                rw [← hp]
                rw [← hp] at HFL
                obtain ⟨St, hSt⟩ := HT2.out.lp.tn
                have hpl : p ≤ 1000 := by
                  have h1 := List.length_filter_le (fun t => t != (n : Int)) L
                  rw [← HMF.out, ← hp, ← HMM.out] at h1
                  omega
                clear hp
                by_cases hpar : k % 2 = 0
                · have hr0 : (k : Int).tmod 2 = 0 := by rw [Int.tmod_eq_emod_of_nonneg (by omega)]; omega
                  have CST : Hid (Calls Try.prog 19 #[ptrV sb, .int .i64 n] wr fun e w' => ∃ z, e = .returned (.int .i64 z) ∧ (z = 0 ↔ (n : Int) ∈ L) ∧ ∃ S', Tn B w' sb S' (L.filter (fun m => m != (n : Int))) (257 + k) ∧ Below B wr w' ∧ Sd wr w') := tStop hSt (by omega) n ⟨by omega, by omega⟩
                  clear hSt
                  by_cases hin : p < q
                  · have hinI : (p : Int) < (q : Int) := by omega
                    go_wp2_with (go_at_call 19; refine CST.out.mono ?_; rintro e w7 ⟨z, rfl, hz, S7, s7, b7, d7⟩; have hz0' : (z == 0) = true := (by simpa using hz.2 (HFL.out.1 hin)); have L7 : Hid (Lp w B sb M (257 + k) (.slice al M.length cl) w7) := HT2.out.turn (by rw [HMF.out]; exact s7) b7 d7; clear hz s7 b7 d7)
                    exact ⟨⟨k + 1, M, .slice al M.length cl, by rw [← HP.out], by go_num, by omega, by omega, L7.out.mono (by omega)⟩, by simp [intOf]; omega⟩
                  · have hinI : ¬ (p : Int) < (q : Int) := by omega
                    go_wp2_with (go_at_call 19; refine CST.out.mono ?_; rintro e w7 ⟨z, rfl, hz, S7, s7, b7, d7⟩; have hz0' : (z == 0) = false := (by simpa using fun h0 => hin (HFL.out.2 (hz.1 h0))); have L7 : Hid (Lp w B sb M (257 + k) (.slice al M.length cl) w7) := HT2.out.turn (by rw [HMF.out]; exact s7) b7 d7; clear hz s7 b7 d7)
                    exact ⟨⟨k + 1, M, .slice al M.length cl, by rw [← HP.out], by go_num, by omega, by omega, L7.out.mono (by omega)⟩, by simp [intOf]; omega⟩
                · have hr0 : (k : Int).tmod 2 = 1 := by rw [Int.tmod_eq_emod_of_nonneg (by omega)]; omega
                  have CCL : Hid (Calls Try.prog 20 #[ptrV sb, .int .i64 n] wr fun e w' => ∃ z, e = .returned (.int .i64 z) ∧ ∃ S', Tn B w' sb S' (L.filter (fun m => m != (n : Int))) (257 + k) ∧ S'.F n = none ∧ Below B wr w' ∧ Sd wr w') := tClose hSt (by omega) n ⟨by omega, by omega⟩
                  clear hSt
                  go_wp2_with (first
                    | (go_at_call 20; refine CCL.out.mono ?_; rintro e w7 ⟨z, rfl, S7, s7, hF7, b7, d7⟩; have L7 : Hid (Lp w B sb M (257 + k) (.slice al M.length cl) w7) := HT2.out.turn (by rw [HMF.out]; exact s7) b7 d7; have S7H : Hid (Tn B w7 sb S7 M (257 + k) ∧ S7.F n = none) := ⟨by rw [HMF.out]; exact s7, hF7⟩; clear s7 hF7 b7 d7)
                    | (go_at_call 17; refine (tOpen S7H.out.1 (by omega) (by omega) n ⟨by omega, by omega⟩).mono ?_; rintro e w8 ⟨z8, rfl, hz8, S8, s8, _, b8, d8⟩; have hz8' : (z8 != 0) = false := (by simpa using hz8.2 S7H.out.2); have L8 : Hid (Lp w B sb M (257 + k + 1) (.slice al M.length cl) w8) := L7.out.did s8 b8 d8; clear hz8 s8 b8 d8))
                  · exact ⟨⟨k + 1, M, .slice al M.length cl, by rw [← HP.out], by go_num, by omega, by omega, L8.out.mono (by omega)⟩, by simp [intOf]; omega⟩
                  · exact ⟨⟨k + 1, M, .slice al M.length cl, by rw [← HP.out], by go_num, by omega, by omega, L7.out.mono (by omega)⟩, by simp [intOf]; omega⟩
        · by_cases hlt1 : k < n1
          · have hltI : (k : Int) < (n1 : Int) := by omega
            have hltJ : ¬ (k : Int) < 128 := by omega
            go_wp2_with fail
            go_meet
            exact ⟨L, HL.out.mono (by omega)⟩
          · have hltI : ¬ (k : Int) < (n1 : Int) := by omega
            go_wp2_with fail
            go_meet
            exact ⟨L, HL.out.mono (by omega)⟩
    case rest =>
      obtain ⟨L2, HL2⟩ := hcut
      go_upto_block 6 with fail
      go_cut [17] from 130 to 146 (fun _ wx => Hid (Lp w B sb L2 600 u9 wx))
      case first =>
        go_wp2_with fail
        go_loopw [17] (fun i wr => ∃ k : Nat, i = .int .i64 k ∧ k ≤ n2 ∧ k ≤ 128 ∧ Hid (Lp w B sb L2 (400 + k) u9 wr)) (fun i _ => 128 - (intOf i).toNat)
        case atStart => exact ⟨0, rfl, Nat.zero_le _, Nat.zero_le _, HL2⟩
        case round =>
          obtain ⟨k, rfl, hk, hk2, HL⟩ := hrel
          clear HL2
          by_cases hlt : k < n2 ∧ k < 128
          · as_aux_lemma =>
              obtain ⟨hlt1, hlt2⟩ := hlt
              have hltI : (k : Int) < (n2 : Int) := by omega
              have hltJ : (k : Int) < 128 := by omega
              have hk0 : (0 : Int) ≤ (k : Int) := by omega
              obtain ⟨ba, oa, x, rfl, hxw, hxc, hba⟩ := nums_at F2.out HL.out.bel (show k < l2.length by rw [← N0.out.2.2]; exact hlt1)
              have CP : Hid (∀ W, Calls Try.prog 16 #[.int .i64 x, .int .i64 64] W fun e w' => (∃ r : Nat, r < 64 ∧ e = .returned (.int .i64 (r : Int))) ∧ w' = W) := fun W => pick_any W x 64 (int_bounds hxw) (by decide) (by decide)
              obtain ⟨St, hSt⟩ := HL.out.tn
              have CW : Hid (∀ n : Nat, n < 64 → Calls Try.prog 21 #[ptrV sb, .int .i64 n, .string ⟨#[120]⟩] wr fun e w' => ∃ z y : Int, e = .returned (.tuple #[.int .i64 z, .int .i64 y]) ∧ ∃ S', Tn B w' sb S' L2 (400 + k + 1) ∧ Below B wr w' ∧ Sd wr w') := fun n hn => tWatch hSt (by omega) n ⟨by omega, by omega⟩ ⟨#[120]⟩
              clear hxw hSt
              go_wp2_with (first
                | (go_at_call 16; refine (CP.out _).mono ?_; rintro e w4 ⟨⟨n, hn, rfl⟩, hw'⟩; obtain rfl := hw'.symm)
                | (go_at_call 21; refine (CW.out n hn).mono ?_; rintro e w5 ⟨z, y, rfl, S5, s5, b5, d5⟩; have L5 : Hid (Lp w B sb L2 (400 + k + 1) u9 w5) := HL.out.did s5 b5 d5; clear s5 b5 d5))
              exact ⟨⟨k + 1, by go_num, by omega, by omega, L5⟩, by simp [intOf]; omega⟩
          · by_cases hlt1 : k < n2
            · have hltI : (k : Int) < (n2 : Int) := by omega
              have hltJ : ¬ (k : Int) < 128 := by omega
              go_wp2_with fail
              go_meet
              exact HL.out.mono (by omega)
            · have hltI : ¬ (k : Int) < (n2 : Int) := by omega
              go_wp2_with fail
              go_meet
              exact HL.out.mono (by omega)
      case rest =>
        obtain ⟨S, hS⟩ := hcut.out.tn
        have HL3 : Hid (Lp w B sb L2 600 u9 wc ∧ Tn B wc sb S L2 600) := ⟨hcut.out, hS⟩
        obtain ⟨av, cv, rfl⟩ := hcut.out.row.form
        obtain ⟨m, hm⟩ : ∃ m, m = L2.length := ⟨_, rfl⟩
        have HMM : Hid (m = L2.length) := hm
        have hml : m ≤ 1000 := by have h1 := hS.few.rl; rw [← hS.len, ← hm] at h1; omega
        rw [← hm]
        clear hS hm hcut HL2
        go_upto_region 34 with fail
        go_loopw [18, 19] (fun f i wr => ∃ (r : Nat) (fz j : Int), f = .int .i64 fz ∧ i = .int .i64 j ∧ j = (r : Int) - 1 ∧ r ≤ m ∧ Hid (fz = firstL (seesN S [120]) (L2.drop r)) ∧ Hid (Below wc.heap.size wc wr)) (fun _ i _ => (intOf i + 1).toNat)
        case atStart => exact ⟨m, -1, _, rfl, rfl, rfl, Nat.le_refl _, by rw [List.drop_of_length_le (by rw [HMM.out]; exact Nat.le_refl _)]; exact rfl, Below.refl _ _⟩
        case round =>
          obtain ⟨r, fz, j, rfl, rfl, hj, hr, HF, HB⟩ := hrel
          cases r with
          | zero => as_aux_lemma =>
            have hj1 : j = -1 := by omega
            subst hj1
            have HFZ : Hid (fz = firstW S [120]) := by rw [HF.out, HL3.out.2.first]; rfl
            have TN : Hid (Tn B wr sb S L2 600 ∧ Below w.heap.size w wr ∧ Nums wr B (.slice av L2.length cv) L2) := ⟨HL3.out.2.later HB.out, HL3.out.1.bel.trans (HB.out.mono HL3.out.1.bel.size), HL3.out.1.row.below HB.out⟩
            have CWT : Hid (Calls Try.prog 23 #[ptrV sb] wr fun e w' => ∃ v, e = .returned v ∧ Nums w' wr.heap.size v L2 ∧ Below wr.heap.size wr w') := tWaiters TN.out.1 (by omega)
            clear HF HB hj
            go_upto_region 43 with (first
              | (go_at_call 23; refine CWT.out.mono ?_; rintro e w6 ⟨v6, rfl, r6, b6⟩; have H6 : Hid (Nums w6 wr.heap.size v6 L2 ∧ Below wr.heap.size wr w6) := ⟨r6, b6⟩; have CNB : Hid (Calls Try.prog 22 #[v6, .slice av m cv] w6 fun e w' => e = .returned (.bool true) ∧ Below w6.heap.size w6 w') := (by rw [HMM.out]; exact numbers_any _ _ v6 _ L2 w6 r6 (TN.out.2.2.below b6) (by rw [← HMM.out]; omega)); clear r6 b6)
              | (go_at_call 22; refine CNB.out.mono ?_; rintro e w7 ⟨rfl, b7⟩; have H7 : Hid (Below wr.heap.size wr w7) := H6.out.2.trans (b7.mono H6.out.2.size); clear b7))
            have BW7 : Hid (Below w.heap.size w w7) := TN.out.2.1.trans (H7.out.mono TN.out.2.1.size)
            have T7 : Tn B w7 sb S L2 600 := TN.out.1.later H7.out
            have CF1 : Hid (∀ X, Below w7.heap.size w7 X → Calls Try.prog 15 #[ptrV sb, .string ⟨#[120]⟩] X fun e w' => e = .returned (.int .i64 fz) ∧ Below X.heap.size X w') := fun X hX => by
              rw [HFZ.out]
              exact tFirst (T7.later hX) (by decide) ⟨#[120]⟩ (by decide)
            have CWG : Hid (∀ X, Below w7.heap.size w7 X → Calls Try.prog 14 #[ptrV sb, .string ⟨#[100, 101, 102, 97, 117, 108, 116]⟩] X fun e w' => e = .returned (.int .i64 (m : Int)) ∧ Below X.heap.size X w') := fun X hX => by
              rw [HMM.out]
              exact tWaiting (T7.later hX) (by decide)
            by_cases hm : m = 0
            · have hmb : ((m : Int) == 0) = true := by simp [hm]
              have sq : Below w7.heap.size w7 w7.drew := (Below.refl _ w7).drew
              clear hm T7
              refine wp_region_held_drew (S := fun X => Below w7.heap.size w7 X) (by kernel_rfl) sq (fun _ => ?_)
              refine H_take (i := 0) (v := .bool true) (some 184) rfl rfl (by kernel_rfl) (by kernel_rfl) (by kernel_rfl) (fun _ _ _ h => h) rfl (fun X hX => ?_) sq ?_
              · simp [go_sem]
              simp only [Act.put, List.setIfInBounds_toArray, List.set_cons_zero, List.set_cons_succ]
              refine H_take (i := 1) (v := .bool true) (some 185) rfl rfl (by kernel_rfl) (by kernel_rfl) (by kernel_rfl) (fun _ _ _ h => h) rfl (fun X hX => ?_) sq ?_
              · simp [go_sem]
              simp only [Act.put, List.setIfInBounds_toArray, List.set_cons_zero, List.set_cons_succ]
              refine H_take (i := 2) (v := ptrV sb) (some 186) rfl rfl (by kernel_rfl) (by kernel_rfl) (by kernel_rfl) (fun _ _ _ h => h) rfl (fun X hX => ?_) sq ?_
              · simp [go_sem]
              simp only [Act.put, List.setIfInBounds_toArray, List.set_cons_zero, List.set_cons_succ]
              refine H_take (i := 4) (v := .int .i64 fz) (some 188) rfl rfl (by kernel_rfl) (by kernel_rfl) (by kernel_rfl) (fun _ _ _ h => h) rfl (fun X hX => ?_) sq ?_
              · simp [go_sem]
              simp only [Act.put, List.setIfInBounds_toArray, List.set_cons_zero, List.set_cons_succ]
              refine H_call (i := 3) (f := 15) (args := #[ptrV sb, .string ⟨#[120]⟩]) (some 187) rfl rfl (by kernel_rfl) rfl (by simp [go_sem]) ((CF1.out _ sq).mono ?_)
              rintro e w8 ⟨rfl, b8⟩
              have sq2 : Below w7.heap.size w7 w8 := sq.trans (b8.mono sq.size)
              refine ⟨_, rfl, sq2, ?_⟩
              simp only [Act.put, List.setIfInBounds_toArray, List.set_cons_zero, List.set_cons_succ]
              refine H_take (i := 5) (v := .bool true) (some 189) rfl rfl (by kernel_rfl) (by kernel_rfl) (by kernel_rfl) (fun _ _ _ h => h) rfl (fun X hX => ?_) sq2 ?_
              · simp [go_sem]
              simp only [Act.put, List.setIfInBounds_toArray, List.set_cons_zero, List.set_cons_succ]
              refine H_take (i := 6) (v := .bool true) (some 190) rfl rfl (by kernel_rfl) (by kernel_rfl) (by kernel_rfl) (fun _ _ _ h => h) rfl (fun X hX => ?_) sq2 ?_
              · simp [go_sem]
              simp only [Act.put, List.setIfInBounds_toArray, List.set_cons_zero, List.set_cons_succ]
              refine H_take (i := 7) (v := .bool true) (some 191) rfl rfl (by kernel_rfl) (by kernel_rfl) (by kernel_rfl) (fun _ _ _ h => h) rfl (fun X hX => ?_) sq2 ?_
              · simp [go_sem]
              simp only [Act.put, List.setIfInBounds_toArray, List.set_cons_zero, List.set_cons_succ]
              refine H_take (i := 8) (v := ptrV sb) (some 192) rfl rfl (by kernel_rfl) (by kernel_rfl) (by kernel_rfl) (fun _ _ _ h => h) rfl (fun X hX => ?_) sq2 ?_
              · simp [go_sem]
              simp only [Act.put, List.setIfInBounds_toArray, List.set_cons_zero, List.set_cons_succ]
              refine H_take (i := 10) (v := .slice av m cv) (some 194) rfl rfl (by kernel_rfl) (by kernel_rfl) (by kernel_rfl) (fun _ _ _ h => h) rfl (fun X hX => ?_) sq2 ?_
              · simp [go_sem]
              simp only [Act.put, List.setIfInBounds_toArray, List.set_cons_zero, List.set_cons_succ]
              refine H_take (i := 11) (v := .int .i64 m) (some 195) rfl rfl (by kernel_rfl) (by kernel_rfl) (by kernel_rfl) (fun _ _ _ h => h) rfl (fun X hX => ?_) sq2 ?_
              · simp [go_sem]
              simp only [Act.put, List.setIfInBounds_toArray, List.set_cons_zero, List.set_cons_succ]
              refine H_call (i := 9) (f := 14) (args := #[ptrV sb, .string ⟨#[100, 101, 102, 97, 117, 108, 116]⟩]) (some 193) rfl rfl (by kernel_rfl) rfl (by simp [go_sem]) ((CWG.out _ sq2).mono ?_)
              rintro e w9 ⟨rfl, b9⟩
              have sq3 : Below w7.heap.size w7 w9 := sq2.trans (b9.mono sq2.size)
              refine ⟨_, rfl, sq3, ?_⟩
              simp only [Act.put, List.setIfInBounds_toArray, List.set_cons_zero, List.set_cons_succ]
              refine H_take (i := 12) (v := .bool true) (some 196) rfl rfl (by kernel_rfl) (by kernel_rfl) (by kernel_rfl) (fun _ _ _ h => h) rfl (fun X hX => ?_) sq3 ?_
              · simp [go_sem]
              simp only [Act.put, List.setIfInBounds_toArray, List.set_cons_zero, List.set_cons_succ]
              refine H_take (i := 13) (v := .bool true) (some 197) rfl rfl (by kernel_rfl) (by kernel_rfl) (by kernel_rfl) (fun _ _ _ h => h) rfl (fun X hX => ?_) sq3 ?_
              · simp [go_sem]
              simp only [Act.put, List.setIfInBounds_toArray, List.set_cons_zero, List.set_cons_succ]
              refine H_take (i := 14) (v := .bool true) (some 198) rfl rfl (by kernel_rfl) (by kernel_rfl) (by kernel_rfl) (fun _ _ _ h => h) rfl (fun X hX => ?_) sq3 ?_
              · simp [go_sem]
              simp only [Act.put, List.setIfInBounds_toArray, List.set_cons_zero, List.set_cons_succ]
              refine H_take (i := 15) (v := .slice av m cv) (some 199) rfl rfl (by kernel_rfl) (by kernel_rfl) (by kernel_rfl) (fun _ _ _ h => h) rfl (fun X hX => ?_) sq3 ?_
              · simp [go_sem]
              simp only [Act.put, List.setIfInBounds_toArray, List.set_cons_zero, List.set_cons_succ]
              refine H_take (i := 16) (v := .int .i64 m) (some 200) rfl rfl (by kernel_rfl) (by kernel_rfl) (by kernel_rfl) (fun _ _ _ h => h) rfl (fun X hX => ?_) sq3 ?_
              · simp [go_sem]
              simp only [Act.put, List.setIfInBounds_toArray, List.set_cons_zero, List.set_cons_succ]
              refine H_take (i := 17) (v := .bool true) (some 201) rfl rfl (by kernel_rfl) (by kernel_rfl) (by kernel_rfl) (fun _ _ _ h => h) rfl (fun X hX => ?_) sq3 ?_
              · simp [go_sem, hmb]
              simp only [Act.put, List.setIfInBounds_toArray, List.set_cons_zero, List.set_cons_succ]
              refine H_take (i := 18) (v := .bool true) (some 202) rfl rfl (by kernel_rfl) (by kernel_rfl) (by kernel_rfl) (fun _ _ _ h => h) rfl (fun X hX => ?_) sq3 ?_
              · simp [go_sem]
              simp only [Act.put, List.setIfInBounds_toArray, List.set_cons_zero, List.set_cons_succ]
              refine H_pass (i := 19) (some 203) rfl rfl (by kernel_rfl) (by kernel_rfl) (by kernel_rfl) (fun _ _ _ h => h) rfl sq3 ?_
              simp only [Act.put, List.setIfInBounds_toArray, List.set_cons_zero, List.set_cons_succ]
              refine H_pass (i := 20) (some 204) rfl rfl (by kernel_rfl) (by kernel_rfl) (by kernel_rfl) (fun _ _ _ h => h) rfl sq3 ?_
              simp only [Act.put, List.setIfInBounds_toArray, List.set_cons_zero, List.set_cons_succ]
              refine H_pass (i := 21) (some 205) rfl rfl (by kernel_rfl) (by kernel_rfl) (by kernel_rfl) (fun _ _ _ h => h) rfl sq3 ?_
              simp only [Act.put, List.setIfInBounds_toArray, List.set_cons_zero, List.set_cons_succ]
              refine H_pass (i := 22) (some 206) rfl rfl (by kernel_rfl) (by kernel_rfl) (by kernel_rfl) (fun _ _ _ h => h) rfl sq3 ?_
              simp only [Act.put, List.setIfInBounds_toArray, List.set_cons_zero, List.set_cons_succ]
              refine H_pass (i := 23) (some 207) rfl rfl (by kernel_rfl) (by kernel_rfl) (by kernel_rfl) (fun _ _ _ h => h) rfl sq3 ?_
              simp only [Act.put, List.setIfInBounds_toArray, List.set_cons_zero, List.set_cons_succ]
              refine H_pass (i := 24) (some 208) rfl rfl (by kernel_rfl) (by kernel_rfl) (by kernel_rfl) (fun _ _ _ h => h) rfl sq3 ?_
              simp only [Act.put, List.setIfInBounds_toArray, List.set_cons_zero, List.set_cons_succ]
              refine H_take (i := 25) (v := .bool true) (some 209) rfl rfl (by kernel_rfl) (by kernel_rfl) (by kernel_rfl) (fun _ _ _ h => h) rfl (fun X hX => ?_) sq3 ?_
              · simp [go_sem]
              simp only [Act.put, List.setIfInBounds_toArray, List.set_cons_zero, List.set_cons_succ]
              refine H_take (i := 26) (v := .bool true) (some 210) rfl rfl (by kernel_rfl) (by kernel_rfl) (by kernel_rfl) (fun _ _ _ h => h) rfl (fun X hX => ?_) sq3 ?_
              · simp [go_sem]
              simp only [Act.put, List.setIfInBounds_toArray, List.set_cons_zero, List.set_cons_succ]
              refine H_take (i := 27) (v := .bool true) (some 6) rfl rfl (by kernel_rfl) (by kernel_rfl) (by kernel_rfl) (fun _ _ _ h => h) rfl (fun X hX => ?_) sq3 ?_
              · simp [go_sem]
              simp only [Act.put, List.setIfInBounds_toArray, List.set_cons_zero, List.set_cons_succ]
              refine wpAnyH_done (by kernel_rfl) ?_ _
              have B9 : Hid (Below w.heap.size w w9) := BW7.out.trans (sq3.mono BW7.out.size)
              go_wp2_with fail
              go_ret
              exact ⟨rfl, B9.out⟩
            · obtain ⟨n0v, hn0v⟩ : ∃ n, L2[0]? = some n := ⟨_, List.getElem?_eq_getElem (by rw [← HMM.out]; omega)⟩
              obtain ⟨g, rfl, cg⟩ := TN.out.2.2.cell hn0v
              have hgl : g < w7.heap.size := Nat.lt_of_lt_of_le (cell_lt cg) H7.out.size
              have hcg : w7.cell? ⟨g, 0, none⟩ = some (.int .i64 n0v) := (H7.out.cell (p := ⟨g, 0, none⟩) (cell_lt cg)).trans cg
              have CF2 : Hid (∀ X, Below w7.heap.size w7 X → Calls Try.prog 15 #[ptrV sb, .string ⟨#[100, 101, 102, 97, 117, 108, 116]⟩] X fun e w' => e = .returned (.int .i64 n0v) ∧ Below X.heap.size X w') := fun X hX => by
                have h1 := tFirst (T7.later hX) (by decide) ⟨#[100, 101, 102, 97, 117, 108, 116]⟩ (by decide)
                rw [show firstW S (⟨#[100, 101, 102, 97, 117, 108, 116]⟩ : ByteArray).data.toList = n0v from T7.firstDef hn0v] at h1
                exact h1
              have hm0 : (0 : Int) < (m : Int) := by omega
              have hmb : ((m : Int) == 0) = false := by simp; omega
              have sq : Below w7.heap.size w7 w7.drew := (Below.refl _ w7).drew
              clear hm T7 cg hn0v
              refine wp_region_held_drew (S := fun X => Below w7.heap.size w7 X) (by kernel_rfl) sq (fun _ => ?_)
              refine H_take (i := 0) (v := .bool true) (some 184) rfl rfl (by kernel_rfl) (by kernel_rfl) (by kernel_rfl) (fun _ _ _ h => h) rfl (fun X hX => ?_) sq ?_
              · simp [go_sem]
              simp only [Act.put, List.setIfInBounds_toArray, List.set_cons_zero, List.set_cons_succ]
              refine H_take (i := 1) (v := .bool true) (some 185) rfl rfl (by kernel_rfl) (by kernel_rfl) (by kernel_rfl) (fun _ _ _ h => h) rfl (fun X hX => ?_) sq ?_
              · simp [go_sem]
              simp only [Act.put, List.setIfInBounds_toArray, List.set_cons_zero, List.set_cons_succ]
              refine H_take (i := 2) (v := ptrV sb) (some 186) rfl rfl (by kernel_rfl) (by kernel_rfl) (by kernel_rfl) (fun _ _ _ h => h) rfl (fun X hX => ?_) sq ?_
              · simp [go_sem]
              simp only [Act.put, List.setIfInBounds_toArray, List.set_cons_zero, List.set_cons_succ]
              refine H_take (i := 4) (v := .int .i64 fz) (some 188) rfl rfl (by kernel_rfl) (by kernel_rfl) (by kernel_rfl) (fun _ _ _ h => h) rfl (fun X hX => ?_) sq ?_
              · simp [go_sem]
              simp only [Act.put, List.setIfInBounds_toArray, List.set_cons_zero, List.set_cons_succ]
              refine H_call (i := 3) (f := 15) (args := #[ptrV sb, .string ⟨#[120]⟩]) (some 187) rfl rfl (by kernel_rfl) rfl (by simp [go_sem]) ((CF1.out _ sq).mono ?_)
              rintro e w8 ⟨rfl, b8⟩
              have sq2 : Below w7.heap.size w7 w8 := sq.trans (b8.mono sq.size)
              refine ⟨_, rfl, sq2, ?_⟩
              simp only [Act.put, List.setIfInBounds_toArray, List.set_cons_zero, List.set_cons_succ]
              refine H_take (i := 5) (v := .bool true) (some 189) rfl rfl (by kernel_rfl) (by kernel_rfl) (by kernel_rfl) (fun _ _ _ h => h) rfl (fun X hX => ?_) sq2 ?_
              · simp [go_sem]
              simp only [Act.put, List.setIfInBounds_toArray, List.set_cons_zero, List.set_cons_succ]
              refine H_take (i := 6) (v := .bool true) (some 190) rfl rfl (by kernel_rfl) (by kernel_rfl) (by kernel_rfl) (fun _ _ _ h => h) rfl (fun X hX => ?_) sq2 ?_
              · simp [go_sem]
              simp only [Act.put, List.setIfInBounds_toArray, List.set_cons_zero, List.set_cons_succ]
              refine H_take (i := 7) (v := .bool true) (some 191) rfl rfl (by kernel_rfl) (by kernel_rfl) (by kernel_rfl) (fun _ _ _ h => h) rfl (fun X hX => ?_) sq2 ?_
              · simp [go_sem]
              simp only [Act.put, List.setIfInBounds_toArray, List.set_cons_zero, List.set_cons_succ]
              refine H_take (i := 8) (v := ptrV sb) (some 192) rfl rfl (by kernel_rfl) (by kernel_rfl) (by kernel_rfl) (fun _ _ _ h => h) rfl (fun X hX => ?_) sq2 ?_
              · simp [go_sem]
              simp only [Act.put, List.setIfInBounds_toArray, List.set_cons_zero, List.set_cons_succ]
              refine H_take (i := 10) (v := .slice (some ⟨g, 0, none⟩) m cv) (some 194) rfl rfl (by kernel_rfl) (by kernel_rfl) (by kernel_rfl) (fun _ _ _ h => h) rfl (fun X hX => ?_) sq2 ?_
              · simp [go_sem]
              simp only [Act.put, List.setIfInBounds_toArray, List.set_cons_zero, List.set_cons_succ]
              refine H_take (i := 11) (v := .int .i64 m) (some 195) rfl rfl (by kernel_rfl) (by kernel_rfl) (by kernel_rfl) (fun _ _ _ h => h) rfl (fun X hX => ?_) sq2 ?_
              · simp [go_sem]
              simp only [Act.put, List.setIfInBounds_toArray, List.set_cons_zero, List.set_cons_succ]
              refine H_call (i := 9) (f := 14) (args := #[ptrV sb, .string ⟨#[100, 101, 102, 97, 117, 108, 116]⟩]) (some 193) rfl rfl (by kernel_rfl) rfl (by simp [go_sem]) ((CWG.out _ sq2).mono ?_)
              rintro e w9 ⟨rfl, b9⟩
              have sq3 : Below w7.heap.size w7 w9 := sq2.trans (b9.mono sq2.size)
              refine ⟨_, rfl, sq3, ?_⟩
              simp only [Act.put, List.setIfInBounds_toArray, List.set_cons_zero, List.set_cons_succ]
              refine H_take (i := 12) (v := .bool true) (some 196) rfl rfl (by kernel_rfl) (by kernel_rfl) (by kernel_rfl) (fun _ _ _ h => h) rfl (fun X hX => ?_) sq3 ?_
              · simp [go_sem]
              simp only [Act.put, List.setIfInBounds_toArray, List.set_cons_zero, List.set_cons_succ]
              refine H_take (i := 13) (v := .bool true) (some 197) rfl rfl (by kernel_rfl) (by kernel_rfl) (by kernel_rfl) (fun _ _ _ h => h) rfl (fun X hX => ?_) sq3 ?_
              · simp [go_sem]
              simp only [Act.put, List.setIfInBounds_toArray, List.set_cons_zero, List.set_cons_succ]
              refine H_take (i := 14) (v := .bool true) (some 198) rfl rfl (by kernel_rfl) (by kernel_rfl) (by kernel_rfl) (fun _ _ _ h => h) rfl (fun X hX => ?_) sq3 ?_
              · simp [go_sem]
              simp only [Act.put, List.setIfInBounds_toArray, List.set_cons_zero, List.set_cons_succ]
              refine H_take (i := 15) (v := .slice (some ⟨g, 0, none⟩) m cv) (some 199) rfl rfl (by kernel_rfl) (by kernel_rfl) (by kernel_rfl) (fun _ _ _ h => h) rfl (fun X hX => ?_) sq3 ?_
              · simp [go_sem]
              simp only [Act.put, List.setIfInBounds_toArray, List.set_cons_zero, List.set_cons_succ]
              refine H_take (i := 16) (v := .int .i64 m) (some 200) rfl rfl (by kernel_rfl) (by kernel_rfl) (by kernel_rfl) (fun _ _ _ h => h) rfl (fun X hX => ?_) sq3 ?_
              · simp [go_sem]
              simp only [Act.put, List.setIfInBounds_toArray, List.set_cons_zero, List.set_cons_succ]
              refine H_take (i := 17) (v := .bool false) (some 201) rfl rfl (by kernel_rfl) (by kernel_rfl) (by kernel_rfl) (fun _ _ _ h => h) rfl (fun X hX => ?_) sq3 ?_
              · simp [go_sem, hmb]
              simp only [Act.put, List.setIfInBounds_toArray, List.set_cons_zero, List.set_cons_succ]
              refine H_take (i := 18) (v := .bool false) (some 202) rfl rfl (by kernel_rfl) (by kernel_rfl) (by kernel_rfl) (fun _ _ _ h => h) rfl (fun X hX => ?_) sq3 ?_
              · simp [go_sem]
              simp only [Act.put, List.setIfInBounds_toArray, List.set_cons_zero, List.set_cons_succ]
              refine H_take (i := 19) (v := ptrV sb) (some 203) rfl rfl (by kernel_rfl) (by kernel_rfl) (by kernel_rfl) (fun _ _ _ h => h) rfl (fun X hX => ?_) sq3 ?_
              · simp [go_sem]
              simp only [Act.put, List.setIfInBounds_toArray, List.set_cons_zero, List.set_cons_succ]
              refine H_take (i := 21) (v := .slice (some ⟨g, 0, none⟩) m cv) (some 205) rfl rfl (by kernel_rfl) (by kernel_rfl) (by kernel_rfl) (fun _ _ _ h => h) rfl (fun X hX => ?_) sq3 ?_
              · simp [go_sem]
              simp only [Act.put, List.setIfInBounds_toArray, List.set_cons_zero, List.set_cons_succ]
              refine H_take (i := 22) (v := .pointer (some ⟨g, 0, none⟩)) (some 206) rfl rfl (by kernel_rfl) (by kernel_rfl) (by kernel_rfl) (fun _ _ _ h => h) rfl (fun X hX => ?_) sq3 ?_
              · simp [go_sem]; intro h; omega
              simp only [Act.put, List.setIfInBounds_toArray, List.set_cons_zero, List.set_cons_succ]
              refine H_take (i := 23) (v := .int .i64 n0v) (some 207) rfl rfl (by kernel_rfl) (by kernel_rfl) (by kernel_rfl) (fun _ _ _ h => h) rfl (fun X hX => ?_) sq3 ?_
              · exact run_load1 rfl rfl Try.isAgg3 ((hX.cell (p := ⟨g, 0, none⟩) hgl).trans hcg)
              simp only [Act.put, List.setIfInBounds_toArray, List.set_cons_zero, List.set_cons_succ]
              refine H_call (i := 20) (f := 15) (args := #[ptrV sb, .string ⟨#[100, 101, 102, 97, 117, 108, 116]⟩]) (some 204) rfl rfl (by kernel_rfl) rfl (by simp [go_sem]) ((CF2.out _ sq3).mono ?_)
              rintro e w10 ⟨rfl, b10⟩
              have sq4 : Below w7.heap.size w7 w10 := sq3.trans (b10.mono sq3.size)
              refine ⟨_, rfl, sq4, ?_⟩
              simp only [Act.put, List.setIfInBounds_toArray, List.set_cons_zero, List.set_cons_succ]
              refine H_take (i := 24) (v := .bool true) (some 208) rfl rfl (by kernel_rfl) (by kernel_rfl) (by kernel_rfl) (fun _ _ _ h => h) rfl (fun X hX => ?_) sq4 ?_
              · simp [go_sem]
              simp only [Act.put, List.setIfInBounds_toArray, List.set_cons_zero, List.set_cons_succ]
              refine H_take (i := 25) (v := .bool true) (some 209) rfl rfl (by kernel_rfl) (by kernel_rfl) (by kernel_rfl) (fun _ _ _ h => h) rfl (fun X hX => ?_) sq4 ?_
              · simp [go_sem]
              simp only [Act.put, List.setIfInBounds_toArray, List.set_cons_zero, List.set_cons_succ]
              refine H_take (i := 26) (v := .bool true) (some 210) rfl rfl (by kernel_rfl) (by kernel_rfl) (by kernel_rfl) (fun _ _ _ h => h) rfl (fun X hX => ?_) sq4 ?_
              · simp [go_sem]
              simp only [Act.put, List.setIfInBounds_toArray, List.set_cons_zero, List.set_cons_succ]
              refine H_take (i := 27) (v := .bool true) (some 6) rfl rfl (by kernel_rfl) (by kernel_rfl) (by kernel_rfl) (fun _ _ _ h => h) rfl (fun X hX => ?_) sq4 ?_
              · simp [go_sem]
              simp only [Act.put, List.setIfInBounds_toArray, List.set_cons_zero, List.set_cons_succ]
              refine wpAnyH_done (by kernel_rfl) ?_ _
              have B9 : Hid (Below w.heap.size w w10) := BW7.out.trans (sq4.mono BW7.out.size)
              go_wp2_with fail
              go_ret
              exact ⟨rfl, B9.out⟩
          | succ e => as_aux_lemma =>
            have hj1 : j = (e : Int) := by omega
            subst hj1
            clear hj
            have he0 : (0 : Int) ≤ (e : Int) := by omega
            have hem : (e : Int) < (m : Int) := by omega
            obtain ⟨n, hn⟩ : ∃ n, L2[e]? = some n := ⟨_, List.getElem?_eq_getElem (by rw [← HMM.out]; omega)⟩
            obtain ⟨g, rfl, cn⟩ := HL3.out.1.row.cell hn
            have cn2 : wr.cell? ⟨g, e, none⟩ = some (.int .i64 n) := (HB.out.cell (p := ⟨g, e, none⟩) (cell_lt cn)).trans cn
            have hcv : m ≤ cv := by
              have h1 := HMM.out
              rcases HL3.out.1.row.2 with ⟨h0, _⟩ | ⟨g', cap, cur, hv, _, _, h2, _⟩
              · cases h0
              · simp only [Value.slice.injEq] at hv; omega
            have HN : Hid (L2[e]? = some n) := hn
            have CG : Hid (Calls Try.prog 10 #[ptrV sb, .int .i64 n] wr fun e w' => ∃ (us : ByteArray) (bw : Bool) (un : Int) (pu ta : Bool) (Ls : List Text) (gb cap : Nat), e = .returned (.tuple #[.agg #[.int .i64 n, .string us, .slice (some ⟨gb, 0, none⟩) Ls.length cap, .bool bw, .int .i64 un, .bool pu, .bool ta], .bool true]) ∧
              (Ls.length ≤ 900000000 ∧ Ls.length ≤ cap) ∧ (∀ (k : Nat) (x : Text), Ls[k]? = some x → w'.cell? ⟨gb, k, none⟩ = some (.string ⟨x.toArray⟩)) ∧ gb < w'.heap.size ∧ ([120] ∈ Ls ↔ seesN S [120] n = true) ∧ Below wr.heap.size wr w') := tGet (HL3.out.2.later HB.out) (by omega) (List.mem_of_getElem? hn) [120]
            clear cn hn
            go_upto_region 37 with (go_at_call 10; refine CG.out.mono ?_; rintro e' w6 ⟨us, bw, un, pu, ta, Ls, gb, cap, rfl, ⟨h1, h1'⟩, h2, h3, h4, h5⟩; obtain ⟨p, hp⟩ : ∃ p, p = Ls.length := ⟨_, rfl⟩; have HP : Hid (p = Ls.length) := hp; have hpl : p ≤ 900000000 := (by omega); have hpc : p ≤ cap := (by omega); rw [← hp]; have H6 : Hid ((∀ (k : Nat) (x : Text), Ls[k]? = some x → w6.cell? ⟨gb, k, none⟩ = some (.string ⟨x.toArray⟩)) ∧ gb < w6.heap.size ∧ ([120] ∈ Ls ↔ seesN S [120] n = true) ∧ Below wr.heap.size wr w6) := ⟨h2, h3, h4, h5⟩; clear h1 h1' h2 h3 h4 h5 hp)
            obtain ⟨wo, hwo⟩ : ∃ wo, wo = wr := ⟨_, rfl⟩
            subst hwo
            obtain ⟨w7, hw7⟩ : ∃ w7, w7 = w6.alloc (.cells #[.int .i64 n, .string us, .slice (some ⟨gb, 0, none⟩) p cap, .bool bw, .int .i64 un, .bool pu, .bool ta] 33) := ⟨_, rfl⟩
            have b7 : Below w6.heap.size w6 w7 := by rw [hw7]; exact (Below.refl _ w6).alloc (Nat.le_refl _) _
            have x7 : w7.heap[w6.heap.size]? = some (.cells #[.int .i64 n, .string us, .slice (some ⟨gb, 0, none⟩) p cap, .bool bw, .int .i64 un, .bool pu, .bool ta] 33 (0, 0)) := by rw [hw7]; exact heap_alloc_new w6 _
            have q2 : w7.cell? ⟨w6.heap.size, 2, none⟩ = some (.slice (some ⟨gb, 0, none⟩) p cap) := by simp [World.cell?, x7]
            have xlt : w6.heap.size < w7.heap.size := (Array.getElem?_eq_some_iff.1 x7).1
            have H7 : Hid ((∀ (k : Nat) (x : Text), Ls[k]? = some x → w7.cell? ⟨gb, k, none⟩ = some (.string ⟨x.toArray⟩)) ∧ gb < w7.heap.size ∧ ([120] ∈ Ls ↔ seesN S [120] n = true) ∧ Below wo.heap.size wo w7) := by
              obtain ⟨h2, h3, h4, h5⟩ := H6.out
              exact ⟨fun k x hx => (b7.cell (p := ⟨gb, k, none⟩) h3).trans (h2 k x hx), by have := b7.size; omega, h4, h5.trans (b7.mono h5.size)⟩
            have cn7 : w7.cell? ⟨g, e, none⟩ = some (.int .i64 n) := (H7.out.2.2.2.cell (p := ⟨g, e, none⟩) (cell_lt cn2)).trans cn2
            rw [← hw7]
            obtain ⟨xb, hxb⟩ : ∃ xb, xb = w6.heap.size := ⟨_, rfl⟩
            rw [← hxb]
            rw [← hxb] at q2 xlt
            clear hw7 b7 x7 hxb H6 cn2 CG
            go_upto_region 38 with fail
            go_loopw [18, 22] (fun f kk wx => ∃ (q : Nat) (fq : Int), f = .int .i64 fq ∧ kk = .int .i64 q ∧ q ≤ p ∧ Hid (fq = if [120] ∈ Ls.take q then n else fz) ∧ wx = w7) (fun _ kk _ => p - (intOf kk).toNat)
            case atStart => exact ⟨0, fz, rfl, rfl, Nat.zero_le _, by rw [List.take_zero, if_neg (by simp)]; exact rfl, rfl⟩
            case round =>
              obtain ⟨q, fq, rfl, rfl, hq, HQ, rfl⟩ := hrel
              by_cases hqp : q < p
              · as_aux_lemma =>
                  have hqI : (q : Int) < (p : Int) := by omega
                  have hq0 : (0 : Int) ≤ (q : Int) := by omega
                  obtain ⟨x, hx⟩ : ∃ x, Ls[q]? = some x := ⟨_, List.getElem?_eq_getElem (by rw [← HP.out]; exact hqp)⟩
                  have hxc := H7.out.1 q x hx
                  have hgl := H7.out.2.1
                  have HST : Hid ([120] ∈ Ls.take (q + 1) ↔ ([120] ∈ Ls.take q ∨ [120] = x)) := by rw [List.take_add_one, hx, Option.toList_some, List.mem_append, List.mem_singleton]; exact Iff.rfl
                  clear hx
                  by_cases hx1 : x = [120]
                  · subst hx1
                    go_wp2_with fail
                    exact ⟨⟨q + 1, n, rfl, by go_num, by omega, ((if_pos (HST.out.2 (Or.inr rfl))).symm : n = if [120] ∈ Ls.take (q + 1) then n else fz), by first | rfl | trivial⟩, by simp [intOf]; omega⟩
                  · have hxb : (x == [120]) = false := by simpa using hx1
                    go_wp2_with fail
                    refine ⟨⟨q + 1, fq, rfl, by go_num, by omega, (?_ : fq = if [120] ∈ Ls.take (q + 1) then n else fz), by first | rfl | trivial⟩, by simp [intOf]; omega⟩
                    have hcg : ([120] ∈ Ls.take q ∨ [120] = x) ↔ [120] ∈ Ls.take q := ⟨fun h => h.elim id (fun h => absurd h.symm hx1), .inl⟩
                    rw [HQ.out]
                    by_cases hm1 : [120] ∈ Ls.take q
                    · rw [if_pos hm1, if_pos ((HST.out.trans hcg).2 hm1)]
                    · rw [if_neg hm1, if_neg (fun h => hm1 ((HST.out.trans hcg).1 h))]
              · have hqI : ¬ (q : Int) < (p : Int) := by omega
                obtain rfl : q = p := by omega
                have hgl := H7.out.2.1
                go_wp2_with fail
                refine ⟨⟨e, fq, (e : Int) - 1, rfl, by go_num, rfl, by omega, (?_ : fq = firstL (seesN S [120]) (L2.drop e)), HB.out.trans (H7.out.2.2.2.mono HB.out.size)⟩, by simp [intOf]⟩
                rw [HQ.out, List.take_of_length_le (by rw [← HP.out]; exact Nat.le_refl _)]
                obtain ⟨hlt, hge⟩ := List.getElem?_eq_some_iff.1 HN.out
                have hdr : L2.drop e = n :: L2.drop (e + 1) := by rw [List.drop_eq_getElem_cons hlt, hge]
                rw [hdr]
                unfold firstL
                rw [List.find?_cons]
                by_cases hs : seesN S [120] n = true
                · rw [if_pos (H7.out.2.2.1.2 hs), hs]
                · have hs2 : seesN S [120] n = false := by simpa using hs
                  rw [if_neg (fun h => hs (H7.out.2.2.1.1 h)), hs2, HF.out]
                  rfl
end Go.Proofs.Ytogmobkkpmpdcaa.seatsTurns
