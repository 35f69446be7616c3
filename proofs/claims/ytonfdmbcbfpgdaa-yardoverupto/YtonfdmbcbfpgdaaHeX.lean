/-
  SinkM, DropM, TopCM, PopsCM.
-/
import Derived.Test.YtonfdmbcbfpgdaaRiseM
import Derived.Test.YtonfdmbcbfpgdaaSmX
namespace Go.Proofs.Ytonfdmbcbfpgdaa
open Go.RowKit

set_option maxHeartbeats 8000000 in
set_option maxRecDepth 1000000 in
theorem sinkM {f : FuncId} {rk : Int} {lt : Mk → Mk → Bool} {ok : Mk → Prop} {Fr : Nat → Prop} {St : Nat → World → Prop} (A : AskerM f rk lt ok Fr St)
    (w : World) (hb mb : Nat) (v : Value) (last : Int) (R : List (Int × Mk)) (p n : Nat) (h : HeapAtM w hb v mb f rk last R) (hp : p < R.length) (hst : St n w) (hok : ∀ r ∈ R, ok r.2) (hfr : ∀ k, Mine hb v mb k → ¬ Fr k) (hR : R.length ≤ 1073741824) :
    Calls Try.prog 106 #[.pointer (some ⟨hb, 0, none⟩), .int .i64 (p : Int)] w fun e w' => e = .returned (.tuple #[]) ∧
      HeapAtM w' hb v mb f rk last (sinkL lt R.length R p n).1 ∧ St (sinkL lt R.length R p n).2 w' ∧ Kept (fun k => Mine hb v mb k ∨ Fr k) w w' := by
  have HA : Hid (AskerM f rk lt ok Fr St) := A
  have HH : Hid (HeapAtM w hb v mb f rk last R) := h
  have HS : Hid (St n w) := hst
  have HO : Hid (∀ r ∈ R, ok r.2) := hok
  have HF : Hid (∀ k, Mine hb v mb k → ¬ Fr k) := hfr
  clear A h hst hok hfr
  go_enter Try.func106, Try.ntmps106
  go_wp2_with fail
  go_loopg [1] (R.length - p) (fun gk s1 wr => ∃ (pk nk : Nat) (Rk : List (Int × Mk)), s1 = .int .i64 (pk : Int) ∧ R.length - pk ≤ gk ∧ pk < R.length ∧ Hid (Rk.length = R.length) ∧ Hid (HeapAtM wr hb v mb f rk last Rk) ∧ Hid (St nk wr) ∧ Hid (Kept (fun k => Mine hb v mb k ∨ Fr k) w wr) ∧
    Hid (∀ r ∈ Rk, ok r.2) ∧ Hid (∃ fu, R.length - pk ≤ fu ∧ sinkL lt fu Rk pk nk = sinkL lt R.length R p n))
  case atStart => exact ⟨p, n, R, rfl, Nat.le_refl _, hp, rfl, HH, HS, Kept.refl _ _, HO, R.length, Nat.sub_le _ _, rfl⟩
  case round =>
    obtain ⟨pk, nk, Rk, rfl, hpg, hpk, HL, HK, HSk, HW, HOk, HE⟩ := hrel
    have hv : ∃ rb cap cur, v = .slice (some ⟨rb, 0, none⟩) R.length cap ∧ wr.heap[rb]? = some (.cells cur 105 (0, 0)) ∧ cur.toList.take (Rk.length * 5) = flatM Rk := by
      obtain ⟨rb, cap, cur, h1, h2, _, _, _, h3⟩ := HK.out.shape (List.getElem?_eq_getElem (show pk < Rk.length by rw [HL.out]; exact hpk))
      rw [HL.out] at h1
      exact ⟨rb, cap, cur, h1, h2, h3⟩
    obtain ⟨rb, cap, cur, rfl, hg, hcur⟩ := hv
    have wrk0 : wr.cell? ⟨hb, 0, none⟩ = some (.func (.func f) #[.int .i64 rk] #[]) := by simp [World.cell?, HK.out.box]
    have k1 : wr.cell? ⟨hb, 1, none⟩ = some (.slice (some ⟨rb, 0, none⟩) R.length cap) := by simp [World.cell?, HK.out.box]
    obtain ⟨q, hq⟩ : ∃ q, q = 2 * pk + 1 := ⟨_, rfl⟩
    obtain ⟨q2, hq2⟩ : ∃ q, q = 2 * pk + 2 := ⟨_, rfl⟩
    have HQ : Hid (q = 2 * pk + 1 ∧ q2 = 2 * pk + 2) := ⟨hq, hq2⟩
    have eq1 : 2 * (pk : Int) + 1 = (q : Int) := by omega
    have bq : (q2 : Int) ≤ 4294967296 := by omega
    have wq2 : IntKind.i64.wrap (q2 : Int) = (q2 : Int) := by rw [IntKind.wrap_i64]; omega
    have eq2 : (q : Int) + 1 = (q2 : Int) := by omega
    by_cases hA : R.length ≤ q
    · have t1 : (R.length : Int) ≤ (q : Int) := by omega
      clear hg hcur hq hq2
      go_wp2_with fail
      (try simp only [Exit.inBlock, Exit.then])
      refine bodyPost_ret (results_none rfl _ _ _) rfl ?_
      obtain ⟨fu, _, hfu⟩ := HE.out
      rw [sinkL_end (List.getElem?_eq_none (by rw [HL.out]; have := HQ.out; omega))] at hfu
      rw [← hfu]
      exact ⟨rfl, HK.out, HSk.out, HW.out⟩
    · have t1 : ¬ (R.length : Int) ≤ (q : Int) := by omega
      have i1 : (pk : Int) < (R.length : Int) := by omega
      have i2 : (q : Int) < (R.length : Int) := by omega
      obtain ⟨a, ha⟩ : ∃ a, Rk[pk]? = some a := ⟨_, List.getElem?_eq_getElem (show pk < Rk.length by rw [HL.out]; exact hpk)⟩
      obtain ⟨b, hb'⟩ : ∃ b, Rk[q]? = some b := ⟨_, List.getElem?_eq_getElem (show q < Rk.length by rw [HL.out]; omega)⟩
      have ca := row_cellM hg hcur ha
      have cb := row_cellM hg hcur hb'
      by_cases hB : R.length ≤ q2
      · have t2 : decide ((q2 : Int) < (R.length : Int)) = false := decide_eq_false (by omega)
        have t3 : decide (q2 < R.length) = false := decide_eq_false (by omega)
        have HAB : Hid (Rk[pk]? = some a ∧ Rk[q]? = some b ∧ Rk[q2]? = none) := ⟨ha, hb', List.getElem?_eq_none (by rw [HL.out]; exact hB)⟩
        have HOA : Hid (ok a.2 ∧ ok b.2 ∧ True) := ⟨HOk.out a (List.mem_of_getElem? ha), HOk.out b (List.mem_of_getElem? hb'), trivial⟩
        obtain ⟨a1, a2⟩ := a
        obtain ⟨b1, b2⟩ := b
        have ca0 := ca 0 _ rfl
        have cb0 := cb 0 _ rfl
        have ca1 := ca 1 _ rfl
        have cb1 := cb 1 _ rfl
        have ca2 := ca 2 _ rfl; have cb2 := cb 2 _ rfl; have ca3 := ca 3 _ rfl; have cb3 := cb 3 _ rfl; have ca4 := ca 4 _ rfl; have cb4 := cb 4 _ rfl
        simp only [Nat.add_zero] at ca0 cb0
        clear ca cb ha hb' hg hcur hq hq2
        go_wp2_with fail
        go_quiet (fail)
        generalize hwq : wr.drewN _ = wq
        have hkd : Kept (fun _ => False) wr wq := by rw [← hwq]; exact ⟨rfl, rfl, rfl, Nat.le_refl _, fun _ _ _ => rfl⟩
        have wqk0 := hkd.cell (fun h => h) wrk0
        have qk1 := hkd.cell (fun h => h) k1
        have qa0 := hkd.cell (fun h => h) ca0
        have qb0 := hkd.cell (fun h => h) cb0
        have qa1 := hkd.cell (fun h => h) ca1
        have qb1 := hkd.cell (fun h => h) cb1
        have qa2 := hkd.cell (fun h => h) ca2
        have qb2 := hkd.cell (fun h => h) cb2
        have qa3 := hkd.cell (fun h => h) ca3
        have qb3 := hkd.cell (fun h => h) cb3
        have qa4 := hkd.cell (fun h => h) ca4
        have qb4 := hkd.cell (fun h => h) cb4
        have HKQ : Hid (HeapAtM wq hb (.slice (some ⟨rb, 0, none⟩) R.length cap) mb f rk last Rk ∧ Kept (fun k => Mine hb (.slice (some ⟨rb, 0, none⟩) R.length cap) mb k ∨ Fr k) w wq) := by
          rw [← hwq]
          exact ⟨HK.out.kept (P := fun _ => False) ⟨rfl, rfl, rfl, Nat.le_refl _, fun _ _ _ => rfl⟩ (fun _ _ h => h), HW.out.trans ⟨rfl, rfl, rfl, Nat.le_refl _, fun _ _ _ => rfl⟩⟩
        have HSQ : Hid (St nk wq) := by rw [← hwq]; exact HA.out.keep _ wr _ HSk.out (Nat.le_refl _) (fun _ _ _ => rfl)
        clear hkd hwq wrk0 k1 ca0 cb0 ca1 cb1 ca2 cb2 ca3 cb3 ca4 cb4
        go_wp2_with fail
        refine wp_tail 15 mixed (by kernel_rfl) ?_
        simp only [List.take_succ_cons, List.take_zero, List.drop_succ_cons, List.drop_zero]
        repeat still_step
        refine wpStill_nil ?_
        go_wp2_with fail
        cases hr2 : rankB lt (b1, b2) (a1, a2) with
        | false =>
          have HC := aheadM HA.out wq.drew hb (nk) (b1, b2) (a1, a2) (HA.out.keep _ wq _ HSQ.out (Nat.le_refl _) (fun _ _ _ => rfl)) wqk0 HOA.out.2.1 HOA.out.1
          rw [hr2] at HC
          refine HC.mono ?_
          rintro e w3 ⟨rfl, hs3, hk3⟩
          have H3 : Hid (HeapAtM w3 hb (.slice (some ⟨rb, 0, none⟩) R.length cap) mb f rk last Rk ∧ St (nk + 1) w3 ∧ Kept (fun k => Mine hb (.slice (some ⟨rb, 0, none⟩) R.length cap) mb k ∨ Fr k) w w3) :=
            ⟨HKQ.out.1.kept (kept_of_drew hk3) HF.out, hs3, HKQ.out.2.step (kept_of_drew hk3) (fun _ _ h => .inr h)⟩
          have HR2 : Hid (rankB lt (b1, b2) (a1, a2) = false) := hr2
          clear hs3 hk3 hr2
          go_wp2_with fail
          (try simp only [Exit.inBlock, Exit.then])
          refine bodyPost_ret (results_none rfl _ _ _) rfl ?_
          obtain ⟨fu, hfl, hfu⟩ := HE.out
          rw [sinkL_one_no (by omega) HAB.out.1 (HQ.out.1 ▸ HAB.out.2.1) (HQ.out.2 ▸ HAB.out.2.2) HR2.out] at hfu
          rw [← hfu]
          exact ⟨rfl, H3.out⟩
        | true =>
          have HC := aheadM HA.out wq.drew hb (nk) (b1, b2) (a1, a2) (HA.out.keep _ wq _ HSQ.out (Nat.le_refl _) (fun _ _ _ => rfl)) wqk0 HOA.out.2.1 HOA.out.1
          rw [hr2] at HC
          refine HC.mono ?_
          rintro e w3 ⟨rfl, hs3, hk3⟩
          have HK3 : Hid (HeapAtM w3 hb (.slice (some ⟨rb, 0, none⟩) R.length cap) mb f rk last Rk) := HKQ.out.1.kept (kept_of_drew hk3) HF.out
          have H3 : Hid (St (nk + 1) w3 ∧ Kept (fun k => Mine hb (.slice (some ⟨rb, 0, none⟩) R.length cap) mb k ∨ Fr k) w w3) := ⟨hs3, HKQ.out.2.step (kept_of_drew hk3) (fun _ _ h => .inr h)⟩
          have HR2 : Hid (rankB lt (b1, b2) (a1, a2) = true) := hr2
          clear hs3 hk3 hr2
          go_wp2_with fail
          refine (swapM w3 hb mb _ f rk last Rk pk q (a1, a2) (b1, b2) HK3.out HAB.out.1 HAB.out.2.1 (by rw [HL.out]; exact hR)).mono ?_
          rintro e w4 ⟨rfl, hh4, hk4⟩
          have HK4 : Hid (HeapAtM w4 hb (.slice (some ⟨rb, 0, none⟩) R.length cap) mb f rk last (swapL Rk pk q)) := hh4
          have HS4 : Hid (St (nk + 1) w4) := HA.out.keep _ w3 w4 H3.out.1 hk4.size (fun k hk hF => hk4.block k hk (fun hM => HF.out k hM hF))
          have HW4 : Hid (Kept (fun k => Mine hb (.slice (some ⟨rb, 0, none⟩) R.length cap) mb k ∨ Fr k) w w4) := H3.out.2.step hk4 (fun _ _ h => .inl h)
          clear hh4 hk4
          go_wp2_with fail
          go_roundg (R.length - q)
          case measure => have := HQ.out; omega
          case rel =>
            obtain ⟨fu, hfl, hfu⟩ := HE.out
            have hq := HQ.out
            refine ⟨q, nk + 1, swapL Rk pk q, rfl, Nat.le_refl _, by omega, (show _ = _ by rw [swapL_length]; exact HL.out), HK4, HS4, HW4, fun r hr => HOk.out r (mem_swapL hr), fu - 1, by omega, ?_⟩
            rw [← hfu, sinkL_one_go (by omega) HAB.out.1 (HQ.out.1 ▸ HAB.out.2.1) (HQ.out.2 ▸ HAB.out.2.2) HR2.out]
            rw [← hq.1]
      · have i3 : (q2 : Int) < (R.length : Int) := by omega
        obtain ⟨c, hc⟩ : ∃ c, Rk[q2]? = some c := ⟨_, List.getElem?_eq_getElem (show q2 < Rk.length by rw [HL.out]; omega)⟩
        have cc := row_cellM hg hcur hc
        have HAB : Hid (Rk[pk]? = some a ∧ Rk[q]? = some b ∧ Rk[q2]? = some c) := ⟨ha, hb', hc⟩
        have HOA : Hid (ok a.2 ∧ ok b.2 ∧ ok c.2) := ⟨HOk.out a (List.mem_of_getElem? ha), HOk.out b (List.mem_of_getElem? hb'), HOk.out c (List.mem_of_getElem? hc)⟩
        obtain ⟨a1, a2⟩ := a
        obtain ⟨b1, b2⟩ := b
        obtain ⟨c1, c2⟩ := c
        have ca0 := ca 0 _ rfl
        have cb0 := cb 0 _ rfl
        have cc0 := cc 0 _ rfl
        have ca1 := ca 1 _ rfl
        have cb1 := cb 1 _ rfl
        have cc1 := cc 1 _ rfl
        have ca2 := ca 2 _ rfl; have cb2 := cb 2 _ rfl; have ca3 := ca 3 _ rfl; have cb3 := cb 3 _ rfl; have ca4 := ca 4 _ rfl; have cb4 := cb 4 _ rfl
        have cc2 := cc 2 _ rfl; have cc3 := cc 3 _ rfl; have cc4 := cc 4 _ rfl
        simp only [Nat.add_zero] at ca0 cb0 cc0
        clear ca cb cc ha hb' hc hg hcur hq hq2
        go_wp2_with fail
        refine wp_tail 25 mixed (by kernel_rfl) ?_
        simp only [List.take_succ_cons, List.take_zero, List.drop_succ_cons, List.drop_zero]
        repeat still_step
        refine wpStill_nil ?_
        go_wp2_with fail
        cases hr1 : rankB lt (c1, c2) (b1, b2) with
        | false =>
          have HC := aheadM HA.out wr.drew hb nk (c1, c2) (b1, b2) (HA.out.keep nk wr _ HSk.out (Nat.le_refl _) (fun _ _ _ => rfl)) wrk0 HOA.out.2.2 HOA.out.2.1
          rw [hr1] at HC
          refine HC.mono ?_
          rintro e wq ⟨rfl, hs1, hk1⟩
          have HKQ : Hid (HeapAtM wq hb (.slice (some ⟨rb, 0, none⟩) R.length cap) mb f rk last Rk ∧ Kept (fun k => Mine hb (.slice (some ⟨rb, 0, none⟩) R.length cap) mb k ∨ Fr k) w wq) :=
            ⟨HK.out.kept (kept_of_drew hk1) HF.out, HW.out.step (kept_of_drew hk1) (fun _ _ h => .inr h)⟩
          have HSQ : Hid (St (nk + 1) wq) := hs1
          have HR1 : Hid (rankB lt (c1, c2) (b1, b2) = false) := hr1
          have hnr : ¬ Fr rb := HF.out rb (.inr (.inl rfl))
          have hnh : ¬ Fr hb := HF.out hb (.inl rfl)
          have hkd := kept_of_drew hk1
          have wqk0 := hkd.cell hnh wrk0
          have qk1 := hkd.cell hnh k1
          have qa0 := hkd.cell hnr ca0
          have qb0 := hkd.cell hnr cb0
          have qc0 := hkd.cell hnr cc0
          have qa1 := hkd.cell hnr ca1
          have qb1 := hkd.cell hnr cb1
          have qc1 := hkd.cell hnr cc1
          have qa2 := hkd.cell hnr ca2
          have qb2 := hkd.cell hnr cb2
          have qc2 := hkd.cell hnr cc2
          have qa3 := hkd.cell hnr ca3
          have qb3 := hkd.cell hnr cb3
          have qc3 := hkd.cell hnr cc3
          have qa4 := hkd.cell hnr ca4
          have qb4 := hkd.cell hnr cb4
          have qc4 := hkd.cell hnr cc4
          clear hs1 hk1 hr1 hkd hnr hnh wrk0 k1 ca0 cb0 cc0 ca1 cb1 cc1 ca2 cb2 cc2 ca3 cb3 cc3 ca4 cb4 cc4
          go_wp2_with fail
          refine wp_tail 15 mixed (by kernel_rfl) ?_
          simp only [List.take_succ_cons, List.take_zero, List.drop_succ_cons, List.drop_zero]
          repeat still_step
          refine wpStill_nil ?_
          go_wp2_with fail
          cases hr2 : rankB lt (b1, b2) (a1, a2) with
          | false =>
            have HC := aheadM HA.out wq.drew hb (nk + 1) (b1, b2) (a1, a2) (HA.out.keep _ wq _ HSQ.out (Nat.le_refl _) (fun _ _ _ => rfl)) wqk0 HOA.out.2.1 HOA.out.1
            rw [hr2] at HC
            refine HC.mono ?_
            rintro e w3 ⟨rfl, hs3, hk3⟩
            have H3 : Hid (HeapAtM w3 hb (.slice (some ⟨rb, 0, none⟩) R.length cap) mb f rk last Rk ∧ St (nk + 1 + 1) w3 ∧ Kept (fun k => Mine hb (.slice (some ⟨rb, 0, none⟩) R.length cap) mb k ∨ Fr k) w w3) :=
              ⟨HKQ.out.1.kept (kept_of_drew hk3) HF.out, hs3, HKQ.out.2.step (kept_of_drew hk3) (fun _ _ h => .inr h)⟩
            have HR2 : Hid (rankB lt (b1, b2) (a1, a2) = false) := hr2
            clear hs3 hk3 hr2
            go_wp2_with fail
            (try simp only [Exit.inBlock, Exit.then])
            refine bodyPost_ret (results_none rfl _ _ _) rfl ?_
            obtain ⟨fu, hfl, hfu⟩ := HE.out
            rw [sinkL_b_no (by omega) HAB.out.1 (HQ.out.1 ▸ HAB.out.2.1) (HQ.out.2 ▸ HAB.out.2.2) HR1.out HR2.out] at hfu
            rw [← hfu]
            exact ⟨rfl, H3.out⟩
          | true =>
            have HC := aheadM HA.out wq.drew hb (nk + 1) (b1, b2) (a1, a2) (HA.out.keep _ wq _ HSQ.out (Nat.le_refl _) (fun _ _ _ => rfl)) wqk0 HOA.out.2.1 HOA.out.1
            rw [hr2] at HC
            refine HC.mono ?_
            rintro e w3 ⟨rfl, hs3, hk3⟩
            have HK3 : Hid (HeapAtM w3 hb (.slice (some ⟨rb, 0, none⟩) R.length cap) mb f rk last Rk) := HKQ.out.1.kept (kept_of_drew hk3) HF.out
            have H3 : Hid (St (nk + 1 + 1) w3 ∧ Kept (fun k => Mine hb (.slice (some ⟨rb, 0, none⟩) R.length cap) mb k ∨ Fr k) w w3) := ⟨hs3, HKQ.out.2.step (kept_of_drew hk3) (fun _ _ h => .inr h)⟩
            have HR2 : Hid (rankB lt (b1, b2) (a1, a2) = true) := hr2
            clear hs3 hk3 hr2
            go_wp2_with fail
            refine (swapM w3 hb mb _ f rk last Rk pk q (a1, a2) (b1, b2) HK3.out HAB.out.1 HAB.out.2.1 (by rw [HL.out]; exact hR)).mono ?_
            rintro e w4 ⟨rfl, hh4, hk4⟩
            have HK4 : Hid (HeapAtM w4 hb (.slice (some ⟨rb, 0, none⟩) R.length cap) mb f rk last (swapL Rk pk q)) := hh4
            have HS4 : Hid (St (nk + 1 + 1) w4) := HA.out.keep _ w3 w4 H3.out.1 hk4.size (fun k hk hF => hk4.block k hk (fun hM => HF.out k hM hF))
            have HW4 : Hid (Kept (fun k => Mine hb (.slice (some ⟨rb, 0, none⟩) R.length cap) mb k ∨ Fr k) w w4) := H3.out.2.step hk4 (fun _ _ h => .inl h)
            clear hh4 hk4
            go_wp2_with fail
            go_roundg (R.length - q)
            case measure => have := HQ.out; omega
            case rel =>
              obtain ⟨fu, hfl, hfu⟩ := HE.out
              have hq := HQ.out
              refine ⟨q, nk + 1 + 1, swapL Rk pk q, rfl, Nat.le_refl _, by omega, (show _ = _ by rw [swapL_length]; exact HL.out), HK4, HS4, HW4, fun r hr => HOk.out r (mem_swapL hr), fu - 1, by omega, ?_⟩
              rw [← hfu, sinkL_b_go (by omega) HAB.out.1 (HQ.out.1 ▸ HAB.out.2.1) (HQ.out.2 ▸ HAB.out.2.2) HR1.out HR2.out]
              rw [← hq.1]
        | true =>
          have HC := aheadM HA.out wr.drew hb nk (c1, c2) (b1, b2) (HA.out.keep nk wr _ HSk.out (Nat.le_refl _) (fun _ _ _ => rfl)) wrk0 HOA.out.2.2 HOA.out.2.1
          rw [hr1] at HC
          refine HC.mono ?_
          rintro e wq ⟨rfl, hs1, hk1⟩
          have HKQ : Hid (HeapAtM wq hb (.slice (some ⟨rb, 0, none⟩) R.length cap) mb f rk last Rk ∧ Kept (fun k => Mine hb (.slice (some ⟨rb, 0, none⟩) R.length cap) mb k ∨ Fr k) w wq) :=
            ⟨HK.out.kept (kept_of_drew hk1) HF.out, HW.out.step (kept_of_drew hk1) (fun _ _ h => .inr h)⟩
          have HSQ : Hid (St (nk + 1) wq) := hs1
          have HR1 : Hid (rankB lt (c1, c2) (b1, b2) = true) := hr1
          have hnr : ¬ Fr rb := HF.out rb (.inr (.inl rfl))
          have hnh : ¬ Fr hb := HF.out hb (.inl rfl)
          have hkd := kept_of_drew hk1
          have wqk0 := hkd.cell hnh wrk0
          have qk1 := hkd.cell hnh k1
          have qa0 := hkd.cell hnr ca0
          have qb0 := hkd.cell hnr cb0
          have qc0 := hkd.cell hnr cc0
          have qa1 := hkd.cell hnr ca1
          have qb1 := hkd.cell hnr cb1
          have qc1 := hkd.cell hnr cc1
          have qa2 := hkd.cell hnr ca2
          have qb2 := hkd.cell hnr cb2
          have qc2 := hkd.cell hnr cc2
          have qa3 := hkd.cell hnr ca3
          have qb3 := hkd.cell hnr cb3
          have qc3 := hkd.cell hnr cc3
          have qa4 := hkd.cell hnr ca4
          have qb4 := hkd.cell hnr cb4
          have qc4 := hkd.cell hnr cc4
          clear hs1 hk1 hr1 hkd hnr hnh wrk0 k1 ca0 cb0 cc0 ca1 cb1 cc1 ca2 cb2 cc2 ca3 cb3 cc3 ca4 cb4 cc4
          go_wp2_with fail
          refine wp_tail 15 mixed (by kernel_rfl) ?_
          simp only [List.take_succ_cons, List.take_zero, List.drop_succ_cons, List.drop_zero]
          repeat still_step
          refine wpStill_nil ?_
          go_wp2_with fail
          cases hr2 : rankB lt (c1, c2) (a1, a2) with
          | false =>
            have HC := aheadM HA.out wq.drew hb (nk + 1) (c1, c2) (a1, a2) (HA.out.keep _ wq _ HSQ.out (Nat.le_refl _) (fun _ _ _ => rfl)) wqk0 HOA.out.2.2 HOA.out.1
            rw [hr2] at HC
            refine HC.mono ?_
            rintro e w3 ⟨rfl, hs3, hk3⟩
            have H3 : Hid (HeapAtM w3 hb (.slice (some ⟨rb, 0, none⟩) R.length cap) mb f rk last Rk ∧ St (nk + 1 + 1) w3 ∧ Kept (fun k => Mine hb (.slice (some ⟨rb, 0, none⟩) R.length cap) mb k ∨ Fr k) w w3) :=
              ⟨HKQ.out.1.kept (kept_of_drew hk3) HF.out, hs3, HKQ.out.2.step (kept_of_drew hk3) (fun _ _ h => .inr h)⟩
            have HR2 : Hid (rankB lt (c1, c2) (a1, a2) = false) := hr2
            clear hs3 hk3 hr2
            go_wp2_with fail
            (try simp only [Exit.inBlock, Exit.then])
            refine bodyPost_ret (results_none rfl _ _ _) rfl ?_
            obtain ⟨fu, hfl, hfu⟩ := HE.out
            rw [sinkL_c_no (by omega) HAB.out.1 (HQ.out.1 ▸ HAB.out.2.1) (HQ.out.2 ▸ HAB.out.2.2) HR1.out HR2.out] at hfu
            rw [← hfu]
            exact ⟨rfl, H3.out⟩
          | true =>
            have HC := aheadM HA.out wq.drew hb (nk + 1) (c1, c2) (a1, a2) (HA.out.keep _ wq _ HSQ.out (Nat.le_refl _) (fun _ _ _ => rfl)) wqk0 HOA.out.2.2 HOA.out.1
            rw [hr2] at HC
            refine HC.mono ?_
            rintro e w3 ⟨rfl, hs3, hk3⟩
            have HK3 : Hid (HeapAtM w3 hb (.slice (some ⟨rb, 0, none⟩) R.length cap) mb f rk last Rk) := HKQ.out.1.kept (kept_of_drew hk3) HF.out
            have H3 : Hid (St (nk + 1 + 1) w3 ∧ Kept (fun k => Mine hb (.slice (some ⟨rb, 0, none⟩) R.length cap) mb k ∨ Fr k) w w3) := ⟨hs3, HKQ.out.2.step (kept_of_drew hk3) (fun _ _ h => .inr h)⟩
            have HR2 : Hid (rankB lt (c1, c2) (a1, a2) = true) := hr2
            clear hs3 hk3 hr2
            go_wp2_with fail
            refine (swapM w3 hb mb _ f rk last Rk pk q2 (a1, a2) (c1, c2) HK3.out HAB.out.1 HAB.out.2.2 (by rw [HL.out]; exact hR)).mono ?_
            rintro e w4 ⟨rfl, hh4, hk4⟩
            have HK4 : Hid (HeapAtM w4 hb (.slice (some ⟨rb, 0, none⟩) R.length cap) mb f rk last (swapL Rk pk q2)) := hh4
            have HS4 : Hid (St (nk + 1 + 1) w4) := HA.out.keep _ w3 w4 H3.out.1 hk4.size (fun k hk hF => hk4.block k hk (fun hM => HF.out k hM hF))
            have HW4 : Hid (Kept (fun k => Mine hb (.slice (some ⟨rb, 0, none⟩) R.length cap) mb k ∨ Fr k) w w4) := H3.out.2.step hk4 (fun _ _ h => .inl h)
            clear hh4 hk4
            go_wp2_with fail
            go_roundg (R.length - q2)
            case measure => have := HQ.out; omega
            case rel =>
              obtain ⟨fu, hfl, hfu⟩ := HE.out
              have hq := HQ.out
              refine ⟨q2, nk + 1 + 1, swapL Rk pk q2, rfl, Nat.le_refl _, by omega, (show _ = _ by rw [swapL_length]; exact HL.out), HK4, HS4, HW4, fun r hr => HOk.out r (mem_swapL hr), fu - 1, by omega, ?_⟩
              rw [← hfu, sinkL_c_go (by omega) HAB.out.1 (HQ.out.1 ▸ HAB.out.2.1) (HQ.out.2 ▸ HAB.out.2.2) HR1.out HR2.out]
              rw [← hq.2]
end Go.Proofs.Ytonfdmbcbfpgdaa

namespace Go.Proofs.Ytonfdmbcbfpgdaa
open Go.RowKit

set_option maxHeartbeats 4000000 in
set_option maxRecDepth 1000000 in
theorem settleM {f : FuncId} {rk : Int} {lt : Mk → Mk → Bool} {ok : Mk → Prop} {Fr : Nat → Prop} {St : Nat → World → Prop} (A : AskerM f rk lt ok Fr St)
    (w : World) (hb mb : Nat) (v : Value) (last : Int) (R : List (Int × Mk)) (p n : Nat) (h : HeapAtM w hb v mb f rk last R) (hp : p < R.length) (hst : St n w) (hok : ∀ r ∈ R, ok r.2) (hfr : ∀ k, Mine hb v mb k → ¬ Fr k) (hR : R.length ≤ 1073741824) :
    Calls Try.prog 96 #[.pointer (some ⟨hb, 0, none⟩), .int .i64 (p : Int)] w fun e w' => e = .returned (.tuple #[]) ∧
      HeapAtM w' hb v mb f rk last (settleL lt R p n).1 ∧ St (settleL lt R p n).2 w' ∧ Kept (fun k => Mine hb v mb k ∨ Fr k) w w' := by
  have HA : Hid (AskerM f rk lt ok Fr St) := A
  have HO : Hid (∀ r ∈ R, ok r.2) := hok
  have HF : Hid (∀ k, Mine hb v mb k → ¬ Fr k) := hfr
  have HC := riseM A w hb mb v last R p n h hp hst hok hfr hR
  clear A h hst hok hfr
  by_cases hd : (riseL lt p R p n).2.1 ≠ p
  · rw [decide_eq_true hd] at HC
    have HCH : Hid (Calls Try.prog 69 #[.pointer (some ⟨hb, 0, none⟩), .int .i64 (p : Int)] w _) := HC
    clear HC
    go_enter Try.func96, Try.ntmps96
    go_wp2_with fail
    refine HCH.out.mono ?_
    rintro e w1 ⟨rfl, h1, s1, k1⟩
    have H1 : Hid (HeapAtM w1 hb v mb f rk last (settleL lt R p n).1 ∧ St (settleL lt R p n).2 w1 ∧ Kept (fun k => Mine hb v mb k ∨ Fr k) w w1) := by
      unfold settleL
      rw [if_pos hd]
      exact ⟨h1, s1, k1⟩
    clear h1 s1 k1
    go_wp2_with fail
    go_end0
    exact ⟨rfl, H1.out⟩
  · rw [decide_eq_false hd] at HC
    have HCH : Hid (Calls Try.prog 69 #[.pointer (some ⟨hb, 0, none⟩), .int .i64 (p : Int)] w _) := HC
    have HL : Hid ((riseL lt p R p n).1.length = R.length) := riseL_length lt p R p n
    clear HC
    go_enter Try.func96, Try.ntmps96
    go_wp2_with fail
    refine HCH.out.mono ?_
    rintro e w1 ⟨rfl, h1, s1, k1⟩
    have H1 : Hid (HeapAtM w1 hb v mb f rk last (riseL lt p R p n).1 ∧ St (riseL lt p R p n).2.2 w1 ∧ Kept (fun k => Mine hb v mb k ∨ Fr k) w w1) := ⟨h1, s1, k1⟩
    clear h1 s1 k1
    go_wp2_with fail
    refine (sinkM HA.out w1 hb mb v last (riseL lt p R p n).1 p (riseL lt p R p n).2.2 H1.out.1 (by rw [HL.out]; exact hp) H1.out.2.1 (fun r hr => HO.out r (mem_riseL _ _ _ _ hr)) HF.out (by rw [HL.out]; exact hR)).mono ?_
    rintro e w2 ⟨rfl, h2, s2, k2⟩
    rw [HL.out] at h2 s2
    have H2 : Hid (HeapAtM w2 hb v mb f rk last (settleL lt R p n).1 ∧ St (settleL lt R p n).2 w2 ∧ Kept (fun k => Mine hb v mb k ∨ Fr k) w w2) := by
      unfold settleL
      rw [if_neg hd]
      exact ⟨h2, s2, H1.out.2.2.trans k2⟩
    clear h2 s2 k2
    go_wp2_with fail
    go_end0
    exact ⟨rfl, H2.out⟩

theorem flatM_take (R : List (Int × Mk)) (k : Nat) (hk : k ≤ R.length) : (flatM R).take (k * 5) = flatM (R.take k) := by
  have h1 : flatM R = flatM (R.take k) ++ flatM (R.drop k) := by rw [← flatM_append, List.take_append_drop]
  have h2 : (flatM (R.take k)).length = k * 5 := by rw [flatM_length, List.length_take, Nat.min_eq_left hk]
  rw [h1, ← h2, List.take_left]

theorem cutM {w1 w2 : World} {hb mb rb cap e : Nat} {f : FuncId} {rk : Int} {last : Int} {R1 : List (Int × Mk)} {g : Int → Option Int} (h : HeapAtM w1 hb (.slice (some ⟨rb, 0, none⟩) R1.length cap) mb f rk last R1) (hl : R1.length = e + 1) (hg : w1.grownBy w2 (some mb))
    (ht : Tab w2 mb e g) (hs : Sits g (R1.take e)) (z : Int × Mk) :
    HeapAtM ((putM w2 rb e z).setCell ⟨hb, 1, none⟩ (.slice (some ⟨rb, 0, none⟩) e cap)) hb (.slice (some ⟨rb, 0, none⟩) e cap) mb f rk last (R1.take e) ∧ Kept (Mine hb (.slice (some ⟨rb, 0, none⟩) R1.length cap) mb) w1 ((putM w2 rb e z).setCell ⟨hb, 1, none⟩ (.slice (some ⟨rb, 0, none⟩) e cap)) ∧
      w2.cell? ⟨hb, 1, none⟩ = some (.slice (some ⟨rb, 0, none⟩) R1.length cap) ∧ (∀ k, w2.frozen? ⟨rb, k, none⟩ = false) ∧ w2.frozen? ⟨hb, 1, none⟩ = false ∧ hb ≠ rb ∧ (∀ k u, w1.cell? ⟨rb, k, none⟩ = some u → w2.cell? ⟨rb, k, none⟩ = some u) := by
  obtain ⟨r, hr⟩ : ∃ r, R1[e]? = some r := ⟨_, List.getElem?_eq_getElem (by omega)⟩
  obtain ⟨rb', cap', cur, hv, hcell, h1, h2, h3, h4⟩ := h.shape hr
  simp only [Value.slice.injEq, Option.some.injEq, Addr.mk.injEq] at hv
  obtain ⟨⟨rfl, _⟩, _, rfl⟩ := hv
  obtain ⟨box, _, ⟨g1, ht1, _⟩, fit⟩ := h
  obtain ⟨es, clock, hmap⟩ := ht1.map
  have hhr : hb ≠ rb := fun e => by subst e; rw [box] at hcell; simp at hcell
  have hmr : mb ≠ rb := fun e => by subst e; rw [hmap] at hcell; simp at hcell
  have hmh : mb ≠ hb := fun e => by subst e; rw [hmap] at box; simp at box
  have box2 := (hg.block hb (Array.getElem?_eq_some_iff.1 box).1 (fun e => hmh (Option.some.inj e).symm)).trans box
  have hcell2 := (hg.block rb (Array.getElem?_eq_some_iff.1 hcell).1 (fun e => hmr (Option.some.inj e).symm)).trans hcell
  obtain ⟨⟨cur', p1, p2, p3⟩, p4⟩ := putM_row hcell2 h1 h3 h4 (i := e) (by omega) z
  have box3 := (p4.block hb (Array.getElem?_eq_some_iff.1 box2).1 (fun e => hhr (Option.some.inj e))).trans box2
  have ht3 : Tab (putM w2 rb e z) mb e g := ht.block (p4.block mb ht.lt (fun e => hmr (Option.some.inj e)))
  obtain ⟨c1, c2⟩ := set_cells box3 1 (.slice (some ⟨rb, 0, none⟩) e cap)
  have hte : (R1.take e).length = e := by rw [List.length_take]; omega
  refine ⟨⟨by rw [c1]; simp, ⟨by rw [flatM_length, hte], .inr ⟨rb, cap, cur', by rw [hte], Nat.zero_le _, (c2.block rb (Array.getElem?_eq_some_iff.1 p1).1 (fun e => hhr (Option.some.inj e).symm)).trans p1, by omega, h2, p2, ?_⟩⟩, ⟨g, ?_, hs⟩, fun r hr => fit r (List.mem_of_mem_take hr)⟩, ?_, ?_, ?_, ?_, hhr, ?_⟩
  · rw [hte, ← flatM_take R1 e (by omega)]
    have h5 : cur'.toList.take (e * 5) = (cur'.toList.take (R1.length * 5)).take (e * 5) := by rw [List.take_take, Nat.min_eq_left (by omega)]
    rw [h5, p3, flatM_take _ e (by simp; omega), flatM_take _ e (by omega), List.take_set_of_le (Nat.le_refl _)]
  · rw [hte]
    exact ht3.block (c2.block mb ht3.lt (fun e => hmh (Option.some.inj e)))
  · exact ((Kept.ofGrown hg (fun k e => .inr (.inr (Option.some.inj e).symm))).trans (Kept.ofGrown p4 (fun k e => .inr (.inl e)))).trans (Kept.ofGrown c2 (fun k e => .inl (Option.some.inj e).symm))
  · simp [World.cell?, box2]
  · intro k; simp [World.frozen?, hcell2]
  · simp [World.frozen?, box2]
  · intro k u hu; exact (World.cell?_of_block (hg.block rb (Array.getElem?_eq_some_iff.1 hcell).1 (fun e => hmr (Option.some.inj e).symm))).trans hu

set_option maxHeartbeats 4000000 in
set_option maxRecDepth 1000000 in
theorem dropM {f : FuncId} {rk : Int} {lt : Mk → Mk → Bool} {ok : Mk → Prop} {Fr : Nat → Prop} {St : Nat → World → Prop} (A : AskerM f rk lt ok Fr St)
    (w : World) (hb mb : Nat) (v : Value) (last : Int) (R : List (Int × Mk)) (p n : Nat) (h : HeapAtM w hb v mb f rk last R) (hp : p < R.length) (hst : St n w) (hok : ∀ r ∈ R, ok r.2) (hfr : ∀ k, Mine hb v mb k → ¬ Fr k) (hR : R.length ≤ 1073741824) :
    Calls Try.prog 75 #[.pointer (some ⟨hb, 0, none⟩), .int .i64 (p : Int)] w fun e w' => e = .returned (.tuple #[]) ∧
      ∃ v', HeapAtM w' hb v' mb f rk last (dropL lt R p n).1 ∧ St (dropL lt R p n).2 w' ∧ Kept (fun k => Mine hb v mb k ∨ Fr k) w w' ∧ v'.ownBlock = v.ownBlock := by
  obtain ⟨rp, hrp⟩ : ∃ r, R[p]? = some r := ⟨_, List.getElem?_eq_getElem hp⟩
  obtain ⟨e, he⟩ : ∃ e, e + 1 = R.length := ⟨R.length - 1, by omega⟩
  obtain ⟨re, hre⟩ : ∃ r, R[e]? = some r := ⟨_, List.getElem?_eq_getElem (by omega)⟩
  obtain ⟨rb, cap, cur0, rfl, hg0, hcap, hcm, _, _⟩ := h.shape hrp
  have k1 : w.cell? ⟨hb, 1, none⟩ = some (.slice (some ⟨rb, 0, none⟩) R.length cap) := by simp [World.cell?, h.box]
  have eq1 : (R.length : Int) - 1 = (e : Int) := by omega
  have HA : Hid (AskerM f rk lt ok Fr St) := A
  have HH : Hid (HeapAtM w hb (.slice (some ⟨rb, 0, none⟩) R.length cap) mb f rk last R) := h
  have HS : Hid (St n w) := hst
  have HO : Hid (∀ r ∈ R, ok r.2) := hok
  have HF : Hid (∀ k, Mine hb (.slice (some ⟨rb, 0, none⟩) R.length cap) mb k → ¬ Fr k) := hfr
  have HX : Hid (R[p]? = some rp ∧ R[e]? = some re ∧ e + 1 = R.length ∧ R.length ≤ cap ∧ cap ≤ maxLen) := ⟨hrp, hre, he, hcap, hcm⟩
  clear A h hst hok hfr hrp hre hg0 hcm
  go_enter Try.func75, Try.ntmps75
  go_wp2_with fail
  refine (swapM w hb mb _ f rk last R p e rp re HH.out HX.out.1 HX.out.2.1 hR).mono ?_
  rintro x w1 ⟨rfl, hh1, hk1⟩
  obtain ⟨R1, hR1⟩ : ∃ R1, R1 = swapL R p e := ⟨_, rfl⟩
  rw [← hR1] at hh1
  have hl1 : R1.length = e + 1 := by rw [hR1, swapL_length, HX.out.2.2.1]
  have hr1 : R1[e]? = some rp := by rw [hR1, swapL_get HX.out.1 HX.out.2.1]; simp
  have hv1 : ∃ cur, w1.heap[rb]? = some (.cells cur 105 (0, 0)) ∧ cur.size = cap * 5 ∧ cur.toList.take (R1.length * 5) = flatM R1 := by
    obtain ⟨rb', cap', cur, h1, h2, _, _, h3, h4⟩ := hh1.shape hr1
    simp only [Value.slice.injEq, Option.some.injEq, Addr.mk.injEq] at h1
    obtain ⟨⟨rfl, _⟩, _, rfl⟩ := h1
    exact ⟨cur, h2, h3, h4⟩
  obtain ⟨cur, hg1, hs1, ht1⟩ := hv1
  have c0 := row_cellM hg1 ht1 hr1 0 _ rfl
  rw [Nat.add_zero] at c0
  have m1 : w1.cell? ⟨hb, 1, none⟩ = some (.slice (some ⟨rb, 0, none⟩) R.length cap) := by simp [World.cell?, hh1.box]
  have m2 : w1.cell? ⟨hb, 2, none⟩ = some (.map (some mb)) := by simp [World.cell?, hh1.box]
  have iE : (e : Int) < (R.length : Int) := by omega
  obtain ⟨g, htab, hsits⟩ := hh1.tab
  rw [hl1] at htab
  have HT : Hid (Tab w1 mb (e + 1) g) := htab
  have SI : Hid (Sits (delAt g rp.1) (R1.take e) ∧ (g rp.1).isSome = true) := ⟨hsits.cut hl1 hr1, hsits.has hr1⟩
  have HR1 : Hid (R1 = swapL R p e ∧ R1.length = e + 1) := ⟨hR1, hl1⟩
  have HG1 : Hid (w1.heap[rb]? = some (.cells cur 105 (0, 0)) ∧ cur.size = cap * 5 ∧ cur.toList.take (R1.length * 5) = flatM R1) := ⟨hg1, hs1, ht1⟩
  have HH1 : Hid (HeapAtM w1 hb (.slice (some ⟨rb, 0, none⟩) R.length cap) mb f rk last R1) := hh1
  have HK1 : Hid (Kept (Mine hb (.slice (some ⟨rb, 0, none⟩) R.length cap) mb) w w1) := hk1
  have hwf : (Lit.int .i64 rp.1).wf = true := HH.out.fit rp (List.mem_of_getElem? HX.out.1)
  have cs : ∀ k, k < 5 → ∃ u, w1.cell? ⟨rb, e * 5 + k, none⟩ = some u := fun k hk => by
    have : (cellsM rp)[k]? = some ((cellsM rp)[k]'hk) := List.getElem?_eq_getElem hk
    exact ⟨_, row_cellM hg1 ht1 hr1 k _ this⟩
  have CS : Hid (∀ k, k < 5 → ∃ u, w1.cell? ⟨rb, e * 5 + k, none⟩ = some u) := cs
  clear hR1 hl1 hr1 hg1 hs1 ht1 htab hsits hh1 hk1 cs k1
  obtain ⟨t1, t2⟩ := rp
  go_wp2_with fail
  refine wp_tail 12 mixed (by kernel_rfl) ?_
  simp only [List.take_succ_cons, List.take_zero, List.drop_succ_cons, List.drop_zero]
  repeat still_step
  refine wpStill_nil ?_
  refine wpList_strike rfl (.tmp 18) (.tmp 26) rfl mb (e + 1) g _ rfl rfl HT.out hwf ?_
  intro w2 ht2 hg2
  rw [if_pos SI.out.2, Nat.add_sub_cancel] at ht2
  have hx1 : R1.length = R.length := by rw [HR1.out.2, HX.out.2.2.1]
  have hh1 := HH1.out
  rw [← hx1] at hh1
  obtain ⟨h3, k3, y1, y2, y3, y4, y5⟩ := cutM hh1 HR1.out.2 (grown_of_drew hg2) ht2 SI.out.1 (0, (⟨0, 0, 0, 0⟩ : Mk))
  rw [hx1] at y1 k3
  obtain ⟨u0, x0⟩ := CS.out 0 (by decide)
  obtain ⟨u1, x1⟩ := CS.out 1 (by decide)
  obtain ⟨u2, x2⟩ := CS.out 2 (by decide); obtain ⟨u3, x3⟩ := CS.out 3 (by decide); obtain ⟨u4, x4⟩ := CS.out 4 (by decide)
  have z0 := y5 _ _ x0
  have z1 := y5 _ _ x1
  have z2 := y5 _ _ x2; have z3 := y5 _ _ x3; have z4 := y5 _ _ x4
  rw [Nat.add_zero] at z0
  have f0 := y2 (e * 5)
  have f1 := y2 (e * 5 + 1)
  have f2 := y2 (e * 5 + 2); have f3 := y2 (e * 5 + 3); have f4 := y2 (e * 5 + 4)
  obtain ⟨w3, hw3⟩ : ∃ w3, w3 = (putM w2 rb e (0, (⟨0, 0, 0, 0⟩ : Mk))).setCell ⟨hb, 1, none⟩ (.slice (some ⟨rb, 0, none⟩) e cap) := ⟨_, rfl⟩
  rw [← hw3] at h3 k3
  have H3 : Hid (HeapAtM w3 hb (.slice (some ⟨rb, 0, none⟩) e cap) mb f rk last (R1.take e)) := h3
  have K3 : Hid (Kept (Mine hb (.slice (some ⟨rb, 0, none⟩) R.length cap) mb) w w3) := HK1.out.trans k3
  have iC : (e : Int) ≤ (cap : Int) := by omega
  have DL : Hid (dropL lt R p n = if p < e then settleL lt (R1.take e) p n else (R1.take e, n)) := (show _ = _ by unfold dropL; rw [show R.length - 1 = e by omega, ← HR1.out.1])
  have S3 : Hid (St n w3) := HA.out.keep n w w3 HS.out K3.out.size (fun k hk hF => K3.out.block k hk (fun hM => HF.out k hM hF))
  unfold putM at hw3
  simp only [] at hw3
  clear h3 k3 hh1 x0 x1 x2 x3 x4 y2 y5 ht2 hg2 hx1 m1 m2 c0
  by_cases hpe : p < e
  · have hpi : (p : Int) < (e : Int) := by omega
    go_wp2_with fail
    rw [← hw3]
    refine (settleM HA.out w3 hb mb _ last (R1.take e) p n H3.out (by rw [List.length_take, HR1.out.2]; omega) S3.out (fun r hr => HO.out r (mem_swapL (HR1.out.1 ▸ List.mem_of_mem_take hr))) (fun k hk => HF.out k hk) (by rw [List.length_take]; omega)).mono ?_
    rintro x w4 ⟨rfl, h4, s4, k4⟩
    have H4 : Hid (HeapAtM w4 hb (.slice (some ⟨rb, 0, none⟩) e cap) mb f rk last (dropL lt R p n).1 ∧ St (dropL lt R p n).2 w4 ∧ Kept (fun k => Mine hb (.slice (some ⟨rb, 0, none⟩) R.length cap) mb k ∨ Fr k) w w4) := by
      rw [DL.out, if_pos hpe]
      exact ⟨h4, s4, (K3.out.mono (fun _ _ h => .inl h)).trans k4⟩
    clear h4 s4 k4
    go_wp2_with fail
    go_end0
    exact ⟨rfl, _, H4.out.1, H4.out.2.1, H4.out.2.2, rfl⟩
  · have hpi : ¬ (p : Int) < (e : Int) := by omega
    go_wp2_with fail
    rw [← hw3]
    go_end0
    refine ⟨rfl, .slice (some ⟨rb, 0, none⟩) e cap, ?_⟩
    rw [DL.out, if_neg hpe]
    exact ⟨H3.out, S3.out, K3.out.mono (fun _ _ h => .inl h), rfl⟩

end Go.Proofs.Ytonfdmbcbfpgdaa

namespace Go.Proofs.Ytonfdmbcbfpgdaa
open Go.RowKit

theorem results_tct {fn : Func} {t p u : Tmp} {ty : TypeId} (h : fn.results = #[.tmp t, .cell p ty, .tmp u]) (tmps : Array Value) (P : Program) (w : World) :
    (results fn tmps).run P w =
      ((asAddr (tmps.getD p undef)).run P w).andThen fun a w₁ => ((loadVar ty a).run P w₁).andThen fun v w₂ => .ok (.tuple #[tmps.getD t undef, v, tmps.getD u undef]) w₂ := by
  simp only [results, h]
  simp [Sem.run_bind, Result.andThen]

set_option maxHeartbeats 4000000 in
set_option maxRecDepth 1000000 in
theorem topM (w : World) (hb mb : Nat) (v : Value) (f : FuncId) (rk : Int) (last : Int) (R : List (Int × Mk)) (h : HeapAtM w hb v mb f rk last R) :
    Calls Try.prog 66 #[.pointer (some ⟨hb, 0, none⟩)] w fun e w' => e = .returned (topOfM R) ∧ Below w.heap.size w w' := by
  cases R with
  | nil =>
    obtain ⟨av, cv, rfl⟩ : ∃ a c, v = .slice a 0 c := by
      rcases h.row.2 with ⟨rfl, h0⟩ | ⟨rb, cap, cur, rfl, _⟩
      · exact ⟨none, 0, rfl⟩
      · exact ⟨_, _, rfl⟩
    have k1 : w.cell? ⟨hb, 1, none⟩ = some (.slice av 0 cv) := by simp [World.cell?, h.box]
    have hlt := cell_lt k1
    simp only [] at hlt
    clear h
    go_enter Try.func66, Try.ntmps66
    go_wp2_with fail
    go_region
    all_goals (
      go_wp2_with fail
      (try simp only [Exit.inBlock, Exit.then])
      refine bodyPost_ret (v := .tuple #[.int .i64 0, .agg #[.int .i64 0, .int .i64 0, .int .i64 0, .int .i64 0], .bool false]) ?_ rfl ?_
      · rw [results_tct rfl]
        go_simp
      · exact ⟨rfl, (((Below.refl _ w).alloc (Nat.le_refl _) _).alloc (by simp) _).drew⟩)
  | cons r R =>
    obtain ⟨rb, cap, cur, rfl, hg, _, _, _, hcur⟩ := h.shape (i := 0) (r := r) rfl
    have k1 : w.cell? ⟨hb, 1, none⟩ = some (.slice (some ⟨rb, 0, none⟩) (r :: R).length cap) := by simp [World.cell?, h.box]
    have hlt := cell_lt k1
    simp only [] at hlt
    have hrl : rb < w.heap.size := (Array.getElem?_eq_some_iff.1 hg).1
    have ca := row_cellM hg hcur (i := 0) (r := r) rfl
    obtain ⟨a1, a2⟩ := r
    have ca0 := ca 0 _ rfl
    have ca1 := ca 1 _ rfl
    have ca2 := ca 2 _ rfl; have ca3 := ca 3 _ rfl; have ca4 := ca 4 _ rfl
    simp only [Nat.zero_mul, Nat.zero_add] at ca0 ca1 ca2 ca3 ca4
    obtain ⟨n, hn⟩ : ∃ n, n = ((a1, a2) :: R).length := ⟨_, rfl⟩
    have hn0 : (0 : Int) < (n : Int) := by rw [hn]; simp only [List.length_cons]; omega
    have hnz : ((n : Int) == 0) = false := by simp; omega
    rw [← hn] at k1
    clear h ca hg hcur hn
    go_enter Try.func66, Try.ntmps66
    go_wp2_with fail
    go_region
    all_goals (
      go_wp2_with fail
      (try simp only [Exit.inBlock, Exit.then])
      refine bodyPost_ret (v := .tuple #[.int .i64 a1, valM a2, .bool true]) ?_ rfl ?_
      · rw [results_tct rfl]
        unfold valM
        go_simp
      · exact ⟨rfl, ((Below.refl _ w).alloc (Nat.le_refl _) _).drew⟩)
end Go.Proofs.Ytonfdmbcbfpgdaa

namespace Go.Proofs.Ytonfdmbcbfpgdaa
open Go.RowKit

theorem kept_four (w : World) (s : Nat) (a b c d : Value) : Kept (fun k => k = s) w ((((w.setCell ⟨s, 0, none⟩ a).setCell ⟨s, 1, none⟩ b).setCell ⟨s, 2, none⟩ c).setCell ⟨s, 3, none⟩ d) :=
  (((Kept.setCell (fun k => k = s) w s 0 a rfl).trans (Kept.setCell (fun k => k = s) _ s 1 b rfl)).trans (Kept.setCell (fun k => k = s) _ s 2 c rfl)).trans (Kept.setCell (fun k => k = s) _ s 3 d rfl)
theorem kept_two (w : World) (s : Nat) (a b c d : Value) : Kept (fun k => k = s) w ((((w.setCell ⟨s, 0, none⟩ a).setCell ⟨s, 1, none⟩ b).setCell ⟨s, 2, none⟩ c).setCell ⟨s, 3, none⟩ d).drew :=
  (kept_four w s a b c d).trans ⟨rfl, rfl, rfl, Nat.le_refl _, fun _ _ _ => rfl⟩
theorem kept_res (w : World) (s : Nat) (a b c d : Value) (o : Obj) : Kept (fun k => k = s) w (((((w.setCell ⟨s, 0, none⟩ a).setCell ⟨s, 1, none⟩ b).setCell ⟨s, 2, none⟩ c).setCell ⟨s, 3, none⟩ d).alloc o).drew :=
  (kept_four w s a b c d).trans (Kept.ofBelow ((Below.refl _ _).alloc (Nat.le_refl _) o).drew)

set_option maxHeartbeats 4000000 in
set_option maxRecDepth 1000000 in
theorem popM {f : FuncId} {rk : Int} {lt : Mk → Mk → Bool} {ok : Mk → Prop} {Fr : Nat → Prop} {St : Nat → World → Prop} (A : AskerM f rk lt ok Fr St)
    (w : World) (hb mb : Nat) (v : Value) (last : Int) (R : List (Int × Mk)) (n : Nat) (h : HeapAtM w hb v mb f rk last R) (hst : St n w) (hok : ∀ r ∈ R, ok r.2) (hfr : ∀ k, Mine hb v mb k → ¬ Fr k) (hR : R.length ≤ 1073741824) :
    Calls Try.prog 68 #[.pointer (some ⟨hb, 0, none⟩)] w fun e w' => e = .returned (topOfM R) ∧
      ∃ v', HeapAtM w' hb v' mb f rk last (popL lt R n).1 ∧ St (popL lt R n).2 w' ∧ Kept (fun k => Mine hb v mb k ∨ Fr k) w w' ∧ v'.ownBlock = v.ownBlock := by
  have HA : Hid (AskerM f rk lt ok Fr St) := A
  have HO : Hid (∀ r ∈ R, ok r.2) := hok
  have HF : Hid (∀ k, Mine hb v mb k → ¬ Fr k) := hfr
  obtain ⟨w0, hw0⟩ : ∃ w0, w0 = w.alloc (.cells #[.int .i64 0, .int .i64 0, .int .i64 0, .int .i64 0] 76) := ⟨_, rfl⟩
  have hB0 : Below w.heap.size w w0 := by rw [hw0]; exact (Below.refl _ w).alloc (Nat.le_refl _) _
  have h0 : HeapAtM w0 hb v mb f rk last R := h.kept (Kept.ofBelow (P := fun _ => False) hB0) (fun _ _ h => h)
  have HS : Hid (St n w0) := A.keep n w w0 hst hB0.size (fun k hk _ => hB0.block k hk)
  have HH : Hid (HeapAtM w0 hb v mb f rk last R) := h0
  have HT := topM w0 hb mb v f rk last R h0
  have HB0 : Hid (Below w.heap.size w w0) := hB0
  have HW0 : Hid (w0 = w.alloc (.cells #[.int .i64 0, .int .i64 0, .int .i64 0, .int .i64 0] 76)) := hw0
  have HR0 : Hid (w0.heap[w.heap.size]? = some (.cells #[.int .i64 0, .int .i64 0, .int .i64 0, .int .i64 0] 76 (0, 0))) := by rw [hw0]; exact heap_alloc_new w _
  have HFO : Hid (∀ k, Fr k → k < w.heap.size) := fun k hk => A.old n w k hst hk
  have HNM : Hid (∀ k, Mine hb v mb k → k < w.heap.size) := fun k hk => h.lt k hk
  clear A h hst hok hfr h0 hB0 hw0
  cases R with
  | nil =>
    have HTH : Hid (Calls Try.prog 66 #[.pointer (some ⟨hb, 0, none⟩)] w0 fun e w' => e = .returned (.tuple #[.int .i64 0, .agg #[.int .i64 0, .int .i64 0, .int .i64 0, .int .i64 0], .bool false]) ∧ Below w0.heap.size w0 w') := HT
    clear HT
    go_enter Try.func68, Try.ntmps68
    go_wp2_with fail
    rw [← HW0.out]
    refine HTH.out.mono ?_
    rintro e w1 ⟨rfl, hB⟩
    have HB : Hid (Below w0.heap.size w0 w1) := hB
    have hz : w.heap.size < w1.heap.size := Nat.lt_of_lt_of_le (Array.getElem?_eq_some_iff.1 HR0.out).1 hB.size
    have r0 : w1.heap[w.heap.size]? = some (.cells #[.int .i64 0, .int .i64 0, .int .i64 0, .int .i64 0] 76 (0, 0)) := (hB.block _ (Array.getElem?_eq_some_iff.1 HR0.out).1).trans HR0.out
    have c0 : w1.cell? ⟨w.heap.size, 0, none⟩ = some (.int .i64 0) := by simp [World.cell?, r0]
    have c1 : w1.cell? ⟨w.heap.size, 1, none⟩ = some (.int .i64 0) := by simp [World.cell?, r0]
    have c2 : w1.cell? ⟨w.heap.size, 2, none⟩ = some (.int .i64 0) := by simp [World.cell?, r0]
    have c3 : w1.cell? ⟨w.heap.size, 3, none⟩ = some (.int .i64 0) := by simp [World.cell?, r0]
    have f0 : w1.frozen? ⟨w.heap.size, 0, none⟩ = false := by simp [World.frozen?, r0]
    have f1 : w1.frozen? ⟨w.heap.size, 1, none⟩ = false := by simp [World.frozen?, r0]
    have f2 : w1.frozen? ⟨w.heap.size, 2, none⟩ = false := by simp [World.frozen?, r0]
    have f3 : w1.frozen? ⟨w.heap.size, 3, none⟩ = false := by simp [World.frozen?, r0]
    clear hB r0
    go_wp2_with fail
    go_region
    all_goals (
      go_wp2_with fail
      (try simp only [Exit.inBlock, Exit.then])
      refine bodyPost_ret (v := .tuple #[.int .i64 0, .agg #[.int .i64 0, .int .i64 0, .int .i64 0, .int .i64 0], .bool false]) ?_ rfl ?_
      · rw [results_tct rfl]
        go_simp
      · have hk := kept_res w1 w.heap.size (.int .i64 0) (.int .i64 0) (.int .i64 0) (.int .i64 0) (.cells #[.int .i64 0, .int .i64 0, .int .i64 0, .int .i64 0] 76)
        have hk1 : Kept (fun k => k = w.heap.size) w0 _ := (Kept.ofBelow HB.out).trans hk
        refine ⟨rfl, v, HH.out.kept hk1 (fun k hM e => by have := HNM.out k hM; omega), ?_, ?_, rfl⟩
        · refine HA.out.keep n w0 _ HS.out hk1.size (fun k hk' hF => hk1.block k hk' (fun e => ?_))
          have := HFO.out k hF
          omega
        · exact (Kept.ofBelow HB0.out).step hk1 (fun k hk' e => by omega))
  | cons r R =>
    obtain ⟨r1, r2⟩ := r
    have HTH : Hid (Calls Try.prog 66 #[.pointer (some ⟨hb, 0, none⟩)] w0 fun e w' => e = .returned (.tuple #[.int .i64 r1, valM r2, .bool true]) ∧ Below w0.heap.size w0 w') := HT
    clear HT
    unfold valM at HTH
    go_enter Try.func68, Try.ntmps68
    go_wp2_with fail
    rw [← HW0.out]
    refine HTH.out.mono ?_
    rintro e w1 ⟨rfl, hB⟩
    have HB : Hid (Below w0.heap.size w0 w1) := hB
    have hz : w.heap.size < w1.heap.size := Nat.lt_of_lt_of_le (Array.getElem?_eq_some_iff.1 HR0.out).1 hB.size
    have r0 : w1.heap[w.heap.size]? = some (.cells #[.int .i64 0, .int .i64 0, .int .i64 0, .int .i64 0] 76 (0, 0)) := (hB.block _ (Array.getElem?_eq_some_iff.1 HR0.out).1).trans HR0.out
    obtain ⟨wy, hwy⟩ : ∃ wy, wy = w1.alloc (.cells #[.int .i64 r2.id, .int .i64 r2.pri, .int .i64 r2.due, .int .i64 r2.ord] 76) := ⟨_, rfl⟩
    have HWY : Hid (wy = w1.alloc (.cells #[.int .i64 r2.id, .int .i64 r2.pri, .int .i64 r2.due, .int .i64 r2.ord] 76)) := hwy
    have By : Below w1.heap.size w1 wy := by rw [hwy]; exact (Below.refl _ w1).alloc (Nat.le_refl _) _
    have y0 : wy.heap[w1.heap.size]? = some (.cells #[.int .i64 r2.id, .int .i64 r2.pri, .int .i64 r2.due, .int .i64 r2.ord] 76 (0, 0)) := by rw [hwy]; exact heap_alloc_new w1 _
    have HB2 : Hid (Below w0.heap.size w0 wy) := hB.trans (By.mono hB.size)
    have HY : Hid (wy.heap[w.heap.size]? = some (.cells #[.int .i64 0, .int .i64 0, .int .i64 0, .int .i64 0] 76 (0, 0)) ∧ wy.heap[w1.heap.size]? = some (.cells #[.int .i64 r2.id, .int .i64 r2.pri, .int .i64 r2.due, .int .i64 r2.ord] 76 (0, 0))) := ⟨(By.block _ hz).trans r0, y0⟩
    clear hB r0 hwy By y0
    go_wp2_with fail
    rw [← HWY.out]
    refine (dropM HA.out wy hb mb v last ((r1, r2) :: R) 0 n (HH.out.kept (Kept.ofBelow (P := fun _ => False) HB2.out) (fun _ _ h => h)) (by simp) (HA.out.keep n w0 wy HS.out HB2.out.size (fun k hk _ => HB2.out.block k hk)) HO.out HF.out hR).mono ?_
    rintro e w2 ⟨rfl, v', h2, s2, k2, hv⟩
    have H2 : Hid (HeapAtM w2 hb v' mb f rk last (popL lt ((r1, r2) :: R) n).1 ∧ St (popL lt ((r1, r2) :: R) n).2 w2 ∧ Kept (fun k => Mine hb v mb k ∨ Fr k) w0 w2 ∧ v'.ownBlock = v.ownBlock) := ⟨h2, s2, (Kept.ofBelow HB2.out).trans k2, hv⟩
    have nf : ∀ k, w.heap.size ≤ k → ¬ (Mine hb v mb k ∨ Fr k) := fun k hk h => by
      rcases h with h | h
      · have := HNM.out k h; omega
      · have := HFO.out k h; omega
    have r0 := (k2.block _ (Array.getElem?_eq_some_iff.1 HY.out.1).1 (nf _ (Nat.le_refl _))).trans HY.out.1
    have y0 := (k2.block _ (Array.getElem?_eq_some_iff.1 HY.out.2).1 (nf _ (by omega))).trans HY.out.2
    have c0 : w2.cell? ⟨w.heap.size, 0, none⟩ = some (.int .i64 0) := by simp [World.cell?, r0]
    have c1 : w2.cell? ⟨w.heap.size, 1, none⟩ = some (.int .i64 0) := by simp [World.cell?, r0]
    have c2 : w2.cell? ⟨w.heap.size, 2, none⟩ = some (.int .i64 0) := by simp [World.cell?, r0]
    have c3 : w2.cell? ⟨w.heap.size, 3, none⟩ = some (.int .i64 0) := by simp [World.cell?, r0]
    have f0 : w2.frozen? ⟨w.heap.size, 0, none⟩ = false := by simp [World.frozen?, r0]
    have f1 : w2.frozen? ⟨w.heap.size, 1, none⟩ = false := by simp [World.frozen?, r0]
    have f2 : w2.frozen? ⟨w.heap.size, 2, none⟩ = false := by simp [World.frozen?, r0]
    have f3 : w2.frozen? ⟨w.heap.size, 3, none⟩ = false := by simp [World.frozen?, r0]
    have d0 : w2.cell? ⟨w1.heap.size, 0, none⟩ = some (.int .i64 r2.id) := by simp [World.cell?, y0]
    have d1 : w2.cell? ⟨w1.heap.size, 1, none⟩ = some (.int .i64 r2.pri) := by simp [World.cell?, y0]
    have d2 : w2.cell? ⟨w1.heap.size, 2, none⟩ = some (.int .i64 r2.due) := by simp [World.cell?, y0]
    have d3 : w2.cell? ⟨w1.heap.size, 3, none⟩ = some (.int .i64 r2.ord) := by simp [World.cell?, y0]
    clear h2 s2 k2 hv r0 y0 nf
    go_wp2_with fail
    go_region
    all_goals (
      go_wp2_with fail
      (try simp only [Exit.inBlock, Exit.then])
      refine bodyPost_ret (v := .tuple #[.int .i64 r1, valM r2, .bool true]) ?_ rfl ?_
      · rw [results_tct rfl]
        unfold valM
        go_simp
      · have hk := kept_two w2 w.heap.size (.int .i64 r2.id) (.int .i64 r2.pri) (.int .i64 r2.due) (.int .i64 r2.ord)
        refine ⟨rfl, v', H2.out.1.kept hk (fun k hM e => ?_), ?_, ?_, H2.out.2.2.2⟩
        · have hM' : Mine hb v mb k := by unfold Mine at hM ⊢; rw [H2.out.2.2.2] at hM; exact hM
          have := HNM.out k hM'; omega
        · refine HA.out.keep _ w2 _ H2.out.2.1 hk.size (fun k hk' hF => hk.block k hk' (fun e => ?_))
          have := HFO.out k hF
          omega
        · exact (Kept.ofBelow HB0.out).step ((H2.out.2.2.1.mono (Q := fun k => (Mine hb v mb k ∨ Fr k) ∨ k = w.heap.size) (fun k _ e => .inl e)).trans (hk.mono (fun k _ e => .inr e))) (fun k hk' e => by
            rcases e with e | e
            · exact e
            · omega))

set_option maxHeartbeats 4000000 in
set_option maxRecDepth 1000000 in
theorem removeM_no {f : FuncId} {rk : Int} (w : World) (hb mb : Nat) (v : Value) (last : Int) (R : List (Int × Mk)) (t : Int) (h : HeapAtM w hb v mb f rk last R) (ht : (Lit.int .i64 t).wf = true) (hn : R.find? (fun r => r.1 = t) = none) :
    Calls Try.prog 67 #[.pointer (some ⟨hb, 0, none⟩), .int .i64 t] w fun e w' => e = .returned (.tuple #[.agg #[.int .i64 0, .int .i64 0, .int .i64 0, .int .i64 0], .bool false]) ∧ Below w.heap.size w w' := by
  obtain ⟨w0, hw0⟩ : ∃ w0, w0 = w.alloc (.cells #[.int .i64 0, .int .i64 0, .int .i64 0, .int .i64 0] 76) := ⟨_, rfl⟩
  have hB0 : Below w.heap.size w w0 := by rw [hw0]; exact (Below.refl _ w).alloc (Nat.le_refl _) _
  have HG := getM w0 hb mb v f rk last R t (h.kept (Kept.ofBelow (P := fun _ => False) hB0) (fun _ _ h => h)) ht
  unfold getOfM at HG
  rw [hn] at HG
  have HGH : Hid (Calls Try.prog 30 #[.pointer (some ⟨hb, 0, none⟩), .int .i64 t] w0 fun e w' => e = .returned (.tuple #[.agg #[.int .i64 0, .int .i64 0, .int .i64 0, .int .i64 0], .bool false]) ∧ Below w0.heap.size w0 w') := HG
  have HB0 : Hid (Below w.heap.size w w0) := hB0
  have HW0 : Hid (w0 = w.alloc (.cells #[.int .i64 0, .int .i64 0, .int .i64 0, .int .i64 0] 76)) := hw0
  have HR0 : Hid (w0.heap[w.heap.size]? = some (.cells #[.int .i64 0, .int .i64 0, .int .i64 0, .int .i64 0] 76 (0, 0))) := by rw [hw0]; exact heap_alloc_new w _
  clear HG h hn hB0 hw0
  go_enter Try.func67, Try.ntmps67
  go_wp2_with fail
  rw [← HW0.out]
  refine HGH.out.mono ?_
  rintro e w1 ⟨rfl, hB⟩
  have HB : Hid (Below w0.heap.size w0 w1) := hB
  have hz : w.heap.size < w1.heap.size := Nat.lt_of_lt_of_le (Array.getElem?_eq_some_iff.1 HR0.out).1 hB.size
  have r0 : w1.heap[w.heap.size]? = some (.cells #[.int .i64 0, .int .i64 0, .int .i64 0, .int .i64 0] 76 (0, 0)) := (hB.block _ (Array.getElem?_eq_some_iff.1 HR0.out).1).trans HR0.out
  have c0 : w1.cell? ⟨w.heap.size, 0, none⟩ = some (.int .i64 0) := by simp [World.cell?, r0]
  have c1 : w1.cell? ⟨w.heap.size, 1, none⟩ = some (.int .i64 0) := by simp [World.cell?, r0]
  have c2 : w1.cell? ⟨w.heap.size, 2, none⟩ = some (.int .i64 0) := by simp [World.cell?, r0]
  have c3 : w1.cell? ⟨w.heap.size, 3, none⟩ = some (.int .i64 0) := by simp [World.cell?, r0]
  have f0 : w1.frozen? ⟨w.heap.size, 0, none⟩ = false := by simp [World.frozen?, r0]
  have f1 : w1.frozen? ⟨w.heap.size, 1, none⟩ = false := by simp [World.frozen?, r0]
  have f2 : w1.frozen? ⟨w.heap.size, 2, none⟩ = false := by simp [World.frozen?, r0]
  have f3 : w1.frozen? ⟨w.heap.size, 3, none⟩ = false := by simp [World.frozen?, r0]
  clear hB r0
  go_wp2_with fail
  (try simp only [Exit.inBlock, Exit.then])
  refine bodyPost_ret (v := .tuple #[.agg #[.int .i64 0, .int .i64 0, .int .i64 0, .int .i64 0], .bool false]) ?_ rfl ?_
  · rw [results_cell_tmp rfl]
    go_simp
  · have hk := kept_res w1 w.heap.size (.int .i64 0) (.int .i64 0) (.int .i64 0) (.int .i64 0) (.cells #[.int .i64 0, .int .i64 0, .int .i64 0, .int .i64 0] 76)
    have hk1 : Kept (fun k => k = w.heap.size) w _ := ((Kept.ofBelow HB0.out).step (Kept.ofBelow HB.out) (fun k _ e => e)).trans hk
    exact ⟨rfl, ⟨hk1.os, hk1.tape, hk1.output, hk1.size, fun k hk' => hk1.block k hk' (by omega)⟩⟩

set_option maxHeartbeats 4000000 in
set_option maxRecDepth 1000000 in
theorem removeM {f : FuncId} {rk : Int} {lt : Mk → Mk → Bool} {ok : Mk → Prop} {Fr : Nat → Prop} {St : Nat → World → Prop} (A : AskerM f rk lt ok Fr St)
    (w : World) (hb mb : Nat) (v : Value) (last : Int) (R : List (Int × Mk)) (i n : Nat) (r : Int × Mk) (h : HeapAtM w hb v mb f rk last R) (hi : R[i]? = some r) (hst : St n w) (hok : ∀ r ∈ R, ok r.2) (hfr : ∀ k, Mine hb v mb k → ¬ Fr k) (hR : R.length ≤ 1073741824) :
    Calls Try.prog 67 #[.pointer (some ⟨hb, 0, none⟩), .int .i64 r.1] w fun e w' => e = .returned (.tuple #[valM r.2, .bool true]) ∧
      ∃ v', HeapAtM w' hb v' mb f rk last (dropL lt R i n).1 ∧ St (dropL lt R i n).2 w' ∧ Kept (fun k => Mine hb v mb k ∨ Fr k) w w' ∧ v'.ownBlock = v.ownBlock := by
  have hwf := h.fit r (List.mem_of_getElem? hi)
  obtain ⟨g, htab, hs⟩ := h.tab
  have hgi := hs.1 i r hi
  have hf : R.find? (fun x => x.1 = r.1) = some r := by
    rcases hs.find r.1 with ⟨h1, _⟩ | ⟨j, r', h1, h2, h3, h4⟩
    · rw [h1] at hgi; cases hgi
    · have := hs.inj h2 hi h3
      subst this
      rw [hi] at h2; cases h2
      exact h4
  obtain ⟨w0, hw0⟩ : ∃ w0, w0 = w.alloc (.cells #[.int .i64 0, .int .i64 0, .int .i64 0, .int .i64 0] 76) := ⟨_, rfl⟩
  have hB0 : Below w.heap.size w w0 := by rw [hw0]; exact (Below.refl _ w).alloc (Nat.le_refl _) _
  have h0 : HeapAtM w0 hb v mb f rk last R := h.kept (Kept.ofBelow (P := fun _ => False) hB0) (fun _ _ h => h)
  have HG := getM w0 hb mb v f rk last R r.1 h0 hwf
  unfold getOfM at HG
  rw [hf] at HG
  obtain ⟨r1, r2⟩ := r
  have HGH : Hid (Calls Try.prog 30 #[.pointer (some ⟨hb, 0, none⟩), .int .i64 r1] w0 fun e w' => e = .returned (.tuple #[valM r2, .bool true]) ∧ Below w0.heap.size w0 w') := HG
  have HA : Hid (AskerM f rk lt ok Fr St) := A
  have HS : Hid (St n w0) := A.keep n w w0 hst hB0.size (fun k hk _ => hB0.block k hk)
  have HH : Hid (HeapAtM w0 hb v mb f rk last R) := h0
  have HO : Hid (∀ r ∈ R, ok r.2) := hok
  have HF : Hid (∀ k, Mine hb v mb k → ¬ Fr k) := hfr
  have HFO : Hid (∀ k, Fr k → k < w.heap.size) := fun k hk => A.old n w k hst hk
  have HNM : Hid (∀ k, Mine hb v mb k → k < w.heap.size) := fun k hk => h.lt k hk
  have HB0 : Hid (Below w.heap.size w w0) := hB0
  have HW0 : Hid (w0 = w.alloc (.cells #[.int .i64 0, .int .i64 0, .int .i64 0, .int .i64 0] 76)) := hw0
  have HR0 : Hid (w0.heap[w.heap.size]? = some (.cells #[.int .i64 0, .int .i64 0, .int .i64 0, .int .i64 0] 76 (0, 0))) := by rw [hw0]; exact heap_alloc_new w _
  have HI : Hid (i < R.length ∧ g r1 = some (i : Int)) := ⟨(List.getElem?_eq_some_iff.1 hi).1, hgi⟩
  have HTB : Hid (Tab w0 mb R.length g) := htab.block (hB0.block mb htab.lt)
  clear HG A h hst hok hfr hs hf hi hgi htab h0 hB0 hw0
  unfold valM at HGH
  go_enter Try.func67, Try.ntmps67
  go_wp2_with fail
  rw [← HW0.out]
  refine HGH.out.mono ?_
  rintro e w1 ⟨rfl, hB⟩
  have hz : w.heap.size < w1.heap.size := Nat.lt_of_lt_of_le (Array.getElem?_eq_some_iff.1 HR0.out).1 hB.size
  have r0 : w1.heap[w.heap.size]? = some (.cells #[.int .i64 0, .int .i64 0, .int .i64 0, .int .i64 0] 76 (0, 0)) := (hB.block _ (Array.getElem?_eq_some_iff.1 HR0.out).1).trans HR0.out
  obtain ⟨wy, hwy⟩ : ∃ wy, wy = w1.alloc (.cells #[.int .i64 r2.id, .int .i64 r2.pri, .int .i64 r2.due, .int .i64 r2.ord] 76) := ⟨_, rfl⟩
  have HWY : Hid (wy = w1.alloc (.cells #[.int .i64 r2.id, .int .i64 r2.pri, .int .i64 r2.due, .int .i64 r2.ord] 76)) := hwy
  have By : Below w1.heap.size w1 wy := by rw [hwy]; exact (Below.refl _ w1).alloc (Nat.le_refl _) _
  have y0 : wy.heap[w1.heap.size]? = some (.cells #[.int .i64 r2.id, .int .i64 r2.pri, .int .i64 r2.due, .int .i64 r2.ord] 76 (0, 0)) := by rw [hwy]; exact heap_alloc_new w1 _
  have HB2 : Hid (Below w0.heap.size w0 wy) := hB.trans (By.mono hB.size)
  have HY : Hid (wy.heap[w.heap.size]? = some (.cells #[.int .i64 0, .int .i64 0, .int .i64 0, .int .i64 0] 76 (0, 0)) ∧ wy.heap[w1.heap.size]? = some (.cells #[.int .i64 r2.id, .int .i64 r2.pri, .int .i64 r2.due, .int .i64 r2.ord] 76 (0, 0))) := ⟨(By.block _ hz).trans r0, y0⟩
  have HHy : Hid (HeapAtM wy hb v mb f rk last R) := HH.out.kept (Kept.ofBelow (P := fun _ => False) HB2.out) (fun _ _ h => h)
  have HT1 : Hid (Tab w1 mb R.length g) := HTB.out.block (hB.block mb HTB.out.lt)
  have HHw : HeapAtM w1 hb v mb f rk last R := HH.out.kept (Kept.ofBelow (P := fun _ => False) hB) (fun _ _ h => h)
  have k2 : w1.cell? ⟨hb, 2, none⟩ = some (.map (some mb)) := by simp [World.cell?, HHw.box]
  have hlt := cell_lt k2
  simp only [] at hlt
  clear hB r0 hwy By y0 HHw
  go_wp2_with (at_lookup; refine wpList_look1 rfl _ _ rfl mb R.length g r1 rfl rfl (HT1.out.block (heap_alloc_old w1 _ HT1.out.lt)) hwf ?_; rw [HI.out.2]; simp only [Option.getD_some])
  rw [← HWY.out]
  refine (dropM HA.out wy hb mb v last R i n HHy.out HI.out.1 (HA.out.keep n w0 wy HS.out HB2.out.size (fun k hk _ => HB2.out.block k hk)) HO.out HF.out hR).mono ?_
  rintro e w2 ⟨rfl, v', h2, s2, k2', hv⟩
  have H2 : Hid (HeapAtM w2 hb v' mb f rk last (dropL lt R i n).1 ∧ St (dropL lt R i n).2 w2 ∧ Kept (fun k => Mine hb v mb k ∨ Fr k) w0 w2 ∧ v'.ownBlock = v.ownBlock) := ⟨h2, s2, (Kept.ofBelow HB2.out).trans k2', hv⟩
  have nf : ∀ k, w.heap.size ≤ k → ¬ (Mine hb v mb k ∨ Fr k) := fun k hk h => by
    rcases h with h | h
    · have := HNM.out k h; omega
    · have := HFO.out k h; omega
  have r0 := (k2'.block _ (Array.getElem?_eq_some_iff.1 HY.out.1).1 (nf _ (Nat.le_refl _))).trans HY.out.1
  have y0 := (k2'.block _ (Array.getElem?_eq_some_iff.1 HY.out.2).1 (nf _ (by omega))).trans HY.out.2
  have c0 : w2.cell? ⟨w.heap.size, 0, none⟩ = some (.int .i64 0) := by simp [World.cell?, r0]
  have c1 : w2.cell? ⟨w.heap.size, 1, none⟩ = some (.int .i64 0) := by simp [World.cell?, r0]
  have c2 : w2.cell? ⟨w.heap.size, 2, none⟩ = some (.int .i64 0) := by simp [World.cell?, r0]
  have c3 : w2.cell? ⟨w.heap.size, 3, none⟩ = some (.int .i64 0) := by simp [World.cell?, r0]
  have f0 : w2.frozen? ⟨w.heap.size, 0, none⟩ = false := by simp [World.frozen?, r0]
  have f1 : w2.frozen? ⟨w.heap.size, 1, none⟩ = false := by simp [World.frozen?, r0]
  have f2 : w2.frozen? ⟨w.heap.size, 2, none⟩ = false := by simp [World.frozen?, r0]
  have f3 : w2.frozen? ⟨w.heap.size, 3, none⟩ = false := by simp [World.frozen?, r0]
  have d0 : w2.cell? ⟨w1.heap.size, 0, none⟩ = some (.int .i64 r2.id) := by simp [World.cell?, y0]
  have d1 : w2.cell? ⟨w1.heap.size, 1, none⟩ = some (.int .i64 r2.pri) := by simp [World.cell?, y0]
  have d2 : w2.cell? ⟨w1.heap.size, 2, none⟩ = some (.int .i64 r2.due) := by simp [World.cell?, y0]
  have d3 : w2.cell? ⟨w1.heap.size, 3, none⟩ = some (.int .i64 r2.ord) := by simp [World.cell?, y0]
  clear h2 s2 k2' hv r0 y0 nf k2
  go_wp2_with fail
  (try simp only [Exit.inBlock, Exit.then])
  refine bodyPost_ret (v := .tuple #[valM r2, .bool true]) ?_ rfl ?_
  · rw [results_cell_tmp rfl]
    unfold valM
    go_simp
  · have hk := kept_four w2 w.heap.size (.int .i64 r2.id) (.int .i64 r2.pri) (.int .i64 r2.due) (.int .i64 r2.ord)
    refine ⟨rfl, v', H2.out.1.kept hk (fun k hM e => ?_), ?_, ?_, H2.out.2.2.2⟩
    · have hM' : Mine hb v mb k := by unfold Mine at hM ⊢; rw [H2.out.2.2.2] at hM; exact hM
      have := HNM.out k hM'; omega
    · refine HA.out.keep _ w2 _ H2.out.2.1 hk.size (fun k hk' hF => hk.block k hk' (fun e => ?_))
      have := HFO.out k hF
      omega
    · exact (Kept.ofBelow HB0.out).step ((H2.out.2.2.1.mono (Q := fun k => (Mine hb v mb k ∨ Fr k) ∨ k = w.heap.size) (fun k _ e => .inl e)).trans (hk.mono (fun k _ e => .inr e))) (fun k hk' e => by
        rcases e with e | e
        · exact e
        · omega)
end Go.Proofs.Ytonfdmbcbfpgdaa
