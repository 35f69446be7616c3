/-
  The walk of 'sink'.
-/
import Derived.Test.YtkjjinccnaphpaaRiseT
namespace Go.Proofs.Ytkjjinccnaphpaa
open Go.RowKit

set_option maxHeartbeats 8000000 in
set_option maxRecDepth 1000000 in
theorem sinkT {f : FuncId} {caps : Array Value} {lt : Int × Int → Int × Int → Bool} {ok : Int × Int → Prop} {Fr : Nat → Prop} {St : Nat → World → Prop} (A : AskerT f caps lt ok Fr St)
    (w : World) (hb mb : Nat) (v : Value) (last : Int) (R : List (Int × Int × Int)) (p n : Nat) (h : HeapAtT w hb v mb f caps last R) (hp : p < R.length) (hst : St n w) (hok : ∀ r ∈ R, ok r.2) (hfr : ∀ k, Mine hb v mb k → ¬ Fr k) (hR : R.length ≤ 1073741824) :
    Calls Try.prog 51 #[.pointer (some ⟨hb, 0, none⟩), .int .i64 (p : Int)] w fun e w' => e = .returned (.tuple #[]) ∧
      HeapAtT w' hb v mb f caps last (sinkL lt R.length R p n).1 ∧ St (sinkL lt R.length R p n).2 w' ∧ Kept (fun k => Mine hb v mb k ∨ Fr k) w w' := by
  have HA : Hid (AskerT f caps lt ok Fr St) := A
  have HH : Hid (HeapAtT w hb v mb f caps last R) := h
  have HS : Hid (St n w) := hst
  have HO : Hid (∀ r ∈ R, ok r.2) := hok
  have HF : Hid (∀ k, Mine hb v mb k → ¬ Fr k) := hfr
  clear A h hst hok hfr
  go_enter Try.func51, Try.ntmps51
  go_wp2_with fail
  go_loopg [1] (R.length - p) (fun gk s1 wr => ∃ (pk nk : Nat) (Rk : List (Int × Int × Int)), s1 = .int .i64 (pk : Int) ∧ R.length - pk ≤ gk ∧ pk < R.length ∧ Hid (Rk.length = R.length) ∧ Hid (HeapAtT wr hb v mb f caps last Rk) ∧ Hid (St nk wr) ∧ Hid (Kept (fun k => Mine hb v mb k ∨ Fr k) w wr) ∧
    Hid (∀ r ∈ Rk, ok r.2) ∧ Hid (∃ fu, R.length - pk ≤ fu ∧ sinkL lt fu Rk pk nk = sinkL lt R.length R p n))
  case atStart => exact ⟨p, n, R, rfl, Nat.le_refl _, hp, rfl, HH, HS, Kept.refl _ _, HO, R.length, Nat.sub_le _ _, rfl⟩
  case round =>
    obtain ⟨pk, nk, Rk, rfl, hpg, hpk, HL, HK, HSk, HW, HOk, HE⟩ := hrel
    have hv : ∃ rb cap cur, v = .slice (some ⟨rb, 0, none⟩) R.length cap ∧ wr.heap[rb]? = some (.cells cur 66 (0, 0)) ∧ cur.toList.take (Rk.length * 3) = flatT Rk := by
      obtain ⟨rb, cap, cur, h1, h2, _, _, _, h3⟩ := HK.out.shape (List.getElem?_eq_getElem (show pk < Rk.length by rw [HL.out]; exact hpk))
      rw [HL.out] at h1
      exact ⟨rb, cap, cur, h1, h2, h3⟩
    obtain ⟨rb, cap, cur, rfl, hg, hcur⟩ := hv
    have wrk0 : wr.cell? ⟨hb, 0, none⟩ = some (.func (.func f) #[] caps) := by simp [World.cell?, HK.out.box]
    have k1 : wr.cell? ⟨hb, 1, none⟩ = some (.slice (some ⟨rb, 0, none⟩) R.length cap) := by simp [World.cell?, HK.out.box]
    obtain ⟨q, hq⟩ : ∃ q, q = 2 * pk + 1 := ⟨_, rfl⟩
    obtain ⟨q2, hq2⟩ : ∃ q, q = 2 * pk + 2 := ⟨_, rfl⟩
    have HQ : Hid (q = 2 * pk + 1 ∧ q2 = 2 * pk + 2) := ⟨hq, hq2⟩
    have eq1 : 2 * (pk : Int) + 1 = (q : Int) := by omega
    have bq : (q2 : Int) ≤ 4294967296 := by omega
    have wq2 : IntKind.i64.wrap (q2 : Int) = (q2 : Int) := by rw [IntKind.wrap_i64]; omega
    have eq2 : (q : Int) + 1 = (q2 : Int) := by omega
    by_cases hA : R.length ≤ q
    · have t1 : (R.length : Int) ≤ (q : Int) := by omega
      clear hg hcur hq hq2
      go_wp2_with fail
      (try simp only [Exit.inBlock, Exit.then])
      refine bodyPost_ret (results_none rfl _ _ _) rfl ?_
      obtain ⟨fu, _, hfu⟩ := HE.out
      rw [sinkL_end (List.getElem?_eq_none (by rw [HL.out]; have := HQ.out; omega))] at hfu
      rw [← hfu]
      exact ⟨rfl, HK.out, HSk.out, HW.out⟩
    · have t1 : ¬ (R.length : Int) ≤ (q : Int) := by omega
      have i1 : (pk : Int) < (R.length : Int) := by omega
      have i2 : (q : Int) < (R.length : Int) := by omega
      obtain ⟨a, ha⟩ : ∃ a, Rk[pk]? = some a := ⟨_, List.getElem?_eq_getElem (show pk < Rk.length by rw [HL.out]; exact hpk)⟩
      obtain ⟨b, hb'⟩ : ∃ b, Rk[q]? = some b := ⟨_, List.getElem?_eq_getElem (show q < Rk.length by rw [HL.out]; omega)⟩
      have ca := row_cellT hg hcur ha
      have cb := row_cellT hg hcur hb'
      by_cases hB : R.length ≤ q2
      · have t2 : decide ((q2 : Int) < (R.length : Int)) = false := decide_eq_false (by omega)
        have t3 : decide (q2 < R.length) = false := decide_eq_false (by omega)
        have HAB : Hid (Rk[pk]? = some a ∧ Rk[q]? = some b ∧ Rk[q2]? = none) := ⟨ha, hb', List.getElem?_eq_none (by rw [HL.out]; exact hB)⟩
        have HOA : Hid (ok a.2 ∧ ok b.2 ∧ True) := ⟨HOk.out a (List.mem_of_getElem? ha), HOk.out b (List.mem_of_getElem? hb'), trivial⟩
        obtain ⟨a1, a2⟩ := a
        obtain ⟨b1, b2⟩ := b
        have ca0 := ca 0 _ rfl
        have cb0 := cb 0 _ rfl
        have ca1 := ca 1 _ rfl
        have cb1 := cb 1 _ rfl
        have ca2 := ca 2 _ rfl; have cb2 := cb 2 _ rfl
        simp only [Nat.add_zero] at ca0 cb0
        clear ca cb ha hb' hg hcur hq hq2
        go_wp2_with fail
        go_quiet (fail)
        generalize hwq : wr.drewN _ = wq
        have hkd : Kept (fun _ => False) wr wq := by rw [← hwq]; exact ⟨rfl, rfl, rfl, Nat.le_refl _, fun _ _ _ => rfl⟩
        have wqk0 := hkd.cell (fun h => h) wrk0
        have qk1 := hkd.cell (fun h => h) k1
        have qa0 := hkd.cell (fun h => h) ca0
        have qb0 := hkd.cell (fun h => h) cb0
        have qa1 := hkd.cell (fun h => h) ca1
        have qb1 := hkd.cell (fun h => h) cb1
        have qa2 := hkd.cell (fun h => h) ca2
        have qb2 := hkd.cell (fun h => h) cb2
        have HKQ : Hid (HeapAtT wq hb (.slice (some ⟨rb, 0, none⟩) R.length cap) mb f caps last Rk ∧ Kept (fun k => Mine hb (.slice (some ⟨rb, 0, none⟩) R.length cap) mb k ∨ Fr k) w wq) := by
          rw [← hwq]
          exact ⟨HK.out.kept (P := fun _ => False) ⟨rfl, rfl, rfl, Nat.le_refl _, fun _ _ _ => rfl⟩ (fun _ _ h => h), HW.out.trans ⟨rfl, rfl, rfl, Nat.le_refl _, fun _ _ _ => rfl⟩⟩
        have HSQ : Hid (St nk wq) := by rw [← hwq]; exact HA.out.keep _ wr _ HSk.out (Nat.le_refl _) (fun _ _ _ => rfl)
        clear hkd hwq wrk0 k1 ca0 cb0 ca1 cb1 ca2 cb2
        go_wp2_with fail
        refine wp_tail 15 mixed (by kernel_rfl) ?_
        simp only [List.take_succ_cons, List.take_zero, List.drop_succ_cons, List.drop_zero]
        repeat still_step
        refine wpStill_nil ?_
        go_wp2_with fail
        cases hr2 : rankB lt (b1, b2) (a1, a2) with
        | false =>
          have HC := aheadT HA.out wq.drew hb (nk) (b1, b2) (a1, a2) (HA.out.keep _ wq _ HSQ.out (Nat.le_refl _) (fun _ _ _ => rfl)) wqk0 HOA.out.2.1 HOA.out.1
          rw [hr2] at HC
          refine HC.mono ?_
          rintro e w3 ⟨rfl, hs3, hk3⟩
          have H3 : Hid (HeapAtT w3 hb (.slice (some ⟨rb, 0, none⟩) R.length cap) mb f caps last Rk ∧ St (nk + 1) w3 ∧ Kept (fun k => Mine hb (.slice (some ⟨rb, 0, none⟩) R.length cap) mb k ∨ Fr k) w w3) :=
            ⟨HKQ.out.1.kept (kept_of_drew hk3) HF.out, hs3, HKQ.out.2.step (kept_of_drew hk3) (fun _ _ h => .inr h)⟩
          have HR2 : Hid (rankB lt (b1, b2) (a1, a2) = false) := hr2
          clear hs3 hk3 hr2
          go_wp2_with fail
          (try simp only [Exit.inBlock, Exit.then])
          refine bodyPost_ret (results_none rfl _ _ _) rfl ?_
          obtain ⟨fu, hfl, hfu⟩ := HE.out
          rw [sinkL_one_no (by omega) HAB.out.1 (HQ.out.1 ▸ HAB.out.2.1) (HQ.out.2 ▸ HAB.out.2.2) HR2.out] at hfu
          rw [← hfu]
          exact ⟨rfl, H3.out⟩
        | true =>
          have HC := aheadT HA.out wq.drew hb (nk) (b1, b2) (a1, a2) (HA.out.keep _ wq _ HSQ.out (Nat.le_refl _) (fun _ _ _ => rfl)) wqk0 HOA.out.2.1 HOA.out.1
          rw [hr2] at HC
          refine HC.mono ?_
          rintro e w3 ⟨rfl, hs3, hk3⟩
          have HK3 : Hid (HeapAtT w3 hb (.slice (some ⟨rb, 0, none⟩) R.length cap) mb f caps last Rk) := HKQ.out.1.kept (kept_of_drew hk3) HF.out
          have H3 : Hid (St (nk + 1) w3 ∧ Kept (fun k => Mine hb (.slice (some ⟨rb, 0, none⟩) R.length cap) mb k ∨ Fr k) w w3) := ⟨hs3, HKQ.out.2.step (kept_of_drew hk3) (fun _ _ h => .inr h)⟩
          have HR2 : Hid (rankB lt (b1, b2) (a1, a2) = true) := hr2
          clear hs3 hk3 hr2
          go_wp2_with fail
          refine (swapT w3 hb mb _ f caps last Rk pk q (a1, a2) (b1, b2) HK3.out HAB.out.1 HAB.out.2.1 (by rw [HL.out]; exact hR)).mono ?_
          rintro e w4 ⟨rfl, hh4, hk4⟩
          have HK4 : Hid (HeapAtT w4 hb (.slice (some ⟨rb, 0, none⟩) R.length cap) mb f caps last (swapL Rk pk q)) := hh4
          have HS4 : Hid (St (nk + 1) w4) := HA.out.keep _ w3 w4 H3.out.1 hk4.size (fun k hk hF => hk4.block k hk (fun hM => HF.out k hM hF))
          have HW4 : Hid (Kept (fun k => Mine hb (.slice (some ⟨rb, 0, none⟩) R.length cap) mb k ∨ Fr k) w w4) := H3.out.2.step hk4 (fun _ _ h => .inl h)
          clear hh4 hk4
          go_wp2_with fail
          go_roundg (R.length - q)
          case measure => have := HQ.out; omega
          case rel =>
            obtain ⟨fu, hfl, hfu⟩ := HE.out
            have hq := HQ.out
            refine ⟨q, nk + 1, swapL Rk pk q, rfl, Nat.le_refl _, by omega, (show _ = _ by rw [swapL_length]; exact HL.out), HK4, HS4, HW4, fun r hr => HOk.out r (mem_swapL hr), fu - 1, by omega, ?_⟩
            rw [← hfu, sinkL_one_go (by omega) HAB.out.1 (HQ.out.1 ▸ HAB.out.2.1) (HQ.out.2 ▸ HAB.out.2.2) HR2.out]
            rw [← hq.1]
      · have i3 : (q2 : Int) < (R.length : Int) := by omega
        obtain ⟨c, hc⟩ : ∃ c, Rk[q2]? = some c := ⟨_, List.getElem?_eq_getElem (show q2 < Rk.length by rw [HL.out]; omega)⟩
        have cc := row_cellT hg hcur hc
        have HAB : Hid (Rk[pk]? = some a ∧ Rk[q]? = some b ∧ Rk[q2]? = some c) := ⟨ha, hb', hc⟩
        have HOA : Hid (ok a.2 ∧ ok b.2 ∧ ok c.2) := ⟨HOk.out a (List.mem_of_getElem? ha), HOk.out b (List.mem_of_getElem? hb'), HOk.out c (List.mem_of_getElem? hc)⟩
        obtain ⟨a1, a2⟩ := a
        obtain ⟨b1, b2⟩ := b
        obtain ⟨c1, c2⟩ := c
        have ca0 := ca 0 _ rfl
        have cb0 := cb 0 _ rfl
        have cc0 := cc 0 _ rfl
        have ca1 := ca 1 _ rfl
        have cb1 := cb 1 _ rfl
        have cc1 := cc 1 _ rfl
        have ca2 := ca 2 _ rfl; have cb2 := cb 2 _ rfl
        have cc2 := cc 2 _ rfl
        simp only [Nat.add_zero] at ca0 cb0 cc0
        clear ca cb cc ha hb' hc hg hcur hq hq2
        go_wp2_with fail
        refine wp_tail 25 mixed (by kernel_rfl) ?_
        simp only [List.take_succ_cons, List.take_zero, List.drop_succ_cons, List.drop_zero]
        repeat still_step
        refine wpStill_nil ?_
        go_wp2_with fail
        cases hr1 : rankB lt (c1, c2) (b1, b2) with
        | false =>
          have HC := aheadT HA.out wr.drew hb nk (c1, c2) (b1, b2) (HA.out.keep nk wr _ HSk.out (Nat.le_refl _) (fun _ _ _ => rfl)) wrk0 HOA.out.2.2 HOA.out.2.1
          rw [hr1] at HC
          refine HC.mono ?_
          rintro e wq ⟨rfl, hs1, hk1⟩
          have HKQ : Hid (HeapAtT wq hb (.slice (some ⟨rb, 0, none⟩) R.length cap) mb f caps last Rk ∧ Kept (fun k => Mine hb (.slice (some ⟨rb, 0, none⟩) R.length cap) mb k ∨ Fr k) w wq) :=
            ⟨HK.out.kept (kept_of_drew hk1) HF.out, HW.out.step (kept_of_drew hk1) (fun _ _ h => .inr h)⟩
          have HSQ : Hid (St (nk + 1) wq) := hs1
          have HR1 : Hid (rankB lt (c1, c2) (b1, b2) = false) := hr1
          have hnr : ¬ Fr rb := HF.out rb (.inr (.inl rfl))
          have hnh : ¬ Fr hb := HF.out hb (.inl rfl)
          have hkd := kept_of_drew hk1
          have wqk0 := hkd.cell hnh wrk0
          have qk1 := hkd.cell hnh k1
          have qa0 := hkd.cell hnr ca0
          have qb0 := hkd.cell hnr cb0
          have qc0 := hkd.cell hnr cc0
          have qa1 := hkd.cell hnr ca1
          have qb1 := hkd.cell hnr cb1
          have qc1 := hkd.cell hnr cc1
          have qa2 := hkd.cell hnr ca2
          have qb2 := hkd.cell hnr cb2
          have qc2 := hkd.cell hnr cc2
          clear hs1 hk1 hr1 hkd hnr hnh wrk0 k1 ca0 cb0 cc0 ca1 cb1 cc1 ca2 cb2 cc2
          go_wp2_with fail
          refine wp_tail 15 mixed (by kernel_rfl) ?_
          simp only [List.take_succ_cons, List.take_zero, List.drop_succ_cons, List.drop_zero]
          repeat still_step
          refine wpStill_nil ?_
          go_wp2_with fail
          cases hr2 : rankB lt (b1, b2) (a1, a2) with
          | false =>
            have HC := aheadT HA.out wq.drew hb (nk + 1) (b1, b2) (a1, a2) (HA.out.keep _ wq _ HSQ.out (Nat.le_refl _) (fun _ _ _ => rfl)) wqk0 HOA.out.2.1 HOA.out.1
            rw [hr2] at HC
            refine HC.mono ?_
            rintro e w3 ⟨rfl, hs3, hk3⟩
            have H3 : Hid (HeapAtT w3 hb (.slice (some ⟨rb, 0, none⟩) R.length cap) mb f caps last Rk ∧ St (nk + 1 + 1) w3 ∧ Kept (fun k => Mine hb (.slice (some ⟨rb, 0, none⟩) R.length cap) mb k ∨ Fr k) w w3) :=
              ⟨HKQ.out.1.kept (kept_of_drew hk3) HF.out, hs3, HKQ.out.2.step (kept_of_drew hk3) (fun _ _ h => .inr h)⟩
            have HR2 : Hid (rankB lt (b1, b2) (a1, a2) = false) := hr2
            clear hs3 hk3 hr2
            go_wp2_with fail
            (try simp only [Exit.inBlock, Exit.then])
            refine bodyPost_ret (results_none rfl _ _ _) rfl ?_
            obtain ⟨fu, hfl, hfu⟩ := HE.out
            rw [sinkL_b_no (by omega) HAB.out.1 (HQ.out.1 ▸ HAB.out.2.1) (HQ.out.2 ▸ HAB.out.2.2) HR1.out HR2.out] at hfu
            rw [← hfu]
            exact ⟨rfl, H3.out⟩
          | true =>
            have HC := aheadT HA.out wq.drew hb (nk + 1) (b1, b2) (a1, a2) (HA.out.keep _ wq _ HSQ.out (Nat.le_refl _) (fun _ _ _ => rfl)) wqk0 HOA.out.2.1 HOA.out.1
            rw [hr2] at HC
            refine HC.mono ?_
            rintro e w3 ⟨rfl, hs3, hk3⟩
            have HK3 : Hid (HeapAtT w3 hb (.slice (some ⟨rb, 0, none⟩) R.length cap) mb f caps last Rk) := HKQ.out.1.kept (kept_of_drew hk3) HF.out
            have H3 : Hid (St (nk + 1 + 1) w3 ∧ Kept (fun k => Mine hb (.slice (some ⟨rb, 0, none⟩) R.length cap) mb k ∨ Fr k) w w3) := ⟨hs3, HKQ.out.2.step (kept_of_drew hk3) (fun _ _ h => .inr h)⟩
            have HR2 : Hid (rankB lt (b1, b2) (a1, a2) = true) := hr2
            clear hs3 hk3 hr2
            go_wp2_with fail
            refine (swapT w3 hb mb _ f caps last Rk pk q (a1, a2) (b1, b2) HK3.out HAB.out.1 HAB.out.2.1 (by rw [HL.out]; exact hR)).mono ?_
            rintro e w4 ⟨rfl, hh4, hk4⟩
            have HK4 : Hid (HeapAtT w4 hb (.slice (some ⟨rb, 0, none⟩) R.length cap) mb f caps last (swapL Rk pk q)) := hh4
            have HS4 : Hid (St (nk + 1 + 1) w4) := HA.out.keep _ w3 w4 H3.out.1 hk4.size (fun k hk hF => hk4.block k hk (fun hM => HF.out k hM hF))
            have HW4 : Hid (Kept (fun k => Mine hb (.slice (some ⟨rb, 0, none⟩) R.length cap) mb k ∨ Fr k) w w4) := H3.out.2.step hk4 (fun _ _ h => .inl h)
            clear hh4 hk4
            go_wp2_with fail
            go_roundg (R.length - q)
            case measure => have := HQ.out; omega
            case rel =>
              obtain ⟨fu, hfl, hfu⟩ := HE.out
              have hq := HQ.out
              refine ⟨q, nk + 1 + 1, swapL Rk pk q, rfl, Nat.le_refl _, by omega, (show _ = _ by rw [swapL_length]; exact HL.out), HK4, HS4, HW4, fun r hr => HOk.out r (mem_swapL hr), fu - 1, by omega, ?_⟩
              rw [← hfu, sinkL_b_go (by omega) HAB.out.1 (HQ.out.1 ▸ HAB.out.2.1) (HQ.out.2 ▸ HAB.out.2.2) HR1.out HR2.out]
              rw [← hq.1]
        | true =>
          have HC := aheadT HA.out wr.drew hb nk (c1, c2) (b1, b2) (HA.out.keep nk wr _ HSk.out (Nat.le_refl _) (fun _ _ _ => rfl)) wrk0 HOA.out.2.2 HOA.out.2.1
          rw [hr1] at HC
          refine HC.mono ?_
          rintro e wq ⟨rfl, hs1, hk1⟩
          have HKQ : Hid (HeapAtT wq hb (.slice (some ⟨rb, 0, none⟩) R.length cap) mb f caps last Rk ∧ Kept (fun k => Mine hb (.slice (some ⟨rb, 0, none⟩) R.length cap) mb k ∨ Fr k) w wq) :=
            ⟨HK.out.kept (kept_of_drew hk1) HF.out, HW.out.step (kept_of_drew hk1) (fun _ _ h => .inr h)⟩
          have HSQ : Hid (St (nk + 1) wq) := hs1
          have HR1 : Hid (rankB lt (c1, c2) (b1, b2) = true) := hr1
          have hnr : ¬ Fr rb := HF.out rb (.inr (.inl rfl))
          have hnh : ¬ Fr hb := HF.out hb (.inl rfl)
          have hkd := kept_of_drew hk1
          have wqk0 := hkd.cell hnh wrk0
          have qk1 := hkd.cell hnh k1
          have qa0 := hkd.cell hnr ca0
          have qb0 := hkd.cell hnr cb0
          have qc0 := hkd.cell hnr cc0
          have qa1 := hkd.cell hnr ca1
          have qb1 := hkd.cell hnr cb1
          have qc1 := hkd.cell hnr cc1
          have qa2 := hkd.cell hnr ca2
          have qb2 := hkd.cell hnr cb2
          have qc2 := hkd.cell hnr cc2
          clear hs1 hk1 hr1 hkd hnr hnh wrk0 k1 ca0 cb0 cc0 ca1 cb1 cc1 ca2 cb2 cc2
          go_wp2_with fail
          refine wp_tail 15 mixed (by kernel_rfl) ?_
          simp only [List.take_succ_cons, List.take_zero, List.drop_succ_cons, List.drop_zero]
          repeat still_step
          refine wpStill_nil ?_
          go_wp2_with fail
          cases hr2 : rankB lt (c1, c2) (a1, a2) with
          | false =>
            have HC := aheadT HA.out wq.drew hb (nk + 1) (c1, c2) (a1, a2) (HA.out.keep _ wq _ HSQ.out (Nat.le_refl _) (fun _ _ _ => rfl)) wqk0 HOA.out.2.2 HOA.out.1
            rw [hr2] at HC
            refine HC.mono ?_
            rintro e w3 ⟨rfl, hs3, hk3⟩
            have H3 : Hid (HeapAtT w3 hb (.slice (some ⟨rb, 0, none⟩) R.length cap) mb f caps last Rk ∧ St (nk + 1 + 1) w3 ∧ Kept (fun k => Mine hb (.slice (some ⟨rb, 0, none⟩) R.length cap) mb k ∨ Fr k) w w3) :=
              ⟨HKQ.out.1.kept (kept_of_drew hk3) HF.out, hs3, HKQ.out.2.step (kept_of_drew hk3) (fun _ _ h => .inr h)⟩
            have HR2 : Hid (rankB lt (c1, c2) (a1, a2) = false) := hr2
            clear hs3 hk3 hr2
            go_wp2_with fail
            (try simp only [Exit.inBlock, Exit.then])
            refine bodyPost_ret (results_none rfl _ _ _) rfl ?_
            obtain ⟨fu, hfl, hfu⟩ := HE.out
            rw [sinkL_c_no (by omega) HAB.out.1 (HQ.out.1 ▸ HAB.out.2.1) (HQ.out.2 ▸ HAB.out.2.2) HR1.out HR2.out] at hfu
            rw [← hfu]
            exact ⟨rfl, H3.out⟩
          | true =>
            have HC := aheadT HA.out wq.drew hb (nk + 1) (c1, c2) (a1, a2) (HA.out.keep _ wq _ HSQ.out (Nat.le_refl _) (fun _ _ _ => rfl)) wqk0 HOA.out.2.2 HOA.out.1
            rw [hr2] at HC
            refine HC.mono ?_
            rintro e w3 ⟨rfl, hs3, hk3⟩
            have HK3 : Hid (HeapAtT w3 hb (.slice (some ⟨rb, 0, none⟩) R.length cap) mb f caps last Rk) := HKQ.out.1.kept (kept_of_drew hk3) HF.out
            have H3 : Hid (St (nk + 1 + 1) w3 ∧ Kept (fun k => Mine hb (.slice (some ⟨rb, 0, none⟩) R.length cap) mb k ∨ Fr k) w w3) := ⟨hs3, HKQ.out.2.step (kept_of_drew hk3) (fun _ _ h => .inr h)⟩
            have HR2 : Hid (rankB lt (c1, c2) (a1, a2) = true) := hr2
            clear hs3 hk3 hr2
            go_wp2_with fail
            refine (swapT w3 hb mb _ f caps last Rk pk q2 (a1, a2) (c1, c2) HK3.out HAB.out.1 HAB.out.2.2 (by rw [HL.out]; exact hR)).mono ?_
            rintro e w4 ⟨rfl, hh4, hk4⟩
            have HK4 : Hid (HeapAtT w4 hb (.slice (some ⟨rb, 0, none⟩) R.length cap) mb f caps last (swapL Rk pk q2)) := hh4
            have HS4 : Hid (St (nk + 1 + 1) w4) := HA.out.keep _ w3 w4 H3.out.1 hk4.size (fun k hk hF => hk4.block k hk (fun hM => HF.out k hM hF))
            have HW4 : Hid (Kept (fun k => Mine hb (.slice (some ⟨rb, 0, none⟩) R.length cap) mb k ∨ Fr k) w w4) := H3.out.2.step hk4 (fun _ _ h => .inl h)
            clear hh4 hk4
            go_wp2_with fail
            go_roundg (R.length - q2)
            case measure => have := HQ.out; omega
            case rel =>
              obtain ⟨fu, hfl, hfu⟩ := HE.out
              have hq := HQ.out
              refine ⟨q2, nk + 1 + 1, swapL Rk pk q2, rfl, Nat.le_refl _, by omega, (show _ = _ by rw [swapL_length]; exact HL.out), HK4, HS4, HW4, fun r hr => HOk.out r (mem_swapL hr), fu - 1, by omega, ?_⟩
              rw [← hfu, sinkL_c_go (by omega) HAB.out.1 (HQ.out.1 ▸ HAB.out.2.1) (HQ.out.2 ▸ HAB.out.2.2) HR1.out HR2.out]
              rw [← hq.2]
end Go.Proofs.Ytkjjinccnaphpaa
