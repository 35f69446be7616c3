/-
  The walk of 'rise'.
-/
import Derived.Test.YtonfdmbcbfpgdaaSwapM
import Derived.Test.YtonfdmbcbfpgdaaHeapy
namespace Go.Proofs.Ytonfdmbcbfpgdaa
open Go.RowKit

theorem HeapAtM.map {w : World} {hb mb : Nat} {v : Value} {f : FuncId} {rk : Int} {last : Int} {R : List (Int × Mk)} (h : HeapAtM w hb v mb f rk last R) : mb < w.heap.size := by
  obtain ⟨g, ht, _⟩ := h.tab
  exact ht.lt
theorem HeapAtM.kept {P : Nat → Prop} {w w' : World} {hb mb : Nat} {v : Value} {f : FuncId} {rk : Int} {last : Int} {R : List (Int × Mk)} (h : HeapAtM w hb v mb f rk last R) (hk : Kept P w w') (hP : ∀ k, Mine hb v mb k → ¬ P k) : HeapAtM w' hb v mb f rk last R := by
  obtain ⟨box, row, ⟨g, ht, hs⟩, fit⟩ := h
  refine ⟨(hk.block hb (Array.getElem?_eq_some_iff.1 box).1 (hP hb (.inl rfl))).trans box, ⟨row.1, ?_⟩, ⟨g, ht.kept hk (hP mb (.inr (.inr rfl))), hs⟩, fit⟩
  rcases row.2 with h0 | ⟨rb, cap, cur, rfl, hB, hg, rest⟩
  · exact .inl h0
  · exact .inr ⟨rb, cap, cur, rfl, hB, (hk.block rb (Array.getElem?_eq_some_iff.1 hg).1 (hP rb (.inr (.inl rfl)))).trans hg, rest⟩
theorem HeapAtM.lt {w : World} {hb mb : Nat} {v : Value} {f : FuncId} {rk : Int} {last : Int} {R : List (Int × Mk)} (h : HeapAtM w hb v mb f rk last R) (k : Nat) (hk : Mine hb v mb k) : k < w.heap.size := by
  rcases hk with rfl | hk | rfl
  · exact (Array.getElem?_eq_some_iff.1 h.box).1
  · rcases h.row.2 with ⟨rfl, _⟩ | ⟨rb, cap, cur, rfl, hB, hg, rest⟩
    · cases hk
    · cases hk; exact (Array.getElem?_eq_some_iff.1 hg).1
  · exact h.map

set_option maxHeartbeats 4000000 in
set_option maxRecDepth 1000000 in
theorem riseM {f : FuncId} {rk : Int} {lt : Mk → Mk → Bool} {ok : Mk → Prop} {Fr : Nat → Prop} {St : Nat → World → Prop} (A : AskerM f rk lt ok Fr St)
    (w : World) (hb mb : Nat) (v : Value) (last : Int) (R : List (Int × Mk)) (p n : Nat) (h : HeapAtM w hb v mb f rk last R) (hp : p < R.length) (hst : St n w) (hok : ∀ r ∈ R, ok r.2) (hfr : ∀ k, Mine hb v mb k → ¬ Fr k) (hR : R.length ≤ 1073741824) :
    Calls Try.prog 69 #[.pointer (some ⟨hb, 0, none⟩), .int .i64 (p : Int)] w fun e w' => e = .returned (.bool (decide ((riseL lt p R p n).2.1 ≠ p))) ∧
      HeapAtM w' hb v mb f rk last (riseL lt p R p n).1 ∧ St (riseL lt p R p n).2.2 w' ∧ Kept (fun k => Mine hb v mb k ∨ Fr k) w w' := by
  have HA : Hid (AskerM f rk lt ok Fr St) := A
  have HH : Hid (HeapAtM w hb v mb f rk last R) := h
  have HS : Hid (St n w) := hst
  have HO : Hid (∀ r ∈ R, ok r.2) := hok
  have HF : Hid (∀ k, Mine hb v mb k → ¬ Fr k) := hfr
  clear A h hst hok hfr
  go_enter Try.func69, Try.ntmps69
  go_wp2_with fail
  go_loopg [1] p (fun gk s1 wr => ∃ (pk nk : Nat) (Rk : List (Int × Mk)), s1 = .int .i64 (pk : Int) ∧ pk ≤ gk ∧ pk < R.length ∧ Hid (Rk.length = R.length) ∧ Hid (HeapAtM wr hb v mb f rk last Rk) ∧ Hid (St nk wr) ∧ Hid (Kept (fun k => Mine hb v mb k ∨ Fr k) w wr) ∧
    Hid (∀ r ∈ Rk, ok r.2) ∧ Hid (∃ fu, pk ≤ fu ∧ riseL lt fu Rk pk nk = riseL lt p R p n))
  case atStart => exact ⟨p, n, R, rfl, Nat.le_refl _, hp, rfl, HH, HS, Kept.refl _ _, HO, p, Nat.le_refl _, rfl⟩
  case round =>
    obtain ⟨pk, nk, Rk, rfl, hpg, hpk, HL, HK, HSk, HW, HOk, HE⟩ := hrel
    have hv : ∃ rb cap cur, v = .slice (some ⟨rb, 0, none⟩) R.length cap ∧ wr.heap[rb]? = some (.cells cur 105 (0, 0)) ∧ cur.toList.take (Rk.length * 5) = flatM Rk := by
      obtain ⟨rb, cap, cur, h1, h2, _, _, _, h3⟩ := HK.out.shape (List.getElem?_eq_getElem (show pk < Rk.length by rw [HL.out]; exact hpk))
      rw [HL.out] at h1
      exact ⟨rb, cap, cur, h1, h2, h3⟩
    obtain ⟨rb, cap, cur, rfl, hg, hcur⟩ := hv
    have k0 : wr.cell? ⟨hb, 0, none⟩ = some (.func (.func f) #[.int .i64 rk] #[]) := by simp [World.cell?, HK.out.box]
    have k1 : wr.cell? ⟨hb, 1, none⟩ = some (.slice (some ⟨rb, 0, none⟩) R.length cap) := by simp [World.cell?, HK.out.box]
    by_cases h0 : pk = 0
    · subst h0
      clear hg hcur
      go_wp2_with fail
      go_ret
      obtain ⟨fu, _, hfu⟩ := HE.out
      rw [riseL_zero] at hfu
      rw [← hfu]
      refine ⟨?_, HK.out, HSk.out, HW.out⟩
      by_cases hp0 : p = 0
      · subst hp0; simp
      · have : ((0 : Int) != (p : Int)) = true := by simp; omega
        simp [this]
        omega
    · obtain ⟨q, hq⟩ : ∃ q, q = (pk - 1) / 2 := ⟨_, rfl⟩
      have hqk : q < R.length := by omega
      obtain ⟨a, ha⟩ : ∃ a, Rk[pk]? = some a := ⟨_, List.getElem?_eq_getElem (show pk < Rk.length by rw [HL.out]; exact hpk)⟩
      obtain ⟨b, hb'⟩ : ∃ b, Rk[q]? = some b := ⟨_, List.getElem?_eq_getElem (show q < Rk.length by rw [HL.out]; exact hqk)⟩
      have ca := row_cellM hg hcur ha
      have cb := row_cellM hg hcur hb'
      have HAB : Hid (Rk[pk]? = some a ∧ Rk[q]? = some b) := ⟨ha, hb'⟩
      have HQ : Hid (q = (pk - 1) / 2) := hq
      have hq2 : ((pk : Int) - 1).tdiv 2 = (q : Int) := by rw [hq]; rw [show (pk : Int) - 1 = ((pk - 1 : Nat) : Int) by omega]; rfl
      have hp0 : (0 : Int) < (pk : Int) := by omega
      have i1 : (pk : Int) < (R.length : Int) := by omega
      have i2 : (q : Int) < (R.length : Int) := by omega
      have HOA : Hid (ok a.2 ∧ ok b.2) := ⟨HOk.out a (List.mem_of_getElem? ha), HOk.out b (List.mem_of_getElem? hb')⟩
      obtain ⟨a1, a2⟩ := a
      obtain ⟨b1, b2⟩ := b
      have ca0 := ca 0 _ rfl
      have cb0 := cb 0 _ rfl
      have ca1 := ca 1 _ rfl
      have cb1 := cb 1 _ rfl
      have ca2 := ca 2 _ rfl; have cb2 := cb 2 _ rfl; have ca3 := ca 3 _ rfl; have cb3 := cb 3 _ rfl; have ca4 := ca 4 _ rfl; have cb4 := cb 4 _ rfl
      simp only [Nat.add_zero] at ca0 cb0
      clear ca cb ha hb' hq hg hcur
      go_wp2_with fail
      refine wp_tail 15 mixed (by kernel_rfl) ?_
      simp only [List.take_succ_cons, List.take_zero, List.drop_succ_cons, List.drop_zero]
      repeat still_step
      refine wpStill_nil ?_
      go_wp2_with fail
      cases hr : rankB lt (a1, a2) (b1, b2) with
      | false =>
        have HC := aheadM HA.out wr.drew hb nk (a1, a2) (b1, b2) (HA.out.keep nk wr _ HSk.out (Nat.le_refl _) (fun _ _ _ => rfl)) k0 HOA.out.1 HOA.out.2
        rw [hr] at HC
        refine HC.mono ?_
        rintro e w1 ⟨rfl, hs1, hk1⟩
        have H1 : Hid (HeapAtM w1 hb (.slice (some ⟨rb, 0, none⟩) R.length cap) mb f rk last Rk ∧ St (nk + 1) w1 ∧ Kept (fun k => Mine hb (.slice (some ⟨rb, 0, none⟩) R.length cap) mb k ∨ Fr k) w w1) :=
          ⟨HK.out.kept (kept_of_drew hk1) HF.out, hs1, HW.out.step (kept_of_drew hk1) (fun _ _ h => .inr h)⟩
        have HR : Hid (rankB lt (a1, a2) (b1, b2) = false) := hr
        clear hs1 hk1 hr
        go_wp2_with fail
        go_ret
        obtain ⟨fu, hfl, hfu⟩ := HE.out
        rw [riseL_no h0 hfl HAB.out.1 (HQ.out ▸ HAB.out.2) HR.out] at hfu
        rw [← hfu]
        refine ⟨?_, H1.out⟩
        by_cases hpp : p = pk
        · subst hpp; simp
        · have : ((pk : Int) != (p : Int)) = true := by simp; omega
          simp [this]
          omega
      | true =>
        have HC := aheadM HA.out wr.drew hb nk (a1, a2) (b1, b2) (HA.out.keep nk wr _ HSk.out (Nat.le_refl _) (fun _ _ _ => rfl)) k0 HOA.out.1 HOA.out.2
        rw [hr] at HC
        refine HC.mono ?_
        rintro e w1 ⟨rfl, hs1, hk1⟩
        have HK1 : Hid (HeapAtM w1 hb (.slice (some ⟨rb, 0, none⟩) R.length cap) mb f rk last Rk) := HK.out.kept (kept_of_drew hk1) HF.out
        have H1 : Hid (St (nk + 1) w1 ∧ Kept (fun k => Mine hb (.slice (some ⟨rb, 0, none⟩) R.length cap) mb k ∨ Fr k) w w1) := ⟨hs1, HW.out.step (kept_of_drew hk1) (fun _ _ h => .inr h)⟩
        have HR : Hid (rankB lt (a1, a2) (b1, b2) = true) := hr
        clear hs1 hk1 hr k0 k1 ca0 cb0 ca1 cb1 ca2 cb2 ca3 cb3 ca4 cb4
        go_wp2_with fail
        refine (swapM w1 hb mb _ f rk last Rk pk q (a1, a2) (b1, b2) HK1.out HAB.out.1 HAB.out.2 (by rw [HL.out]; exact hR)).mono ?_
        rintro e w2 ⟨rfl, hh2, hk2⟩
        have HK2 : Hid (HeapAtM w2 hb (.slice (some ⟨rb, 0, none⟩) R.length cap) mb f rk last (swapL Rk pk q)) := hh2
        have HS2 : Hid (St (nk + 1) w2) := HA.out.keep _ w1 w2 H1.out.1 hk2.size (fun k hk hF => hk2.block k hk (fun hM => HF.out k hM hF))
        have HW2 : Hid (Kept (fun k => Mine hb (.slice (some ⟨rb, 0, none⟩) R.length cap) mb k ∨ Fr k) w w2) := H1.out.2.step hk2 (fun _ _ h => .inl h)
        clear hh2 hk2
        go_wp2_with fail
        go_roundg q
        case measure => have := HQ.out; omega
        case rel =>
          obtain ⟨fu, hfl, hfu⟩ := HE.out
          have hq := HQ.out
          refine ⟨q, nk + 1, swapL Rk pk q, rfl, Nat.le_refl _, hqk, (show _ = _ by rw [swapL_length]; exact HL.out), HK2, HS2, HW2, fun r hr => HOk.out r (mem_swapL hr), fu - 1, by omega, ?_⟩
          rw [← hfu, riseL_go h0 hfl HAB.out.1 (hq ▸ HAB.out.2) HR.out, ← hq]
end Go.Proofs.Ytonfdmbcbfpgdaa
