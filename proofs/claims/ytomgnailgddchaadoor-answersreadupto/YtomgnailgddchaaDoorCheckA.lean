/-
  The walk of Check.
-/
import Derived.Test.YtomgnailgddchaaDoorReadA
namespace Go.Proofs.YtomgnailgddchaaDoor
open Go.RowKit Go.Sort

theorem checkE_kind {r : Rp} (h : ¬ (1 ≤ r.kind ∧ r.kind ≤ 23)) : checkE r = 80 := by unfold checkE; rw [if_neg h]
theorem checkE_bad {r : Rp} (h : 1 ≤ r.kind ∧ r.kind ≤ 23) (h2 : rightB r = false) : checkE r = 81 := by unfold checkE; rw [if_pos h, h2]; rfl
theorem checkE_ok {r : Rp} (h : 1 ≤ r.kind ∧ r.kind ≤ 23) (h2 : rightB r = true) : checkE r = 0 := by unfold checkE; rw [if_pos h, h2]; rfl
/-- The numbers of a reply are as they may be. -/
def numsB (r : Rp) : Bool := decide (min (idOf r.kind.toNat) 1 ≤ r.id) && decide (r.id ≤ idOf r.kind.toNat) && decide (0 ≤ r.num) && decide (r.num ≤ nuOf r.kind.toNat) && decide ((r.body.length : Int) ≤ boOf r.kind.toNat)
theorem right_nums {r : Rp} (h : 1 ≤ r.kind ∧ r.kind ≤ 23) : rightB r = (numsB r && (if tuOf r.kind.toNat then validB r.tube else r.tube.isEmpty)) := by
  unfold rightB numsB
  rw [decide_eq_true h.1, decide_eq_true h.2]
  simp [Bool.and_assoc]

set_option maxHeartbeats 4000000 in
set_option maxRecDepth 1000000 in
theorem check_any (w : World) (r : Rp) (a : Option Addr) (c : Nat) (hT : Tabs w) :
    Calls Tryd.prog 30 #[rpV r (.slice a r.body.length c)] w fun x w' => x = .returned (.int .i64 (checkE r)) ∧ Below w.heap.size w w' := by
  unfold rpV
  by_cases hk : 1 ≤ r.kind ∧ r.kind ≤ 23
  · obtain ⟨k, hkk⟩ : ∃ k : Nat, r.kind = k := ⟨r.kind.toNat, by omega⟩
    have hk24 : k < 24 := by omega
    have e : r.kind.toNat = k := by omega
    have RN := right_nums hk
    have NB : numsB r = (decide (min (idOf k) 1 ≤ r.id) && decide (r.id ≤ idOf k) && decide (0 ≤ r.num) && decide (r.num ≤ nuOf k) && decide ((r.body.length : Int) ≤ boOf k)) := by unfold numsB; rw [e]
    rw [e] at RN
    have k0 := hT.word k hk24
    have k1 := hT.id k hk24
    have k2 := hT.num k hk24
    have k3 := hT.body k hk24
    have k4 := hT.tube k hk24
    have h0 : 0 < w.heap.size := cell_lt k0
    have CK := checkE_bad hk
    have CO := checkE_ok hk
    have hkind := hk
    rw [hkk] at hk ⊢
    have i1 : (0 : Int) ≤ (k : Int) := by omega
    have i2 : (k : Int) < 24 := by omega
    have HRN := hide RN
    have HNB := hide NB
    have HCK := hide CK
    have HCO := hide CO
    have HKK := hide hkk
    clear hT RN NB CK CO hkk e hkind
    generalize idOf k = mi at *
    generalize nuOf k = mn at *
    generalize boOf k = mb at *
    generalize tuOf k = mt at *
    generalize checkE r = res at *
    cases mt with
    | true =>
      go_enter Tryd.func30, Tryd.ntmps30
      go_wp2_with (first
        | (go_at_call 37; refine (valid_any _ _).mono ?_; rintro e w' ⟨rfl, rfl⟩))
      all_goals go_ret
      all_goals refine ⟨?_, ((Below.refl _ w).alloc (Nat.le_refl _) _).alloc (by simp) _⟩
      all_goals first
        | (have hb : numsB r = false := by
             rw [HNB.out]
             simp only [Bool.and_eq_false_iff, decide_eq_false_iff_not]
             omega
           rw [HCK.out (by rw [HRN.out, hb]; rfl)]
           rfl)
        | (have hb : numsB r = true := by
             rw [HNB.out]
             simp only [Bool.and_eq_true, decide_eq_true_eq]
             omega
           rename_i hv
           first
             | (rw [HCO.out (by rw [HRN.out, hb]; simpa using hv)]
                rfl)
             | (rw [HCK.out (by rw [HRN.out, hb]; simpa using hv)]
                rfl))
    | false =>
      go_enter Tryd.func30, Tryd.ntmps30
      go_wp2_with fail
      all_goals go_ret
      all_goals refine ⟨?_, ((Below.refl _ w).alloc (Nat.le_refl _) _).alloc (by simp) _⟩
      all_goals first
        | (have hb : numsB r = false := by
             rw [HNB.out]
             simp only [Bool.and_eq_false_iff, decide_eq_false_iff_not]
             omega
           rw [HCK.out (by rw [HRN.out, hb]; rfl)]
           rfl)
        | (have hb : numsB r = true := by
             rw [HNB.out]
             simp only [Bool.and_eq_true, decide_eq_true_eq]
             omega
           rename_i hv
           first
             | (rw [HCO.out (by rw [HRN.out, hb]; simpa using hv)]
                rfl)
             | (rw [HCK.out (by rw [HRN.out, hb]; simpa using hv)]
                rfl))
  · go_enter Tryd.func30, Tryd.ntmps30
    have HE := hide (checkE_kind hk)
    go_wp2_with fail
    all_goals go_ret
    all_goals exact ⟨by rw [HE.out]; rfl, (Below.refl _ w).alloc (Nat.le_refl _) _⟩
end Go.Proofs.YtomgnailgddchaaDoor
