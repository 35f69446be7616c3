/-
  The walk of QueueTurns.
-/
import Derived.Test.YtpnbmokgjinnbaaPlainTurns
import Derived.Test.YtpnbmokgjinnbaaShown
import Derived.Test.YtpnbmokgjinnbaaPick
import Derived.Test.YtpnbmokgjinnbaaBase
import Derived.Deep.OwnRows
namespace Go.Proofs.Ytpnbmokgjinnbaa.queueTurns
open Go.RowKit

theorem info_bool : (Try.prog.info? 4).map (fun i => (i.zero, i.size, i.bytes)) = some (some (.bool false), 1, 1) := by kernel_rfl

set_option maxHeartbeats 8000000 in
set_option maxRecDepth 1000000 in
theorem walk (many : Int) (b : Option Addr) (capb : Nat) (zs : List Int) (w : World) (hmany : -9223372036854775808 ≤ many ∧ many ≤ 9223372036854775807) (hz : IsInts w b capb zs ∧ (b = none → capb = 0)) :
    Calls Try.prog 5 #[.int .i64 many, .slice b zs.length capb] w fun e w' => e = .returned (.bool true) ∧ Below w.heap.size w w' := by
  have hnn := fun w p => q_not_nilI w p
  have HZ : Hid (IsInts w b capb zs) := hz.1
  have hzl : zs.length ≤ 9223372036854775807 := by have h1 := hz.1.1; have h2 := hz.1.2.1; unfold maxLen at h2; omega
  clear hz
  obtain ⟨i0, hi, hz0, hz1, hz2⟩ := info_parts info_bool
  go_enter Try.func5, Try.ntmps5
  go_wp2_with fail
  refine (shown_any _).mono ?_
  rintro e w1 ⟨rfl, B1⟩
  have HB1 : Hid (Below w.heap.size w w1) := B1
  clear B1
  go_wp2_with fail
  refine (newFI w w1 HB1.out).mono ?_
  rintro e w2 ⟨rfl, h2, _⟩
  obtain ⟨qb, hqb⟩ : ∃ qb, qb = w1.heap.size + 1 := ⟨_, rfl⟩
  obtain ⟨mb, hmb⟩ : ∃ mb, mb = w1.heap.size := ⟨_, rfl⟩
  rw [← hqb]
  rw [← hqb, ← hmb] at h2
  have HF2 : Hid (FromI w w2 qb mb 0 []) := h2
  clear h2 hqb hmb HB1
  go_wp2_with fail
  refine (pick_any _ many 300 hmany (by decide) (by decide)).mono ?_
  rintro e w3 ⟨⟨n, hn, rfl⟩, hW⟩
  have hW := hW.symm
  subst hW
  go_wp2_with fail
  go_loopg [8] n (fun gk s8 wr => ∃ (k : Nat) (R : List Stand), s8 = .int .i64 ((k : Int) + 1) ∧ k ≤ n ∧ n - k ≤ gk ∧ Hid (FromI w wr qb mb (k : Int) R) ∧ Hid (view R = turns k (fun _ => false) ∧ R.length = k))
  case atStart => exact ⟨0, [], rfl, Nat.zero_le _, Nat.le_refl _, HF2, ⟨rfl, rfl⟩⟩
  case round =>
    clear HF2
    obtain ⟨k, R, rfl, hk, hgk, HF, HV⟩ := hrel
    by_cases hkn : k < n
    · have t1 : (k : Int) + 1 ≤ (n : Int) := by omega
      go_wp2_with fail
      refine (joinFI HF.out _ (by omega) (by rw [HV.out.2]; unfold maxLen; omega) ⟨_, rfl⟩).mono ?_
      rintro e wn ⟨rfl, h3, _⟩
      have HF3 : Hid (FromI w wn qb mb ((k : Int) + 1) (R ++ [⟨wr.heap.size, (k : Int) + 1, .int .i64 (1000 - ((k : Int) + 1))⟩])) := h3
      clear h3
      go_wp2_with fail
      go_roundg (n - (k + 1))
      case measure => omega
      case rel =>
        refine ⟨k + 1, _, by go_num, by omega, Nat.le_refl _, by simpa using HF3, ?_⟩
        refine ⟨?_, by rw [List.length_append, HV.out.2]; rfl⟩
        rw [view_append, HV.out.1, turns_snoc _ _ rfl]
        rfl
    · have t1 : ¬ (k : Int) + 1 ≤ (n : Int) := by omega
      obtain rfl : k = n := by omega
      obtain ⟨wg, hwg⟩ : ∃ wg, wg = wr.alloc (.cells (madeCells #[.bool false] (k + 1)) 4) := ⟨_, rfl⟩
      obtain ⟨gb, hgb⟩ : ∃ gb, gb = wr.heap.size := ⟨_, rfl⟩
      have hmk : (Instr.makeSlice 65 (.int .i64 ((k : Int) + 1)) (.int .i64 ((k : Int) + 1))).run Try.prog wr = .ok (.slice (some ⟨gb, 0, none⟩) (k + 1) (k + 1)) wg := by
        have := run_make_row (P := Try.prog) 65 4 i0 (.bool false) Try.underlying65 hi hz0 hz1 rfl .i64 .i64 (k + 1) (by rw [hz2]; omega) (by omega) wr
        rw [hgb, hwg]
        simpa using this
      have HGG : Hid (GoneRow wg gb k (fun _ => false)) := by rw [hwg, hgb]; exact GoneRow.made wr k
      have HFG : Hid (FromI w wg qb mb (k : Int) R) := HF.out.below (by rw [hwg]; exact (Below.refl _ wr).alloc (Nat.le_refl _) _)
      have HGB : Hid (w.heap.size ≤ gb) := (show w.heap.size ≤ gb by have := HF.out.bel.size; omega)
      have HRL : Hid (R.length = k) := HV.out.2
      clear hwg hgb HF
      go_wp2_with fail
      go_loopg [10, 11] zs.length (fun gk s10 s11 wr => ∃ (m : Nat) (g : Nat → Bool) (R : List Stand), s10 = .int .i64 (R.length : Int) ∧ s11 = .int .i64 (m : Int) ∧ m ≤ zs.length ∧ zs.length - m ≤ gk ∧ Hid (FromI w wr qb mb (k : Int) R) ∧ Hid (view R = turns k g) ∧ Hid (GoneRow wr gb k g) ∧ R.length ≤ k)
      case atStart => exact ⟨0, fun _ => false, R, by rw [HRL.out], rfl, Nat.zero_le _, Nat.le_refl _, HFG, HV.out.1, HGG, by rw [HRL.out]; exact Nat.le_refl _⟩
      case round =>
        clear HFG HV HGG HRL R
        obtain ⟨m, g, R, rfl, rfl, hm, hgm, HF, HV, HG, hRk⟩ := hrel
        by_cases hc : m < zs.length ∧ 0 < k
        · obtain ⟨hc1, hc2⟩ := hc
          have t1 : (m : Int) < (zs.length : Int) := by omega
          have t2 : (k : Int) > 0 := by omega
          obtain ⟨x, hx⟩ : ∃ x, zs[m]? = some x := ⟨_, List.getElem?_eq_getElem hc1⟩
          have hxb := int_bounds (HZ.out.2.2.1 x (List.mem_of_getElem? hx))
          rcases HZ.out.2.2.2 with h0 | ⟨b', o, rfl, hlt, hcs⟩
          · rw [h0] at hc1; simp at hc1
          have cx : wr.cell? ⟨b', o + m, none⟩ = some (.int .i64 x) := (HF.out.bel.cell (p := ⟨b', o + m, none⟩) hlt).trans (hcs m x hx)
          clear hcs hx
          go_wp2_with fail
          refine (pick_any _ x k hxb hc2 (by omega)).mono ?_
          rintro e w4 ⟨⟨r, hr, rfl⟩, hW⟩
          have hW := hW.symm
          subst hW
          have HL := leaveFI HF.out ((r : Int) + 1) (WalkArith.wf_i64 (by omega))
          rw [getOf_turns HV.out hr, show (r : Int) + 1 = 1 + (r : Int) by omega] at HL
          have HLH : Hid (Calls Try.prog 23 #[.pointer (some ⟨qb, 0, none⟩), .int .i64 (1 + (r : Int))] wr _) := HL
          clear HL cx
          cases hg : g r with
          | true =>
            rw [hg] at HLH
            simp only [if_true, Bool.not_true] at HLH
            go_wp2_with fail
            refine HLH.out.mono ?_
            rintro e w5 ⟨rfl, h5, k5⟩
            have HG5 : GoneRow w5 gb k g := HG.out.block (k5.block gb HG.out.lt (HG.out.not HF.out.q))
            have c5 : w5.cell? ⟨gb, 1 + r, none⟩ = some (.bool true) := by rw [Nat.add_comm, HG5.cell hr, hg]
            have f5 := HG5.frozen (1 + r)
            go_wp2_with fail
            go_roundg (zs.length - (m + 1))
            case measure => omega
            case rel =>
              have hf := leave_same HV.out hg
              rw [show (r : Int) + 1 = 1 + (r : Int) by omega] at hf
              rw [hf] at h5
              have hk6 : Kept (fun y => y = gb) w5 (w5.setCell ⟨gb, 1 + r, none⟩ (.bool true)) := Kept.setCell _ _ _ _ _ rfl
              have hgs := HG5.set hr
              rw [Nat.add_comm r 1] at hgs
              refine ⟨m + 1, fun j => g j || j == r, R, rfl, by go_num, by omega, Nat.le_refl _, h5.kept hk6 (fun y hy e => HG5.not h5.q (e ▸ hy)) (fun y hy e => by have := HGB.out; omega), ?_, hgs, hRk⟩
              refine HV.out.trans (turns_congr _ _ _ fun j _ => ?_)
              by_cases e : j = r
              · subst e; simp [hg]
              · simp [e]
          | false =>
            rw [hg] at HLH
            simp only [Bool.false_eq_true, if_false, Bool.not_false] at HLH
            have hl := leave_length HV.out hr hg
            rw [show (r : Int) + 1 = 1 + (r : Int) by omega] at hl
            obtain ⟨R', hR'⟩ : ∃ R', R' = R.filter (fun s => s.tk != 1 + (r : Int)) := ⟨_, rfl⟩
            rw [← hR'] at hl
            have e1 : (R.length : Int) - 1 = (R'.length : Int) := by omega
            have HR' : Hid (R' = R.filter (fun s => s.tk != 1 + (r : Int))) := hR'
            clear hR'
            go_wp2_with fail
            refine HLH.out.mono ?_
            rintro e w5 ⟨rfl, h5, k5⟩
            have HG5 : GoneRow w5 gb k g := HG.out.block (k5.block gb HG.out.lt (HG.out.not HF.out.q))
            have c5 : w5.cell? ⟨gb, 1 + r, none⟩ = some (.bool false) := by rw [Nat.add_comm, HG5.cell hr, hg]
            have f5 := HG5.frozen (1 + r)
            go_wp2_with fail
            go_roundg (zs.length - (m + 1))
            case measure => omega
            case rel =>
              rw [← HR'.out] at h5
              have hk6 : Kept (fun y => y = gb) w5 (w5.setCell ⟨gb, 1 + r, none⟩ (.bool true)) := Kept.setCell _ _ _ _ _ rfl
              have hgs := HG5.set hr
              rw [Nat.add_comm r 1] at hgs
              refine ⟨m + 1, fun j => g j || j == r, R', by first | rfl | (rw [e1]), by go_num, by omega, Nat.le_refl _, h5.kept hk6 (fun y hy e => HG5.not h5.q (e ▸ hy)) (fun y hy e => by have := HGB.out; omega), ?_, hgs, by omega⟩
              have hv : view R' = turns k (fun j => g j || j == r) := by
                rw [HR'.out, view_filter, HV.out, show 1 + (r : Int) = (r : Int) + 1 by omega, turns_leave]
              exact hv
        · have hor : (¬ (m : Int) < (zs.length : Int)) ∨ ((m : Int) < (zs.length : Int) ∧ ¬ (k : Int) > 0) := by omega
          rcases hor with t1 | ⟨t1, t2⟩
          all_goals go_wp2_with fail
          all_goals
            go_loopg [10, 15] k (fun gk s10 s15 wr => ∃ (m : Nat) (R : List Stand), s10 = .int .i64 (R.length : Int) ∧ s15 = .int .i64 ((m : Int) + 1) ∧ m ≤ k ∧ k - m ≤ gk ∧ Hid (FromI w wr qb mb (k : Int) R) ∧ Hid (view R = turns k (fun j => decide (j < m) || g j)) ∧ Hid (GoneRow wr gb k g) ∧ R.length ≤ k)
            case atStart => exact ⟨0, R, rfl, rfl, Nat.zero_le _, Nat.le_refl _, HF, HV.out.trans (turns_congr _ _ _ fun j _ => by simp), HG, hRk⟩
            case round =>
              clear HF HV HG hRk R
              obtain ⟨i, R, rfl, rfl, hm, hgm, HF, HV, HG, hRk⟩ := hrel
              by_cases hik : i < k
              · have t3 : (i : Int) + 1 ≤ (k : Int) := by omega
                cases hg : g i with
                | true =>
                  have ci : wr.cell? ⟨gb, i + 1, none⟩ = some (.bool true) := by rw [HG.out.cell hik, hg]
                  go_wp2_with fail
                  go_roundg (k - (i + 1))
                  case measure => omega
                  case rel =>
                    refine ⟨i + 1, R, rfl, by go_num, by omega, Nat.le_refl _, HF, HV.out.trans (turns_congr _ _ _ fun j _ => ?_), HG, hRk⟩
                    by_cases e : j = i
                    · subst e; simp [hg]
                    · have : decide (j < i) = decide (j < i + 1) := by rw [decide_eq_decide]; omega
                      rw [this]
                | false =>
                  have ci : wr.cell? ⟨gb, i + 1, none⟩ = some (.bool false) := by rw [HG.out.cell hik, hg]
                  have hgi : (decide (i < i) || g i) = false := by simp [hg]
                  have HFI := firstFI HF.out
                  rw [firstOf_turns HV.out hik hgi (fun j hj => by simp [hj])] at HFI
                  have HFH : Hid (Calls Try.prog 24 #[.pointer (some ⟨qb, 0, none⟩)] wr _) := HFI
                  have hl := leave_length HV.out hik hgi
                  obtain ⟨R', hR'⟩ : ∃ R', R' = R.filter (fun s => s.tk != (i : Int) + 1) := ⟨_, rfl⟩
                  rw [← hR'] at hl
                  have e1 : (R.length : Int) - 1 = (R'.length : Int) := by omega
                  have HR' : Hid (R' = R.filter (fun s => s.tk != (i : Int) + 1)) := hR'
                  clear hR' HFI
                  go_wp2_with fail
                  refine HFH.out.mono ?_
                  rintro e w5 ⟨rfl, h5, B5⟩
                  have HG5 : Hid (GoneRow w5 gb k g) := HG.out.block (B5.block gb HG.out.lt)
                  have HF5 : Hid (FromI w w5 qb mb (k : Int) R) := h5
                  clear h5 B5 ci
                  go_wp2_with fail
                  refine (lenI _ _ _ _ _ HF5.out.q).mono ?_
                  rintro e w6 ⟨rfl, hW⟩
                  have hW := hW.symm
                  subst hW
                  go_wp2_with fail
                  refine (leaveFI HF5.out ((i : Int) + 1) (WalkArith.wf_i64 (by omega))).mono ?_
                  rintro e w7 ⟨rfl, h7, k7⟩
                  have HG7 : Hid (GoneRow w7 gb k g) := HG5.out.block (k7.block gb HG5.out.lt (HG5.out.not HF5.out.q))
                  have HF7 : Hid (FromI w w7 qb mb (k : Int) R') := HR'.out ▸ h7
                  clear h7 k7
                  go_wp2_with fail
                  go_roundg (k - (i + 1))
                  case measure => omega
                  case rel =>
                    refine ⟨i + 1, R', by first | rfl | (rw [e1]), by go_num, by omega, Nat.le_refl _, HF7, ?_, HG7, by omega⟩
                    have hv : view R' = turns k (fun j => decide (j < i + 1) || g j) := by
                      rw [HR'.out, view_filter, HV.out, turns_leave]
                      refine turns_congr _ _ _ fun j _ => ?_
                      by_cases e : j = i
                      · subst e; simp
                      · have : decide (j < i) = decide (j < i + 1) := by rw [decide_eq_decide]; omega
                        rw [this]; simp [e]
                    exact hv
              · have t3 : ¬ (i : Int) + 1 ≤ (k : Int) := by omega
                obtain rfl : i = k := by omega
                obtain rfl : R = [] := by
                  have := HV.out
                  rw [turns_none _ _ (fun j hj => by simp [hj])] at this
                  exact List.map_eq_nil_iff.1 this
                have HFI := firstFI HF.out
                rw [show firstOfI [] = .tuple #[.int .i64 0, .int .i64 0, .bool false] from rfl] at HFI
                have HFH : Hid (Calls Try.prog 24 #[.pointer (some ⟨qb, 0, none⟩)] wr _) := HFI
                clear HFI
                go_wp2_with fail
                refine HFH.out.mono ?_
                rintro e w5 ⟨rfl, h5, B5⟩
                have HF5 : Hid (FromI w w5 qb mb (i : Int) []) := h5
                clear h5 B5
                go_wp2_with fail
                refine (lenI _ _ _ _ _ HF5.out.q).mono ?_
                rintro e w6 ⟨rfl, hW⟩
                have hW := hW.symm
                subst hW
                go_wp2_with fail
                refine (joinFI HF5.out (.int .i64 5) (by omega) (by simp [maxLen]) ⟨_, rfl⟩).mono ?_
                rintro e w7 ⟨rfl, h7, _⟩
                have HB7 : Hid (Below w.heap.size w w7) := h7.bel
                clear h7
                go_wp2_with fail
                go_ret
                exact ⟨rfl, HB7.out⟩
end Go.Proofs.Ytpnbmokgjinnbaa.queueTurns
