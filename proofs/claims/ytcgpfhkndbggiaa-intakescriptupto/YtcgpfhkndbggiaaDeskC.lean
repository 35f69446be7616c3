/-
  The desk: the walk of clone.
-/
import Derived.Test.YtcgpfhkndbggiaaDeskM
import Derived.Test.YtcgpfhkndbggiaaAmong
namespace Go.Proofs.Ytcgpfhkndbggiaa
open Go.RowKit

set_option maxHeartbeats 8000000 in
set_option maxRecDepth 1000000 in
theorem dclone_any (w W : World) (Db N Q M T i : Nat) (tq : Int) (h : DK w Db N Q M T W) (hi : i < N) (hN : N ≤ 4) :
    Calls Try.prog 32 #[.pointer (some ⟨Db, 0, none⟩), .int .i64 i, .int .i64 tq] W fun e w' => e = .returned (.bool true) ∧ ∃ N', N ≤ N' ∧ N' ≤ 4 ∧ DK w Db N' Q M T w' := by
  obtain ⟨lab, f, es, L, va, vb, vl, R, hd, hev, hlen, hq⟩ := h
  obtain ⟨p, hp⟩ : ∃ p, L[i]? = some p := ⟨_, List.getElem?_eq_getElem (by omega)⟩
  have hpp := hd.each i p hp
  have hts : p.t = p.s := (hev i p hp).symm
  obtain ⟨c0, _, _, _, hltD⟩ := hd.cells
  obtain ⟨ga, ca, rfl, ka⟩ := hd.ptrA hp
  rw [hlen] at c0
  have hlta := cell_lt ka
  have HD := hide hd
  have HP := hide hp
  have HEV := hide hev
  have HLN := hide hlen
  have HQ := hide hq
  have CA := hide (Clone_any W p.ib p.iv p.s hpp.inA hpp.fit.held)
  have HF := hide (And.intro hpp.fit (And.intro hpp.most hpp.len))
  have CB : Hid (∀ X, Below W.heap.size W X → Calls Try.prog 46 #[.pointer (some ⟨p.rb, 0, none⟩)] X fun e w' => e = .returned (.pointer (some ⟨X.heap.size, 0, none⟩)) ∧ (∃ v', RfAt w' X.heap.size v' p.s ∧ ∀ k, Mine X.heap.size v' k → X.heap.size ≤ k) ∧ Below X.heap.size X w') := fun X hX => refClone_any X p.rb p.rv p.s (by have h1 := hpp.inB.below hX; rw [hts] at h1; exact h1) hpp.fit.held
  have hiN : (i : Int) < (N : Int) := by omega
  clear hd hp hev hlen hq hpp hts
  go_enter Try.func32, Try.ntmps32
  go_upto_region 4 with (go_at_call 28; refine CA.out.mono ?_; rintro e w1 ⟨iv1, rfl, i1, m1, b1⟩; have I1 := hide (And.intro i1 m1); have B1 := hide b1; clear i1 m1 b1)
  have HD1 := hide (HD.out.later B1.out)
  obtain ⟨_, c1, _, _, hltD1⟩ := HD1.out.cells
  obtain ⟨gb, cb, hvb, kb⟩ := HD1.out.ptrB HP.out
  subst hvb
  rw [HLN.out] at c1
  have hltb := cell_lt kb
  clear c0 ka hlta hltD
  go_upto_region 5 with (go_at_call 46; refine (CB.out _ B1.out).mono ?_; rintro e w2 ⟨rfl, ⟨rv1, r2, m2⟩, b2⟩; have R2 := hide (And.intro r2 m2); have B2 := hide b2; clear r2 m2 b2)
  clear c1 kb hltb hltD1 HD1
  by_cases h4 : N < 4
  · have hN4 : (N : Int) < 4 := by omega
    obtain ⟨lab2, D2, P2⟩ := HD.out.came B1.out B2.out L.length ⟨W.heap.size, iv1, p.s, w1.heap.size, rv1, p.s⟩ I1.out.1 I1.out.2 HF.out.1 HF.out.2.1 HF.out.2.2 R2.out.1 R2.out.2
    have HD2 := hide (D2.add P2)
    obtain ⟨_, _, hltD, d0, _, fD⟩ := HD2.out.box
    have hra := row_shape HD2.out.rowA.1
    have hpl : (pA L).length = N := by simp [pA, HLN.out]
    obtain ⟨aa, caa, hva, _⟩ := hra
    rw [hpl] at hva
    simp only [Value.slice.injEq] at hva
    obtain ⟨hva1, hva2, rfl⟩ := hva
    rw [HLN.out] at HD2 d0
    subst hva1
    clear D2 P2 hpl hva2
    obtain ⟨xs, hxs⟩ : ∃ xs, xs = pA L := ⟨_, rfl⟩
    obtain ⟨ys, hys⟩ : ∃ ys, ys = pB L := ⟨_, rfl⟩
    have HXY : Hid (xs.length = N ∧ ys.length = N ∧ xs = pA L ∧ ys = pB L) := by
      rw [hxs, hys]
      exact ⟨by simp [pA, HLN.out], by simp [pB, HLN.out], rfl, rfl⟩
    rw [← hxs, ← hys] at HD2
    clear hxs hys
    have hs2 : w.heap.size ≤ w2.heap.size := HD2.out.below.size
    obtain ⟨ua, hua⟩ : ∃ ua : Value, ua = .pointer (some ⟨W.heap.size, 0, none⟩) := ⟨_, rfl⟩
    obtain ⟨ub, hub⟩ : ∃ ub : Value, ub = .pointer (some ⟨w1.heap.size, 0, none⟩) := ⟨_, rfl⟩
    have HU := hide (And.intro hua hub)
    have HA : Hid (w2.ownsRow w.heap.size 38 1 (.slice (some ⟨ga, 0, none⟩) N ca) xs.length xs) := by exact HD2.out.rowA.1
    go_upto_region 7 with (refine wpList_pushA rfl (.tmp 37) (.tmp 39) rfl w.heap.size (.slice (some ⟨ga, 0, none⟩) N ca) xs rfl HA.out (.pointer (some ⟨W.heap.size, 0, none⟩)) _ rfl rfl rfl (by rw [HXY.out.1]; omega) hs2 ?_; intro va' w3 ho hg hv; obtain ⟨aa', ca', hva', _⟩ := row_shape ho; rw [HXY.out.1] at hva'; subst hva'; have PA := hide (And.intro ho (And.intro hg hv)); obtain ⟨q0, _, qf, hlt3⟩ := (HD2.out.later ((Below.refl _ w2).alloc (Nat.le_refl _) (.cells #[.pointer (some ⟨W.heap.size, 0, none⟩)] 38))).boxG hg HD2.out.neA.1; clear ho hg hv)
    have HD2N := HD2.out
    obtain ⟨lab3, D3, _⟩ := (HD2N.later ((Below.refl _ w2).alloc (Nat.le_refl _) (.cells #[.pointer (some ⟨W.heap.size, 0, none⟩)] 38))).pushA PA.out.1 PA.out.2.1 PA.out.2.2
    obtain ⟨w4, hw4⟩ : ∃ w4, w4 = w3.setCell ⟨Db, 0, none⟩ (.slice aa' (N + 1) ca') := ⟨_, rfl⟩
    rw [← hw4] at D3 ⊢
    have HD4 := hide D3
    clear hw4 D3 HD2N PA HA q0 qf hlt3 d0 fD hltD HD2
    obtain ⟨_, _, hltD, _, d1, fD⟩ := HD4.out.box
    have hs4 : w.heap.size ≤ w4.heap.size := HD4.out.below.size
    have HBr : Hid (w4.ownsRow w.heap.size 40 1 (.slice (some ⟨gb, 0, none⟩) N cb) ys.length ys) := by exact HD4.out.rowB.1
    go_upto_region 8 with (refine wpList_pushB rfl (.tmp 47) (.tmp 49) rfl w.heap.size (.slice (some ⟨gb, 0, none⟩) N cb) ys rfl HBr.out (.pointer (some ⟨w1.heap.size, 0, none⟩)) _ rfl rfl rfl (by rw [HXY.out.2.1]; omega) hs4 ?_; intro vb' w5 ho hg hv; obtain ⟨ab', cb', hvb', _⟩ := row_shape ho; rw [HXY.out.2.1] at hvb'; subst hvb'; have PB := hide (And.intro ho (And.intro hg hv)); obtain ⟨_, q1, qf, hlt5⟩ := (HD4.out.later ((Below.refl _ w4).alloc (Nat.le_refl _) (.cells #[.pointer (some ⟨w1.heap.size, 0, none⟩)] 40))).boxG hg HD4.out.neA.2; clear ho hg hv)
    have HD4N := HD4.out
    obtain ⟨lab5, D5, _⟩ := (HD4N.later ((Below.refl _ w4).alloc (Nat.le_refl _) (.cells #[.pointer (some ⟨w1.heap.size, 0, none⟩)] 40))).pushB PB.out.1 PB.out.2.1 PB.out.2.2
    obtain ⟨w6, hw6⟩ : ∃ w6, w6 = w5.setCell ⟨Db, 1, none⟩ (.slice ab' (N + 1) cb') := ⟨_, rfl⟩
    rw [← hw6] at D5 ⊢
    have HD6 := hide D5
    clear hw6 D5 HD4N PB HBr q1 qf hlt5 d1 fD hltD HD4
    go_wp2_with fail
    go_ret
    refine ⟨rfl, N + 1, Nat.le_succ _, by omega, lab5, f, es, L ++ [⟨W.heap.size, iv1, p.s, w1.heap.size, rv1, p.s⟩], .slice aa' (N + 1) ca', .slice ab' (N + 1) cb', vl, R, DeskH.shut ?_, fun j q hq => ?_, by simp [HLN.out], HQ.out⟩
    · have h1 := HD6.out
      rw [HXY.out.2.2.1, HXY.out.2.2.2] at h1
      have e1 : pA (L ++ [⟨W.heap.size, iv1, p.s, w1.heap.size, rv1, p.s⟩]) = pA L ++ [.pointer (some ⟨W.heap.size, 0, none⟩)] := by simp [pA]
      have e2 : pB (L ++ [⟨W.heap.size, iv1, p.s, w1.heap.size, rv1, p.s⟩]) = pB L ++ [.pointer (some ⟨w1.heap.size, 0, none⟩)] := by simp [pB]
      rw [e1, e2]
      exact h1
    · by_cases hj : j < L.length
      · rw [List.getElem?_append_left hj] at hq
        exact HEV.out j q hq
      · rw [List.getElem?_append_right (by omega)] at hq
        have hm := List.mem_of_getElem? hq
        have h9 := List.mem_singleton.1 hm
        rw [h9]
  · have hN4 : ¬ (N : Int) < 4 := by omega
    have HN44 : Hid (N = 4) := (by omega : N = 4)
    obtain ⟨hr1, hr2⟩ := among_range (i := tq) (n := 4) (by omega)
    obtain ⟨tn, htn⟩ : ∃ tn : Nat, amongI tq 4 = tn := ⟨(amongI tq 4).toNat, by omega⟩
    have AM := among_any tq 4 w2 (by omega)
    rw [htn] at AM hr1 hr2
    have HAM := hide AM
    have htl : tn < N := by have := HN44.out; omega
    obtain ⟨lab2, D2, P2⟩ := HD.out.came B1.out B2.out tn ⟨W.heap.size, iv1, p.s, w1.heap.size, rv1, p.s⟩ I1.out.1 I1.out.2 HF.out.1 HF.out.2.1 HF.out.2.2 R2.out.1 R2.out.2
    have HD2 := hide (D2.swap P2 (by rw [HLN.out]; exact htl))
    have hpa : (pA L).length = N := by simp [pA, HLN.out]
    have hpb : (pB L).length = N := by simp [pB, HLN.out]
    obtain ⟨x1, x2, hltD, d0, d1, fD⟩ := HD2.out.box
    clear x1 x2
    rw [HLN.out] at d0 d1
    have HL4 : Hid (L.length = (pA L).length ∧ L.length = (pB L).length) := ⟨by rw [hpa]; exact HLN.out, by rw [hpb]; exact HLN.out⟩
    have HD2b := HD2.out
    rw [HL4.out.1] at HD2b
    have q3 := HD2b.putA tn (.pointer (some ⟨W.heap.size, 0, none⟩))
    rw [← HL4.out.1, HL4.out.2] at q3
    have q4 := q3.putB tn (.pointer (some ⟨w1.heap.size, 0, none⟩))
    have HQ4 := hide q4
    obtain ⟨x1, x2, hltD3, x3, d3, x4⟩ := q3.box
    clear x1 x2 x3 x4
    rw [← HL4.out.2, HLN.out] at d3
    have kA : ∃ x, w2.cell? ⟨ga, tn, none⟩ = some x := by
      obtain ⟨q, hq⟩ : ∃ q, L[tn]? = some q := ⟨_, List.getElem?_eq_getElem (by rw [HLN.out]; exact htl)⟩
      have h1 := HD2.out.rowA.1.cells (g := ga) rfl tn (.pointer (some ⟨q.ib, 0, none⟩)) (by simp [pA, hq])
      rw [Go.WideShapes.add_plain, Nat.zero_add] at h1
      exact ⟨_, h1⟩
    obtain ⟨xa, hxa⟩ := kA
    have kB : ∃ x, (w2.setCell ⟨ga, tn, none⟩ (.pointer (some ⟨W.heap.size, 0, none⟩))).cell? ⟨gb, tn, none⟩ = some x := by
      obtain ⟨q, hq⟩ : ∃ q, L[tn]? = some q := ⟨_, List.getElem?_eq_getElem (by rw [HLN.out]; exact htl)⟩
      have h1 := q3.rowB.1.cells (g := gb) rfl tn (.pointer (some ⟨q.rb, 0, none⟩)) (by simp [pB, hq])
      rw [Go.WideShapes.add_plain, Nat.zero_add] at h1
      exact ⟨_, h1⟩
    obtain ⟨xb, hxb⟩ := kB
    have za : w2.frozen? ⟨ga, tn, none⟩ = false := HD2b.rowA.1.frozenAt tn
    have zb : (w2.setCell ⟨ga, tn, none⟩ (.pointer (some ⟨W.heap.size, 0, none⟩))).frozen? ⟨gb, tn, none⟩ = false := q3.rowB.1.frozenAt tn
    have hlta := cell_lt hxa
    have hltb := cell_lt hxb
    have j0 : (0 : Int) ≤ (tn : Int) := hr1
    have j1 : (tn : Int) < (N : Int) := by omega
    have HS := hide (And.intro d3 (And.intro hxb (And.intro zb (And.intro hltb hltD3))))
    clear d3 hxb zb hltb hltD3 htl h4 d1
    clear D2 P2 q3 q4 HD2b hpa hpb AM htn hr1 hr2 HD2
    go_upto_region 10 with (go_at_call 20; refine HAM.out.mono ?_; rintro e w9 ⟨rfl, rfl⟩)
    go_upto_region 11 with fail
    obtain ⟨w3, hw3⟩ : ∃ w3, w3 = w9.setCell ⟨ga, tn, none⟩ (.pointer (some ⟨W.heap.size, 0, none⟩)) := ⟨_, rfl⟩
    rw [← hw3] at HQ4 HS ⊢
    obtain ⟨d3, hxb, zb, hltb, hltD3⟩ := HS.out
    clear hw3 d0 fD hxa za hlta hltD HS
    go_upto_region 12 with fail
    obtain ⟨w4, hw4⟩ : ∃ w4, w4 = w3.setCell ⟨gb, tn, none⟩ (.pointer (some ⟨w1.heap.size, 0, none⟩)) := ⟨_, rfl⟩
    rw [← hw4] at HQ4 ⊢
    clear hw4 d3 hxb zb hltb hltD3
    go_wp2_with fail
    go_ret
    refine ⟨rfl, N, Nat.le_refl _, hN, lab2, f, es, L.set tn ⟨W.heap.size, iv1, p.s, w1.heap.size, rv1, p.s⟩, .slice (some ⟨ga, 0, none⟩) (pB L).length ca, .slice (some ⟨gb, 0, none⟩) (pB L).length cb, vl, R, DeskH.shut ?_, fun j q hq => ?_, by simp [HLN.out], HQ.out⟩
    · have e1 : pA (L.set tn ⟨W.heap.size, iv1, p.s, w1.heap.size, rv1, p.s⟩) = (pA L).set tn (.pointer (some ⟨W.heap.size, 0, none⟩)) := by simp [pA, List.map_set]
      have e2 : pB (L.set tn ⟨W.heap.size, iv1, p.s, w1.heap.size, rv1, p.s⟩) = (pB L).set tn (.pointer (some ⟨w1.heap.size, 0, none⟩)) := by simp [pB, List.map_set]
      rw [e1, e2]
      exact HQ4.out
    · rw [List.getElem?_set] at hq
      split at hq
      · split at hq
        · simp only [Option.some.injEq] at hq
          rw [← hq]
        · simp at hq
      · exact HEV.out j q hq
end Go.Proofs.Ytcgpfhkndbggiaa
