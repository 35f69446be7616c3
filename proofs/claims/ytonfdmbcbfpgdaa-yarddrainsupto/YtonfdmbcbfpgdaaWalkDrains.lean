/-
  The walk of YardDrains.
-/
import Derived.Test.YtonfdmbcbfpgdaaDraX
import Derived.Test.YtonfdmbcbfpgdaaSumX
import Derived.Test.YtonfdmbcbfpgdaaCloX
namespace Go.Proofs.Ytonfdmbcbfpgdaa.yardDrains
open Go.RowKit
theorem wpList_wantedV {P : Program} {ops : Array Oper} {rest : List Oper} {o : Oper} {a : Act} {w : World} {v : Value} {Q : Exit → Act → World → Prop} (hw : Region.wanted o (yielded ops a.tmps) = true) (hx : (execOp a.eval o).run P w = .ok (.value v) w) (h : wpList P ops Q rest (a.put o.dst v) w) : wpList P ops Q (o :: rest) a w := by
  unfold wpList
  rw [if_pos hw]
  refine .inl ?_
  unfold Oper.wp
  rw [hx]
  exact h
/-- How many are of a state. -/
def cntL (st : Int) (L : List En) : Nat := (L.filter (fun e => decide (e.j.st = st))).length
theorem cntL_cons (st : Int) (e : En) (L : List En) : cntL st (e :: L) = if e.j.st = st then cntL st L + 1 else cntL st L := by
  unfold cntL
  by_cases h : e.j.st = st
  · rw [if_pos h, List.filter_cons_of_pos (by simpa using h)]; rfl
  · rw [if_neg h, List.filter_cons_of_neg (by simpa using h)]
theorem smL_cnt (L : List En) : (smL L).r = (cntL 1 L : Int) ∧ (smL L).d = (cntL 2 L : Int) ∧ (smL L).v = (cntL 3 L : Int) ∧ (smL L).b = (cntL 4 L : Int) ∧ (smL L).u ≤ (smL L).r := by
  induction L with
  | nil => exact ⟨rfl, rfl, rfl, rfl, Int.le_refl _⟩
  | cons e r ih =>
    obtain ⟨h1, h2, h3, h4, h5⟩ := ih
    show ((smL r).add e.j.st e.j.pr 1).r = _ ∧ ((smL r).add e.j.st e.j.pr 1).d = _ ∧ ((smL r).add e.j.st e.j.pr 1).v = _ ∧ ((smL r).add e.j.st e.j.pr 1).b = _ ∧ ((smL r).add e.j.st e.j.pr 1).u ≤ ((smL r).add e.j.st e.j.pr 1).r
    simp only [cntL_cons]
    generalize smL r = s at *
    obtain ⟨a, b, c, d, u⟩ := s
    simp only [] at h1 h2 h3 h4 h5
    simp only [Sm.add]
    repeat' split
    all_goals (simp_all <;> omega)
theorem cnt_sel (L : List En) (t : ByteArray) (st : Int) : cntL st (L.filter (fun e => decide (e.j.nm = t))) = (L.filter (selE t st)).length := by
  unfold cntL
  rw [List.filter_filter]
  congr 2
  funext e
  exact Bool.and_comm _ _
theorem smT_cnt (L : List En) (t : ByteArray) : (smT L t).r = ((L.filter (selE t 1)).length : Int) ∧ (smT L t).d = ((L.filter (selE t 2)).length : Int) ∧ (smT L t).v = ((L.filter (selE t 3)).length : Int) ∧ (smT L t).b = ((L.filter (selE t 4)).length : Int) ∧ (smT L t).u ≤ (smT L t).r ∧ 0 ≤ (smT L t).u := by
  unfold smT
  obtain ⟨h1, h2, h3, h4, h5⟩ := smL_cnt (L.filter (fun e => decide (e.j.nm = t)))
  have h6 := (smL_bound (L.filter (fun e => decide (e.j.nm = t)))).2.2.2.2.1
  simp only [cnt_sel] at h1 h2 h3 h4
  exact ⟨h1, h2, h3, h4, h5, h6⟩
/-- What is left. -/
def left3 (L : List En) (t : ByteArray) : List En := ((L.filter (fun e => !selE t 1 e)).filter (fun e => !selE t 2 e)).filter (fun e => !selE t 4 e)
theorem filter_two (L : List En) (p q : En → Bool) (h : ∀ e, q e = true → p e = true) : (L.filter p).filter q = L.filter q := by
  rw [List.filter_filter]
  congr 1
  funext e
  cases hq : q e with
  | false => rfl
  | true => rw [h e hq]; rfl
theorem sel_ne {t : ByteArray} {a b : Int} (h : a ≠ b) (e : En) (hs : selE t a e = true) : (!selE t b e) = true := by
  have h1 := (selE_iff.1 hs).2
  cases hx : selE t b e with
  | false => rfl
  | true => exact absurd (h1.symm.trans (selE_iff.1 hx).2) h
theorem filter_none (L : List En) (p : En → Bool) : (L.filter (fun e => !p e)).filter p = [] := by
  rw [List.filter_filter]
  refine List.filter_eq_nil_iff.2 (fun e _ => ?_)
  cases p e <;> simp
theorem two_d (L : List En) (t : ByteArray) : (L.filter (fun e => !selE t 1 e)).filter (selE t 2) = L.filter (selE t 2) := filter_two L _ _ (fun e => sel_ne (by decide) e)
theorem two_b (L : List En) (t : ByteArray) : ((L.filter (fun e => !selE t 1 e)).filter (fun e => !selE t 2 e)).filter (selE t 4) = L.filter (selE t 4) := by
  rw [filter_two _ _ _ (fun e => sel_ne (by decide) e), filter_two _ _ _ (fun e => sel_ne (by decide) e)]
theorem left_sum (L : List En) (t : ByteArray) : smT (left3 L t) t = ⟨0, 0, (smT L t).v, 0, 0⟩ := by
  obtain ⟨h1, h2, h3, h4, h5, h6⟩ := smT_cnt (left3 L t) t
  have e1 : (left3 L t).filter (selE t 1) = [] := by
    unfold left3
    rw [filter_two _ _ _ (fun e => sel_ne (by decide) e), filter_two _ _ _ (fun e => sel_ne (by decide) e), filter_none]
  have e2 : (left3 L t).filter (selE t 2) = [] := by
    unfold left3
    rw [filter_two _ _ _ (fun e => sel_ne (by decide) e), filter_none]
  have e4 : (left3 L t).filter (selE t 4) = [] := filter_none _ _
  have e3 : (left3 L t).filter (selE t 3) = L.filter (selE t 3) := by
    unfold left3
    rw [filter_two _ _ _ (fun e => sel_ne (by decide) e), filter_two _ _ _ (fun e => sel_ne (by decide) e), filter_two _ _ _ (fun e => sel_ne (by decide) e)]
  rw [e1] at h1
  rw [e2] at h2
  rw [e4] at h4
  rw [e3, ← (smT_cnt L t).2.2.1] at h3
  generalize smT (left3 L t) t = s at *
  obtain ⟨a, b, c, d, u⟩ := s
  simp only [List.length_nil, Int.natCast_zero] at h1 h2 h3 h4 h5 h6
  simp only [Sm.mk.injEq]
  exact ⟨h1, h2, h3, h4, by omega⟩
/-- In the midst of the drains. -/
def Dn (w3 : World) (lab3 : Nat → HK) (yb N : Nat) (L : List En) (wr : World) : Prop := ∃ lab' Y', YAt wr lab' yb Y' ∧ Iv Y' N ∧ Y'.L = L ∧ (∀ k, k < w3.heap.size → lab' k = lab3 k) ∧ Kept (Ours lab3) w3 wr
theorem Dn.drained {w3 : World} {lab3 : Nat → HK} {yb N : Nat} {L : List En} {wr : World} (h : Dn w3 lab3 yb N L wr) (t : ByteArray) (st : Int) (hs : St3 st) (hN : N ≤ 100000000) (ht : t.size ≤ maxLen) :
    Calls Try.prog 8 #[ptrV yb, .string t, .int .i64 st] wr fun x w' => x = .returned (.int .i64 ((L.filter (selE t st)).length : Nat)) ∧ Dn w3 lab3 yb N (L.filter (fun e => !selE t st e)) w' := by
  obtain ⟨lab', Y', a, iv, rfl, hl, hk⟩ := h
  refine (drained_any t st hs wr lab' yb Y' N a iv hN ht).mono ?_
  rintro x w' ⟨rfl, lab2, Y2, a2, iv2, e2, l2, k2⟩
  refine ⟨rfl, lab2, Y2, a2, iv2, e2, fun k hk3 => (l2 k (Nat.lt_of_lt_of_le hk3 hk.size)).trans (hl k hk3), hk.step k2 (fun k hk3 e3 => ?_)⟩
  have e3 : (lab' k).1 ≤ 7 := e3
  rw [hl k hk3] at e3
  exact e3
set_option maxHeartbeats 8000000 in
set_option maxRecDepth 1000000 in
theorem walk (a : Option Addr) (cap : Nat) (l : List Jn) (t : ByteArray) (w : World) (hI : IsJobs w a cap l) (htm : t.size ≤ maxLen) (hb : (l.map Jn.bulk).sum ≤ 1048576) : Calls Try.prog 3 #[.slice a l.length cap, .string t] w fun e w' => e = .returned (.bool true) ∧ Below w.heap.size w w' := by
  have CS : Hid (Calls Try.prog 5 #[] w fun e w' => e = .returned (.bool true) ∧ Below w.heap.size w w') := shown_any w
  have CF : Hid (∀ W, Below w.heap.size w W → Calls Try.prog 6 #[.slice a l.length cap] W fun e w' => ∃ yb lab Y, e = .returned (ptrV yb) ∧ Fi W yb (4 * l.length) lab Y w') := fun W hW => filledI_any a cap l W (hI.below hW) hb
  obtain ⟨N, hN⟩ : ∃ N, N = 4 * l.length := ⟨_, rfl⟩
  have HN : Hid (N ≤ 100000000 ∧ t.size ≤ maxLen) := ⟨by have := bulk_count l; omega, htm⟩
  rw [← hN] at CF
  clear hb hI hN htm
  go_enter Try.func3, Try.ntmps3
  go_upto_region 6 with (first
    | (go_at_call 5; refine CS.out.mono ?_; rintro e w1 ⟨rfl, b1⟩; have B1 : Hid (Below w.heap.size w w1) := b1; clear b1)
    | (go_at_call 6; refine (CF.out _ B1.out).mono ?_; rintro e w2 ⟨yb, lab, Y, rfl, f2⟩; have F2 : Hid (Fi w1 yb N lab Y w2) := f2; clear f2))
  obtain ⟨s1, hs1⟩ : ∃ s1, s1 = smT Y.L t := ⟨_, rfl⟩
  have CA : Hid (Calls Try.prog 7 #[ptrV yb, .string t] w2 fun x w' => x = .returned (.agg s1.agg) ∧ Below w2.heap.size w2 w') := by
    have := sums_any t w2 lab yb Y F2.out.yard HN.out.2
    rw [F2.out.iv.inv.sum, ← hs1] at this
    exact this
  have HS1 : Hid (s1 = smT Y.L t) := hs1
  clear hs1 CS CF
  go_upto_region 7 with (first
    | (go_at_call 7; refine CA.out.mono ?_; rintro x w3 ⟨rfl, b3⟩; have B3 : Hid (Below w2.heap.size w2 w3) := b3; clear b3; obtain ⟨w4, hw4⟩ : ∃ w4, w4 = w3.alloc (.cells s1.agg 27) := ⟨_, rfl⟩; obtain ⟨sb, hsb⟩ : ∃ sb, sb = w3.heap.size := ⟨_, rfl⟩; have HW4 : Hid (w3.alloc (.cells s1.agg 27) = w4 ∧ w3.heap.size = sb) := ⟨hw4.symm, hsb.symm⟩; clear hw4 hsb)
    | (refine wpList_store_new rfl 27 (.tmp 6) (.tmp 19) rfl s1.agg rfl rfl 27 _ (sums_size s1) rfl (agg_one s1) ?_; rw [HW4.out.1, HW4.out.2]; simp only [Act.put]))
  have B4 : Hid (Below w2.heap.size w2 w4) := by rw [← HW4.out.1]; exact B3.out.alloc B3.out.size _
  have S4 : Hid (Sb w4 sb s1 ∧ w2.heap.size ≤ sb) := by rw [← HW4.out.1, ← HW4.out.2]; exact ⟨heap_alloc_new w3 _, B3.out.size⟩
  obtain ⟨lab4, hl4⟩ : ∃ lab4 : Nat → HK, lab4 = fun k => if k < w2.heap.size then lab k else uT := ⟨_, rfl⟩
  have HL4 : Hid (lab4 = fun k => if k < w2.heap.size then lab k else uT) := hl4
  have D4 : Hid (Dn w4 lab4 yb N Y.L w4) := ⟨lab4, Y, F2.out.yard.below B4.out (fun _ hk => by rw [hl4]; exact if_pos hk), F2.out.iv, rfl, fun _ _ => rfl, Kept.refl _ _⟩
  have C1 : Hid (Calls Try.prog 8 #[ptrV yb, .string t, .int .i64 1] w4 fun x w' => x = .returned (.int .i64 ((Y.L.filter (selE t 1)).length : Nat)) ∧ Dn w4 lab4 yb N (Y.L.filter (fun e => !selE t 1 e)) w') := D4.out.drained t 1 (.inl rfl) HN.out.1 HN.out.2
  obtain ⟨ca, hca⟩ : ∃ ca, ca = (Y.L.filter (selE t 1)).length := ⟨_, rfl⟩
  obtain ⟨cb, hcb⟩ : ∃ cb, cb = (Y.L.filter (selE t 2)).length := ⟨_, rfl⟩
  obtain ⟨cc, hcc⟩ : ∃ cc, cc = (Y.L.filter (selE t 4)).length := ⟨_, rfl⟩
  obtain ⟨cv, hcv⟩ : ∃ cv, cv = s1.v := ⟨_, rfl⟩
  have HCN : Hid (s1.r = (ca : Int) ∧ s1.d = (cb : Int) ∧ s1.b = (cc : Int) ∧ s1.v = cv ∧ smT (left3 Y.L t) t = ⟨0, 0, cv, 0, 0⟩ ∧ cb = (Y.L.filter (selE t 2)).length ∧ cc = (Y.L.filter (selE t 4)).length) := by
    have h := smT_cnt Y.L t
    rw [← HS1.out] at h
    rw [left_sum, ← HS1.out, hca, hcb, hcc, hcv]
    exact ⟨h.1, h.2.1, h.2.2.2.1, rfl, rfl, rfl, rfl⟩
  rw [← hca] at C1
  clear hl4 hca hcb hcc hcv CA D4 HW4
  go_upto_region 8 with (first
    | (go_at_call 8; refine C3.out.mono ?_; rintro x w7 ⟨rfl, d7⟩; have D7 : Hid (Dn w4 lab4 yb N (left3 Y.L t) w7) := d7; clear d7)
    | (go_at_call 8; refine C2.out.mono ?_; rintro x w6 ⟨rfl, d6⟩; have C3 : Hid (Calls Try.prog 8 #[ptrV yb, .string t, .int .i64 4] w6 fun x w' => x = .returned (.int .i64 (cc : Nat)) ∧ Dn w4 lab4 yb N (left3 Y.L t) w') := (by
          have h := Dn.drained d6 t 4 (.inr (.inr rfl)) HN.out.1 HN.out.2
          rw [two_b, ← HCN.out.2.2.2.2.2.2] at h
          exact h); clear d6)
    | (go_at_call 8; refine C1.out.mono ?_; rintro x w5 ⟨rfl, d5⟩; have C2 : Hid (Calls Try.prog 8 #[ptrV yb, .string t, .int .i64 2] w5 fun x w' => x = .returned (.int .i64 (cb : Nat)) ∧ Dn w4 lab4 yb N ((Y.L.filter (fun e => !selE t 1 e)).filter (fun e => !selE t 2 e)) w') := (by
          have h := Dn.drained d5 t 2 (.inr (.inl rfl)) HN.out.1 HN.out.2
          rw [two_d, ← HCN.out.2.2.2.2.2.1] at h
          exact h); clear d5))
  obtain ⟨lab7, Y7, a7, iv7, e7, l7, k7⟩ := D7.out
  obtain ⟨s3, hs3⟩ : ∃ s3 : Sm, s3 = ⟨0, 0, cv, 0, 0⟩ := ⟨_, rfl⟩
  have CB : Hid (Calls Try.prog 7 #[ptrV yb, .string t] w7 fun x w' => x = .returned (.agg s3.agg) ∧ Below w7.heap.size w7 w') := by
    have := sums_any t w7 lab7 yb Y7 a7 HN.out.2
    rw [iv7.inv.sum, e7, HCN.out.2.2.2.2.1, ← hs3] at this
    exact this
  have S7 : Hid (Sb w7 sb s1) := (k7.block sb (Array.getElem?_eq_some_iff.1 (show w4.heap[sb]? = _ from S4.out.1)).1 (fun h => by
    have h : (lab4 sb).1 ≤ 7 := h
    rw [HL4.out] at h
    simp only [if_neg (show ¬ sb < w2.heap.size by have := S4.out.2; omega)] at h
    exact absurd h (by decide))).trans S4.out.1
  have BW : Hid (Below w.heap.size w w7) := by
    have q1 := B1.out.size
    have q2 := F2.out.bel.size
    have q4 := B4.out.size
    refine (B1.out.trans (F2.out.bel.mono q1)).trans ((B4.out.mono (by omega)).trans (k7.below (by omega) (fun k hk h => ?_)))
    have h : (lab4 k).1 ≤ 7 := h
    rw [HL4.out] at h
    simp only [if_pos (show k < w2.heap.size by omega)] at h
    rw [F2.out.labs k (by omega)] at h
    exact absurd h (by decide)
  have HS3 : Hid (s3 = ⟨0, 0, cv, 0, 0⟩) := hs3
  clear a7 iv7 e7 l7 k7 D7 C1 C2 C3 S4 HL4 hs3
  go_upto_region 9 with (first
    | (go_at_call 7; refine CB.out.mono ?_; rintro x w8 ⟨rfl, b8⟩; have B8 : Hid (Below w7.heap.size w7 w8) := b8; clear b8; obtain ⟨w9, hw9⟩ : ∃ w9, w9 = w8.alloc (.cells s3.agg 27) := ⟨_, rfl⟩; obtain ⟨tb, htb⟩ : ∃ tb, tb = w8.heap.size := ⟨_, rfl⟩; have HW9 : Hid (w8.alloc (.cells s3.agg 27) = w9 ∧ w8.heap.size = tb) := ⟨hw9.symm, htb.symm⟩; clear hw9 htb)
    | (refine wpList_store_new rfl 27 (.tmp 10) (.tmp 31) rfl s3.agg rfl rfl 27 _ (sums_size s3) rfl (agg_one s3) ?_; rw [HW9.out.1, HW9.out.2]; simp only [Act.put]))
  have B9 : Hid (Below w7.heap.size w7 w9) := by rw [← HW9.out.1]; exact B8.out.alloc B8.out.size _
  have T9 : Hid (Sb w9 tb s3) := by rw [← HW9.out.1, ← HW9.out.2]; exact heap_alloc_new w8 _
  have S9 : Sb w9 sb s1 := S7.out.below B9.out
  have slt : sb < w9.heap.size := (Array.getElem?_eq_some_iff.1 (show w9.heap[sb]? = _ from S9)).1
  have c0 : w9.cell? ⟨sb, 0, none⟩ = some (.int .i64 (ca : Nat)) := by
    rw [← HCN.out.1]
    simp [World.cell?, show w9.heap[sb]? = _ from S9, Sm.agg]
  have c1 : w9.cell? ⟨sb, 1, none⟩ = some (.int .i64 (cb : Nat)) := by
    rw [← HCN.out.2.1]
    simp [World.cell?, show w9.heap[sb]? = _ from S9, Sm.agg]
  have c3 : w9.cell? ⟨sb, 3, none⟩ = some (.int .i64 (cc : Nat)) := by
    rw [← HCN.out.2.2.1]
    simp [World.cell?, show w9.heap[sb]? = _ from S9, Sm.agg]
  have c2 : w9.cell? ⟨sb, 2, none⟩ = some (.int .i64 cv) := by
    rw [← HCN.out.2.2.2.1]
    simp [World.cell?, show w9.heap[sb]? = _ from S9, Sm.agg]
  have hbuilt : Hid (Try.prog.built 27 [(2, .int .i64 cv)] = some s3.agg) := by
    rw [HS3.out]
    exact (show Try.prog.built 27 [(2, .int .i64 cv)] = some (Sm.agg ⟨0, 0, cv, 0, 0⟩) by kernel_rfl)
  clear S9 CB HW9 S7
  have e3 := HS3.out
  subst e3
  go_wp2_with (first
    | (refine wpList_wantedV rfl (run_loadRow rfl rfl T9.out Try.underlying27 rfl (sums_size _)) ?_)
    | (refine wpList_wantedV rfl (run_build1 (cells := Sm.agg ⟨0, 0, cv, 0, 0⟩) rfl hbuilt.out) ?_)
    | (refine wpList_wantedV rfl (run_eqlS ⟨0, 0, cv, 0, 0⟩ rfl rfl rfl) ?_))
  go_ret
  exact ⟨rfl, BW.out.trans (B9.out.mono BW.out.size)⟩
end Go.Proofs.Ytonfdmbcbfpgdaa.yardDrains
