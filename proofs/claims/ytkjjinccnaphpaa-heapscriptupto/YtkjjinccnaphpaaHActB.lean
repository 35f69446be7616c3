/-
  HAct5, HAct6, HAct7, HAct8, HAct9.
-/
import Derived.Test.YtkjjinccnaphpaaHActK
namespace Go.Proofs.Ytkjjinccnaphpaa
open Go.RowKit

set_option maxHeartbeats 4000000 in
set_option maxRecDepth 1000000 in
theorem act_5 {w0 W : World} {lab : Nat → Tag} {Db f top n : Nat} {va vb : Value} {es : List Ent} {ps : List (Nat × Hpr)} (h : DeskS w0 W lab Db va vb f es ps top n) (ht : 3 ≤ top) (hp : 0 < ps.length) (x : ActI) (hx : actFits x) (hn : n ≤ 2000000) (hkd : amongI x.1 10 = 5) :
    Calls Try.prog 8 #[.pointer (some ⟨Db, 0, none⟩), actV x] W fun e w' => Left w0 Db (n + 1) ps.length e w' := by
  obtain ⟨x1, x2, x3, x4, x5⟩ := x
  have hx3 : (Lit.int .i64 x3).wf = true := hx.2.2.1
  have hfew := h.few
  have har := among_range (i := x2) (n := (ps.length : Int)) (by omega)
  obtain ⟨k, hk⟩ : ∃ k : Nat, amongI x2 (ps.length : Int) = (k : Int) := ⟨(amongI x2 (ps.length : Int)).toNat, by omega⟩
  have hkl : k < ps.length := by omega
  have HKK : Hid (amongI x2 (ps.length : Int) = (k : Int)) := hk
  have HKD : Hid (amongI x1 10 = 5) := hkd
  have hki : (k : Int) < (ps.length : Int) := by omega
  have h5 : (ps.length : Int) ≤ 4294967296 := by have := hn; omega
  clear har hk hkd
  obtain ⟨q, hq⟩ : ∃ q, ps[k]? = some q := ⟨_, List.getElem?_eq_getElem hkl⟩
  obtain ⟨W1, hW1⟩ : ∃ W1, W.alloc (.cells #[.int .i64 x1, .int .i64 x2, .int .i64 x3, .int .i64 x4, .int .i64 x5] 40) = W1 := ⟨_, rfl⟩
  have hb1 : Below W.heap.size W W1 := by rw [← hW1]; exact (Below.refl _ W).alloc (Nat.le_refl _) _
  have hxb : W1.heap[W.heap.size]? = some (.cells #[.int .i64 x1, .int .i64 x2, .int .i64 x3, .int .i64 x4, .int .i64 x5] 40 (0, 0)) := by rw [← hW1]; exact heap_alloc_new W _
  obtain ⟨xb, hxbe⟩ : ∃ xb, xb = W.heap.size := ⟨_, rfl⟩
  rw [← hxbe] at hxb
  have c0 : W1.cell? ⟨xb, 0, none⟩ = some (.int .i64 x1) := by simp [World.cell?, hxb]
  have c1 : W1.cell? ⟨xb, 1, none⟩ = some (.int .i64 x2) := by simp [World.cell?, hxb]
  have h1 := h.later hb1
  obtain ⟨ga, ca, gb, cb, rfl, rfl, r1, r2, hga, hgb, _, _⟩ := DeskS.reads h1 hq
  obtain ⟨b0, b1, hDb, _, _, _, _⟩ := h1.box
  unfold ptrA at r1
  unfold ptrB at r2
  have H1 := hide3 h1
  have HXB := hide3 hxb
  have HE : Hid (xb = W.heap.size ∧ Below W.heap.size W W1 ∧ ∀ (j : Nat) (q : Nat × Hpr), ps[j]? = some q → ∀ i, q.2.mine i → i < W.heap.size) := ⟨hxbe, hb1, fun j q hq i hi => (h.hs j q hq).lt hi⟩
  have CA : Hid (∀ w : World, Calls Try.prog 19 #[.int .i64 x2, .int .i64 (ps.length : Int)] w fun e w' => e = .returned (.int .i64 (k : Int)) ∧ w' = w) := fun w => by rw [← HKK.out]; exact among_any x2 _ w (by omega)
  clear h h1 hxb hb1 hxbe
  unfold actV
  go_enter Try.func8, Try.ntmps8
  go_upto_region 1 with fail
  rw [← HE.out.1]
  go_quiet ((go_at_call 19; exact Calls.quiet_of_same (CA.out _)))
  generalize hWd : W1.drewN _ = W2
  have Bd : Below W1.heap.size W1 W2 := by rw [← hWd]; exact same_below _ _
  have e0 : W2.cell? ⟨xb, 0, none⟩ = _ := (Bd.cell (p := ⟨xb, 0, none⟩) (cell_lt c0)).trans c0
  have e1 : W2.cell? ⟨Db, 0, none⟩ = _ := (Bd.cell (p := ⟨Db, 0, none⟩) hDb).trans b0
  have e2 : W2.cell? ⟨Db, 1, none⟩ = _ := (Bd.cell (p := ⟨Db, 1, none⟩) hDb).trans b1
  have e3 : W2.cell? ⟨ga, k, none⟩ = _ := (Bd.cell (p := ⟨ga, k, none⟩) hga).trans r1
  have e4 : W2.cell? ⟨gb, k, none⟩ = _ := (Bd.cell (p := ⟨gb, k, none⟩) hgb).trans r2
  have H2 := hide3 (DeskG.later H1.out Bd)
  have HX2 := hide3 ((Bd.block xb (Array.getElem?_eq_some_iff.1 HXB.out).1).trans HXB.out)
  have HE2 : Hid (xb = W.heap.size ∧ Below W.heap.size W W2 ∧ ∀ (j : Nat) (q : Nat × Hpr), ps[j]? = some q → ∀ i, q.2.mine i → i < W.heap.size) := ⟨HE.out.1, HE.out.2.1.trans (Bd.mono HE.out.2.1.size), HE.out.2.2⟩
  clear hWd Bd b0 b1 r1 r2 c0 c1 H1 HXB HE hDb hga hgb
  go_upto_region 2 with fail
  go_quiet (fail)
  generalize hWd : W2.drewN _ = W3
  have Bd : Below W2.heap.size W2 W3 := by rw [← hWd]; exact same_below _ _
  have c0 : W3.cell? ⟨xb, 0, none⟩ = _ := (Bd.cell (p := ⟨xb, 0, none⟩) (cell_lt e0)).trans e0
  have H3 := hide3 (DeskG.later H2.out Bd)
  have hx3b : W3.heap[xb]? = _ := (Bd.block xb (Array.getElem?_eq_some_iff.1 HX2.out).1).trans HX2.out
  have hnm : ¬ q.2.mine xb := fun e => by have h1 := HE2.out.2.2 k q hq xb e; have h2 := HE2.out.1; omega
  clear hWd Bd e0 e1 e2 e3 e4 H2 HX2 HE2 hW1
  have c2 : W3.cell? ⟨xb, 2, none⟩ = some (.int .i64 x3) := by simp [World.cell?, hx3b]
  have c3 : W3.cell? ⟨xb, 3, none⟩ = some (.int .i64 x4) := by simp [World.cell?, hx3b]
  have c4 : W3.cell? ⟨xb, 4, none⟩ = some (.int .i64 x5) := by simp [World.cell?, hx3b]
  have hxl : xb < W3.heap.size := cell_lt c0
  have HX3 := hide3 hx3b
  have HNM := hide3 hnm
  clear hx3b hnm
  have HAT := hide3 (DeskG.hs H3.out k q hq)
  have hsz := DeskG.size H3.out k q hq
  have hw3 : w0.heap.size ≤ W3.heap.size := (DeskG.bel H3.out).size
  have heq := fun (w : World) (a b : Int) => eq_thing w a b
  obtain ⟨b, E1, HT0⟩ : ∃ b E1, ∀ X : World, Below W3.heap.size W3 X → Two w0 X q.2 28 #[.pointer (some ⟨q.2.hb, 0, none⟩), .int .i64 x3, valT (x4, x5)] 29 #[.pointer (some ⟨q.2.db, 0, none⟩), .int .i64 x3, valT (x4, x5)] (.bool b) q.2.last E1 := two_change_all HAT.out x3 (x4, x5) hx3 hw3 (by omega)
  have HT := hide3 HT0
  clear HT0
  go_upto_region 23 with (first
    | (go_at_call 19
       refine (among_any x1 10 _ (by omega)).mono ?_
       rintro e w9 ⟨rfl, hw9⟩
       rw [hw9, HKD.out]
       clear hw9)
    | fail)
  have sq : W3.drew.cell? ⟨xb, 2, none⟩ = some (.int .i64 x3) ∧ W3.drew.cell? ⟨xb, 3, none⟩ = some (.int .i64 x4) ∧ W3.drew.cell? ⟨xb, 3 + 1, none⟩ = some (.int .i64 x5) := ⟨c2, c3, c4⟩
  refine wp_region_held_drew (S := fun X => X.cell? ⟨xb, 2, none⟩ = some (.int .i64 x3) ∧ X.cell? ⟨xb, 3, none⟩ = some (.int .i64 x4) ∧ X.cell? ⟨xb, 3 + 1, none⟩ = some (.int .i64 x5)) (by kernel_rfl) sq (fun _ => ?_)
  refine H_take (i := 0) (v := .pointer (some ⟨q.2.hb, 0, none⟩)) (some 168) rfl rfl (by kernel_rfl) (by kernel_rfl) (by kernel_rfl) (fun _ _ _ h => h) rfl (fun X hX => ?_) sq ?_
  · simp [go_sem]
  simp only [Act.put, List.setIfInBounds_toArray, List.set_cons_zero, List.set_cons_succ]
  refine H_take (i := 1) (v := .pointer (some ⟨xb, 2, none⟩)) (some 169) rfl rfl (by kernel_rfl) (by kernel_rfl) (by kernel_rfl) (fun _ _ _ h => h) rfl (fun X hX => ?_) sq ?_
  · simp [go_sem]
  simp only [Act.put, List.setIfInBounds_toArray, List.set_cons_zero, List.set_cons_succ]
  refine H_take (i := 2) (v := .int .i64 x3) (some 170) rfl rfl (by kernel_rfl) (by kernel_rfl) (by kernel_rfl) (fun _ _ _ h => h) rfl (fun X hX => ?_) sq ?_
  · exact run_load1 rfl rfl Try.isAgg3 hX.1
  simp only [Act.put, List.setIfInBounds_toArray, List.set_cons_zero, List.set_cons_succ]
  refine H_take (i := 3) (v := .pointer (some ⟨xb, 3, none⟩)) (some 171) rfl rfl (by kernel_rfl) (by kernel_rfl) (by kernel_rfl) (fun _ _ _ h => h) rfl (fun X hX => ?_) sq ?_
  · simp [go_sem]
  simp only [Act.put, List.setIfInBounds_toArray, List.set_cons_zero, List.set_cons_succ]
  refine H_take (i := 4) (v := .agg #[.int .i64 x4, .int .i64 x5]) (some 172) rfl rfl (by kernel_rfl) (by kernel_rfl) (by kernel_rfl) (fun _ _ _ h => h) rfl (fun X hX => ?_) sq ?_
  · simp [go_sem, hX.2.1, hX.2.2]
  simp only [Act.put, List.setIfInBounds_toArray, List.set_cons_zero, List.set_cons_succ]
  refine H_take (i := 6) (v := .pointer (some ⟨q.2.db, 0, none⟩)) (some 174) rfl rfl (by kernel_rfl) (by kernel_rfl) (by kernel_rfl) (fun _ _ _ h => h) rfl (fun X hX => ?_) sq ?_
  · simp [go_sem]
  simp only [Act.put, List.setIfInBounds_toArray, List.set_cons_zero, List.set_cons_succ]
  refine H_take (i := 7) (v := .pointer (some ⟨xb, 2, none⟩)) (some 175) rfl rfl (by kernel_rfl) (by kernel_rfl) (by kernel_rfl) (fun _ _ _ h => h) rfl (fun X hX => ?_) sq ?_
  · simp [go_sem]
  simp only [Act.put, List.setIfInBounds_toArray, List.set_cons_zero, List.set_cons_succ]
  refine H_take (i := 8) (v := .int .i64 x3) (some 176) rfl rfl (by kernel_rfl) (by kernel_rfl) (by kernel_rfl) (fun _ _ _ h => h) rfl (fun X hX => ?_) sq ?_
  · exact run_load1 rfl rfl Try.isAgg3 hX.1
  simp only [Act.put, List.setIfInBounds_toArray, List.set_cons_zero, List.set_cons_succ]
  refine H_take (i := 9) (v := .pointer (some ⟨xb, 3, none⟩)) (some 177) rfl rfl (by kernel_rfl) (by kernel_rfl) (by kernel_rfl) (fun _ _ _ h => h) rfl (fun X hX => ?_) sq ?_
  · simp [go_sem]
  simp only [Act.put, List.setIfInBounds_toArray, List.set_cons_zero, List.set_cons_succ]
  refine H_take (i := 10) (v := .agg #[.int .i64 x4, .int .i64 x5]) (some 178) rfl rfl (by kernel_rfl) (by kernel_rfl) (by kernel_rfl) (fun _ _ _ h => h) rfl (fun X hX => ?_) sq ?_
  · simp [go_sem, hX.2.1, hX.2.2]
  simp only [Act.put, List.setIfInBounds_toArray, List.set_cons_zero, List.set_cons_succ]
  refine H_call (i := 5) (f := 28) (args := #[.pointer (some ⟨q.2.hb, 0, none⟩), .int .i64 x3, .agg #[.int .i64 x4, .int .i64 x5]]) (some 173) rfl rfl (by kernel_rfl) rfl (by simp [go_sem]) (((HT.out _ ((Below.refl _ W3).drew)).one).mono ?_)
  rintro e w5 ⟨rfl, v5, R5, hm5⟩
  have n5 : w5.heap[xb]? = _ := (hm5.kept.block xb hxl HNM.out).trans HX3.out
  have sq5 : w5.cell? ⟨xb, 2, none⟩ = some (.int .i64 x3) ∧ w5.cell? ⟨xb, 3, none⟩ = some (.int .i64 x4) ∧ w5.cell? ⟨xb, 3 + 1, none⟩ = some (.int .i64 x5) := by simp only [World.cell?, n5]; exact ⟨rfl, rfl, rfl⟩
  refine ⟨_, rfl, sq5, ?_⟩
  simp only [Act.put, List.setIfInBounds_toArray, List.set_cons_zero, List.set_cons_succ]
  refine H_call (i := 11) (f := 29) (args := #[.pointer (some ⟨q.2.db, 0, none⟩), .int .i64 x3, .agg #[.int .i64 x4, .int .i64 x5]]) (some 179) rfl rfl (by kernel_rfl) rfl (by simp [go_sem]) (((HT.out _ ((Below.refl _ W3).drew)).two w5 v5 R5 hm5).mono ?_)
  rintro e w6 ⟨rfl, hk6, p6, ht6, hl6, he6⟩
  have H6 : Hid (Left w0 Db (n + 1) ps.length (.returned (.bool true)) w6) := left_of (DeskG.later H3.out ((Below.refl _ W3).drew)) ht hq (HT.out _ ((Below.refl _ W3).drew)) ht6 hl6 he6 (Below.refl _ _)
  have n6 : w6.heap[xb]? = _ := (hk6.block xb (Array.getElem?_eq_some_iff.1 n5).1 (fun e => HNM.out (.inr e))).trans n5
  have sq6 : w6.cell? ⟨xb, 2, none⟩ = some (.int .i64 x3) ∧ w6.cell? ⟨xb, 3, none⟩ = some (.int .i64 x4) ∧ w6.cell? ⟨xb, 3 + 1, none⟩ = some (.int .i64 x5) := by simp only [World.cell?, n6]; exact ⟨rfl, rfl, rfl⟩
  refine ⟨_, rfl, sq6, ?_⟩
  simp only [Act.put, List.setIfInBounds_toArray, List.set_cons_zero, List.set_cons_succ]
  refine H_take (i := 12) (v := .bool true) (some 180) rfl rfl (by kernel_rfl) (by kernel_rfl) (by kernel_rfl) (fun _ _ _ h => h) rfl (fun X hX => ?_) sq6 ?_
  · simp [go_sem]
  simp only [Act.put, List.setIfInBounds_toArray, List.set_cons_zero, List.set_cons_succ]
  refine H_take (i := 13) (v := .bool true) (some 4) rfl rfl (by kernel_rfl) (by kernel_rfl) (by kernel_rfl) (fun _ _ _ h => h) rfl (fun X hX => ?_) sq6 ?_
  · simp [go_sem]
  simp only [Act.put, List.setIfInBounds_toArray, List.set_cons_zero, List.set_cons_succ]
  refine wpAnyH_done (by kernel_rfl) ?_ _
  clear hm5 hk6 ht6 hl6 he6 n5 n6 sq5 sq6 sq
  go_wp2_with fail
  go_ret
  exact H6.out
end Go.Proofs.Ytkjjinccnaphpaa

namespace Go.Proofs.Ytkjjinccnaphpaa
open Go.RowKit

set_option maxHeartbeats 4000000 in
set_option maxRecDepth 1000000 in
theorem act_6 {w0 W : World} {lab : Nat → Tag} {Db f top n : Nat} {va vb : Value} {es : List Ent} {ps : List (Nat × Hpr)} (h : DeskS w0 W lab Db va vb f es ps top n) (ht : 3 ≤ top) (hp : 0 < ps.length) (x : ActI) (hx : actFits x) (hn : n ≤ 2000000) (hkd : amongI x.1 10 = 6) :
    Calls Try.prog 8 #[.pointer (some ⟨Db, 0, none⟩), actV x] W fun e w' => Left w0 Db (n + 1) ps.length e w' := by
  obtain ⟨x1, x2, x3, x4, x5⟩ := x
  have hx3 : (Lit.int .i64 x3).wf = true := hx.2.2.1
  have hfew := h.few
  have har := among_range (i := x2) (n := (ps.length : Int)) (by omega)
  obtain ⟨k, hk⟩ : ∃ k : Nat, amongI x2 (ps.length : Int) = (k : Int) := ⟨(amongI x2 (ps.length : Int)).toNat, by omega⟩
  have hkl : k < ps.length := by omega
  have HKK : Hid (amongI x2 (ps.length : Int) = (k : Int)) := hk
  have HKD : Hid (amongI x1 10 = 6) := hkd
  have hki : (k : Int) < (ps.length : Int) := by omega
  have h5 : (ps.length : Int) ≤ 4294967296 := by have := hn; omega
  clear har hk hkd
  obtain ⟨q, hq⟩ : ∃ q, ps[k]? = some q := ⟨_, List.getElem?_eq_getElem hkl⟩
  obtain ⟨W1, hW1⟩ : ∃ W1, W.alloc (.cells #[.int .i64 x1, .int .i64 x2, .int .i64 x3, .int .i64 x4, .int .i64 x5] 40) = W1 := ⟨_, rfl⟩
  have hb1 : Below W.heap.size W W1 := by rw [← hW1]; exact (Below.refl _ W).alloc (Nat.le_refl _) _
  have hxb : W1.heap[W.heap.size]? = some (.cells #[.int .i64 x1, .int .i64 x2, .int .i64 x3, .int .i64 x4, .int .i64 x5] 40 (0, 0)) := by rw [← hW1]; exact heap_alloc_new W _
  obtain ⟨xb, hxbe⟩ : ∃ xb, xb = W.heap.size := ⟨_, rfl⟩
  rw [← hxbe] at hxb
  have c0 : W1.cell? ⟨xb, 0, none⟩ = some (.int .i64 x1) := by simp [World.cell?, hxb]
  have c1 : W1.cell? ⟨xb, 1, none⟩ = some (.int .i64 x2) := by simp [World.cell?, hxb]
  have h1 := h.later hb1
  obtain ⟨ga, ca, gb, cb, rfl, rfl, r1, r2, hga, hgb, _, _⟩ := DeskS.reads h1 hq
  obtain ⟨b0, b1, hDb, _, _, _, _⟩ := h1.box
  unfold ptrA at r1
  unfold ptrB at r2
  have H1 := hide3 h1
  have HXB := hide3 hxb
  have HE : Hid (xb = W.heap.size ∧ Below W.heap.size W W1 ∧ ∀ (j : Nat) (q : Nat × Hpr), ps[j]? = some q → ∀ i, q.2.mine i → i < W.heap.size) := ⟨hxbe, hb1, fun j q hq i hi => (h.hs j q hq).lt hi⟩
  have CA : Hid (∀ w : World, Calls Try.prog 19 #[.int .i64 x2, .int .i64 (ps.length : Int)] w fun e w' => e = .returned (.int .i64 (k : Int)) ∧ w' = w) := fun w => by rw [← HKK.out]; exact among_any x2 _ w (by omega)
  clear h h1 hxb hb1 hxbe
  unfold actV
  go_enter Try.func8, Try.ntmps8
  go_upto_region 1 with fail
  rw [← HE.out.1]
  go_quiet ((go_at_call 19; exact Calls.quiet_of_same (CA.out _)))
  generalize hWd : W1.drewN _ = W2
  have Bd : Below W1.heap.size W1 W2 := by rw [← hWd]; exact same_below _ _
  have e0 : W2.cell? ⟨xb, 0, none⟩ = _ := (Bd.cell (p := ⟨xb, 0, none⟩) (cell_lt c0)).trans c0
  have e1 : W2.cell? ⟨Db, 0, none⟩ = _ := (Bd.cell (p := ⟨Db, 0, none⟩) hDb).trans b0
  have e2 : W2.cell? ⟨Db, 1, none⟩ = _ := (Bd.cell (p := ⟨Db, 1, none⟩) hDb).trans b1
  have e3 : W2.cell? ⟨ga, k, none⟩ = _ := (Bd.cell (p := ⟨ga, k, none⟩) hga).trans r1
  have e4 : W2.cell? ⟨gb, k, none⟩ = _ := (Bd.cell (p := ⟨gb, k, none⟩) hgb).trans r2
  have H2 := hide3 (DeskG.later H1.out Bd)
  have HX2 := hide3 ((Bd.block xb (Array.getElem?_eq_some_iff.1 HXB.out).1).trans HXB.out)
  have HE2 : Hid (xb = W.heap.size ∧ Below W.heap.size W W2 ∧ ∀ (j : Nat) (q : Nat × Hpr), ps[j]? = some q → ∀ i, q.2.mine i → i < W.heap.size) := ⟨HE.out.1, HE.out.2.1.trans (Bd.mono HE.out.2.1.size), HE.out.2.2⟩
  clear hWd Bd b0 b1 r1 r2 c0 c1 H1 HXB HE hDb hga hgb
  go_upto_region 2 with fail
  go_quiet (fail)
  generalize hWd : W2.drewN _ = W3
  have Bd : Below W2.heap.size W2 W3 := by rw [← hWd]; exact same_below _ _
  have c0 : W3.cell? ⟨xb, 0, none⟩ = _ := (Bd.cell (p := ⟨xb, 0, none⟩) (cell_lt e0)).trans e0
  have H3 := hide3 (DeskG.later H2.out Bd)
  have hx3b : W3.heap[xb]? = _ := (Bd.block xb (Array.getElem?_eq_some_iff.1 HX2.out).1).trans HX2.out
  have hnm : ¬ q.2.mine xb := fun e => by have h1 := HE2.out.2.2 k q hq xb e; have h2 := HE2.out.1; omega
  clear hWd Bd e0 e1 e2 e3 e4 H2 HX2 HE2 hW1
  have c2 : W3.cell? ⟨xb, 2, none⟩ = some (.int .i64 x3) := by simp [World.cell?, hx3b]
  have c3 : W3.cell? ⟨xb, 3, none⟩ = some (.int .i64 x4) := by simp [World.cell?, hx3b]
  have c4 : W3.cell? ⟨xb, 4, none⟩ = some (.int .i64 x5) := by simp [World.cell?, hx3b]
  have hxl : xb < W3.heap.size := cell_lt c0
  have HX3 := hide3 hx3b
  have HNM := hide3 hnm
  clear hx3b hnm
  have HAT := hide3 (DeskG.hs H3.out k q hq)
  have hsz := DeskG.size H3.out k q hq
  have hw3 : w0.heap.size ≤ W3.heap.size := (DeskG.bel H3.out).size
  have heq := fun (w : World) (a b : Int) => eq_thing w a b
  have CC := hide3 (order_any H3.out k hkl hn)
  go_wp2_with (first
    | (go_at_call 19
       refine (among_any x1 10 _ (by omega)).mono ?_
       rintro e w9 ⟨rfl, hw9⟩
       rw [hw9, HKD.out]
       clear hw9)
    | (go_at_call 30
       refine CC.out.mono ?_
       rintro e w5 ⟨rfl, lab5, es5, hd5⟩
       have H5 : Hid (Left w0 Db (n + 1) ps.length (.returned (.bool true)) w5) := ⟨rfl, _, _, _, _, _, _, _, hd5, ht, Nat.le_refl _⟩
       clear hd5))
  go_ret
  exact H5.out
end Go.Proofs.Ytkjjinccnaphpaa

namespace Go.Proofs.Ytkjjinccnaphpaa
open Go.RowKit

set_option maxHeartbeats 4000000 in
set_option maxRecDepth 1000000 in
theorem act_7 {w0 W : World} {lab : Nat → Tag} {Db f top n : Nat} {va vb : Value} {es : List Ent} {ps : List (Nat × Hpr)} (h : DeskS w0 W lab Db va vb f es ps top n) (ht : 3 ≤ top) (hp : 0 < ps.length) (x : ActI) (hx : actFits x) (hn : n ≤ 2000000) (hkd : amongI x.1 10 = 7) :
    Calls Try.prog 8 #[.pointer (some ⟨Db, 0, none⟩), actV x] W fun e w' => Left w0 Db (n + 1) ps.length e w' := by
  obtain ⟨x1, x2, x3, x4, x5⟩ := x
  have hx3 : (Lit.int .i64 x3).wf = true := hx.2.2.1
  have hfew := h.few
  have har := among_range (i := x2) (n := (ps.length : Int)) (by omega)
  obtain ⟨k, hk⟩ : ∃ k : Nat, amongI x2 (ps.length : Int) = (k : Int) := ⟨(amongI x2 (ps.length : Int)).toNat, by omega⟩
  have hkl : k < ps.length := by omega
  have HKK : Hid (amongI x2 (ps.length : Int) = (k : Int)) := hk
  have HKD : Hid (amongI x1 10 = 7) := hkd
  have hki : (k : Int) < (ps.length : Int) := by omega
  have h5 : (ps.length : Int) ≤ 4294967296 := by have := hn; omega
  clear har hk hkd
  obtain ⟨q, hq⟩ : ∃ q, ps[k]? = some q := ⟨_, List.getElem?_eq_getElem hkl⟩
  obtain ⟨W1, hW1⟩ : ∃ W1, W.alloc (.cells #[.int .i64 x1, .int .i64 x2, .int .i64 x3, .int .i64 x4, .int .i64 x5] 40) = W1 := ⟨_, rfl⟩
  have hb1 : Below W.heap.size W W1 := by rw [← hW1]; exact (Below.refl _ W).alloc (Nat.le_refl _) _
  have hxb : W1.heap[W.heap.size]? = some (.cells #[.int .i64 x1, .int .i64 x2, .int .i64 x3, .int .i64 x4, .int .i64 x5] 40 (0, 0)) := by rw [← hW1]; exact heap_alloc_new W _
  obtain ⟨xb, hxbe⟩ : ∃ xb, xb = W.heap.size := ⟨_, rfl⟩
  rw [← hxbe] at hxb
  have c0 : W1.cell? ⟨xb, 0, none⟩ = some (.int .i64 x1) := by simp [World.cell?, hxb]
  have c1 : W1.cell? ⟨xb, 1, none⟩ = some (.int .i64 x2) := by simp [World.cell?, hxb]
  have h1 := h.later hb1
  obtain ⟨ga, ca, gb, cb, rfl, rfl, r1, r2, hga, hgb, _, _⟩ := DeskS.reads h1 hq
  obtain ⟨b0, b1, hDb, _, _, _, _⟩ := h1.box
  unfold ptrA at r1
  unfold ptrB at r2
  have H1 := hide3 h1
  have HXB := hide3 hxb
  have HE : Hid (xb = W.heap.size ∧ Below W.heap.size W W1 ∧ ∀ (j : Nat) (q : Nat × Hpr), ps[j]? = some q → ∀ i, q.2.mine i → i < W.heap.size) := ⟨hxbe, hb1, fun j q hq i hi => (h.hs j q hq).lt hi⟩
  have CA : Hid (∀ w : World, Calls Try.prog 19 #[.int .i64 x2, .int .i64 (ps.length : Int)] w fun e w' => e = .returned (.int .i64 (k : Int)) ∧ w' = w) := fun w => by rw [← HKK.out]; exact among_any x2 _ w (by omega)
  clear h h1 hxb hb1 hxbe
  unfold actV
  go_enter Try.func8, Try.ntmps8
  go_upto_region 1 with fail
  rw [← HE.out.1]
  go_quiet ((go_at_call 19; exact Calls.quiet_of_same (CA.out _)))
  generalize hWd : W1.drewN _ = W2
  have Bd : Below W1.heap.size W1 W2 := by rw [← hWd]; exact same_below _ _
  have e0 : W2.cell? ⟨xb, 0, none⟩ = _ := (Bd.cell (p := ⟨xb, 0, none⟩) (cell_lt c0)).trans c0
  have e1 : W2.cell? ⟨Db, 0, none⟩ = _ := (Bd.cell (p := ⟨Db, 0, none⟩) hDb).trans b0
  have e2 : W2.cell? ⟨Db, 1, none⟩ = _ := (Bd.cell (p := ⟨Db, 1, none⟩) hDb).trans b1
  have e3 : W2.cell? ⟨ga, k, none⟩ = _ := (Bd.cell (p := ⟨ga, k, none⟩) hga).trans r1
  have e4 : W2.cell? ⟨gb, k, none⟩ = _ := (Bd.cell (p := ⟨gb, k, none⟩) hgb).trans r2
  have H2 := hide3 (DeskG.later H1.out Bd)
  have HX2 := hide3 ((Bd.block xb (Array.getElem?_eq_some_iff.1 HXB.out).1).trans HXB.out)
  have HE2 : Hid (xb = W.heap.size ∧ Below W.heap.size W W2 ∧ ∀ (j : Nat) (q : Nat × Hpr), ps[j]? = some q → ∀ i, q.2.mine i → i < W.heap.size) := ⟨HE.out.1, HE.out.2.1.trans (Bd.mono HE.out.2.1.size), HE.out.2.2⟩
  clear hWd Bd b0 b1 r1 r2 c0 c1 H1 HXB HE hDb hga hgb
  go_upto_region 2 with fail
  go_quiet (fail)
  generalize hWd : W2.drewN _ = W3
  have Bd : Below W2.heap.size W2 W3 := by rw [← hWd]; exact same_below _ _
  have c0 : W3.cell? ⟨xb, 0, none⟩ = _ := (Bd.cell (p := ⟨xb, 0, none⟩) (cell_lt e0)).trans e0
  have H3 := hide3 (DeskG.later H2.out Bd)
  have hx3b : W3.heap[xb]? = _ := (Bd.block xb (Array.getElem?_eq_some_iff.1 HX2.out).1).trans HX2.out
  have hnm : ¬ q.2.mine xb := fun e => by have h1 := HE2.out.2.2 k q hq xb e; have h2 := HE2.out.1; omega
  clear hWd Bd e0 e1 e2 e3 e4 H2 HX2 HE2 hW1
  have c2 : W3.cell? ⟨xb, 2, none⟩ = some (.int .i64 x3) := by simp [World.cell?, hx3b]
  have c3 : W3.cell? ⟨xb, 3, none⟩ = some (.int .i64 x4) := by simp [World.cell?, hx3b]
  have c4 : W3.cell? ⟨xb, 4, none⟩ = some (.int .i64 x5) := by simp [World.cell?, hx3b]
  have hxl : xb < W3.heap.size := cell_lt c0
  have HX3 := hide3 hx3b
  have HNM := hide3 hnm
  clear hx3b hnm
  have HAT := hide3 (DeskG.hs H3.out k q hq)
  have hsz := DeskG.size H3.out k q hq
  have hw3 : w0.heap.size ≤ W3.heap.size := (DeskG.bel H3.out).size
  have heq := fun (w : World) (a b : Int) => eq_thing w a b
  have CL := hide3 (lenT W3 q.2.hb q.2.mb q.2.v q.2.f #[] q.2.last q.2.R HAT.out.h)
  rw [HAT.out.perm.length_eq] at CL
  have CH := hide3 (hLen_any W3 w0.heap.size q.2.db q.2.dv q.2.way q.2.last q.2.E HAT.out.d)
  go_wp2_with (first
    | (go_at_call 19
       refine (among_any x1 10 _ (by omega)).mono ?_
       rintro e w9 ⟨rfl, hw9⟩
       rw [hw9, HKD.out]
       clear hw9)
    | (go_at_call 15
       refine CL.out.mono ?_
       rintro e w9 ⟨rfl, hw9⟩
       rw [hw9]
       clear hw9)
    | (go_at_call 31
       refine CH.out.mono ?_
       rintro e w9 ⟨rfl, hw9⟩
       rw [hw9]
       clear hw9))
  go_ret
  exact ⟨rfl, _, _, _, _, _, _, _, DeskG.weak H3.out (Nat.le_succ n), ht, Nat.le_refl _⟩
end Go.Proofs.Ytkjjinccnaphpaa

namespace Go.Proofs.Ytkjjinccnaphpaa
open Go.RowKit

set_option maxHeartbeats 4000000 in
set_option maxRecDepth 1000000 in
theorem act_8 {w0 W : World} {lab : Nat → Tag} {Db f top n : Nat} {va vb : Value} {es : List Ent} {ps : List (Nat × Hpr)} (h : DeskS w0 W lab Db va vb f es ps top n) (ht : 3 ≤ top) (hp : 0 < ps.length) (x : ActI) (hx : actFits x) (hn : n ≤ 2000000) (hkd : amongI x.1 10 = 8) :
    Calls Try.prog 8 #[.pointer (some ⟨Db, 0, none⟩), actV x] W fun e w' => Left w0 Db (n + 1) ps.length e w' := by
  obtain ⟨x1, x2, x3, x4, x5⟩ := x
  have hx3 : (Lit.int .i64 x3).wf = true := hx.2.2.1
  have hfew := h.few
  have har := among_range (i := x2) (n := (ps.length : Int)) (by omega)
  obtain ⟨k, hk⟩ : ∃ k : Nat, amongI x2 (ps.length : Int) = (k : Int) := ⟨(amongI x2 (ps.length : Int)).toNat, by omega⟩
  have hkl : k < ps.length := by omega
  have HKK : Hid (amongI x2 (ps.length : Int) = (k : Int)) := hk
  have HKD : Hid (amongI x1 10 = 8) := hkd
  have hki : (k : Int) < (ps.length : Int) := by omega
  have h5 : (ps.length : Int) ≤ 4294967296 := by have := hn; omega
  clear har hk hkd
  obtain ⟨q, hq⟩ : ∃ q, ps[k]? = some q := ⟨_, List.getElem?_eq_getElem hkl⟩
  obtain ⟨W1, hW1⟩ : ∃ W1, W.alloc (.cells #[.int .i64 x1, .int .i64 x2, .int .i64 x3, .int .i64 x4, .int .i64 x5] 40) = W1 := ⟨_, rfl⟩
  have hb1 : Below W.heap.size W W1 := by rw [← hW1]; exact (Below.refl _ W).alloc (Nat.le_refl _) _
  have hxb : W1.heap[W.heap.size]? = some (.cells #[.int .i64 x1, .int .i64 x2, .int .i64 x3, .int .i64 x4, .int .i64 x5] 40 (0, 0)) := by rw [← hW1]; exact heap_alloc_new W _
  obtain ⟨xb, hxbe⟩ : ∃ xb, xb = W.heap.size := ⟨_, rfl⟩
  rw [← hxbe] at hxb
  have c0 : W1.cell? ⟨xb, 0, none⟩ = some (.int .i64 x1) := by simp [World.cell?, hxb]
  have c1 : W1.cell? ⟨xb, 1, none⟩ = some (.int .i64 x2) := by simp [World.cell?, hxb]
  have h1 := h.later hb1
  obtain ⟨ga, ca, gb, cb, rfl, rfl, r1, r2, hga, hgb, _, _⟩ := DeskS.reads h1 hq
  obtain ⟨b0, b1, hDb, _, _, _, _⟩ := h1.box
  unfold ptrA at r1
  unfold ptrB at r2
  have H1 := hide3 h1
  have HXB := hide3 hxb
  have HE : Hid (xb = W.heap.size ∧ Below W.heap.size W W1 ∧ ∀ (j : Nat) (q : Nat × Hpr), ps[j]? = some q → ∀ i, q.2.mine i → i < W.heap.size) := ⟨hxbe, hb1, fun j q hq i hi => (h.hs j q hq).lt hi⟩
  have CA : Hid (∀ w : World, Calls Try.prog 19 #[.int .i64 x2, .int .i64 (ps.length : Int)] w fun e w' => e = .returned (.int .i64 (k : Int)) ∧ w' = w) := fun w => by rw [← HKK.out]; exact among_any x2 _ w (by omega)
  clear h h1 hxb hb1 hxbe
  unfold actV
  go_enter Try.func8, Try.ntmps8
  go_upto_region 1 with fail
  rw [← HE.out.1]
  go_quiet ((go_at_call 19; exact Calls.quiet_of_same (CA.out _)))
  generalize hWd : W1.drewN _ = W2
  have Bd : Below W1.heap.size W1 W2 := by rw [← hWd]; exact same_below _ _
  have e0 : W2.cell? ⟨xb, 0, none⟩ = _ := (Bd.cell (p := ⟨xb, 0, none⟩) (cell_lt c0)).trans c0
  have e1 : W2.cell? ⟨Db, 0, none⟩ = _ := (Bd.cell (p := ⟨Db, 0, none⟩) hDb).trans b0
  have e2 : W2.cell? ⟨Db, 1, none⟩ = _ := (Bd.cell (p := ⟨Db, 1, none⟩) hDb).trans b1
  have e3 : W2.cell? ⟨ga, k, none⟩ = _ := (Bd.cell (p := ⟨ga, k, none⟩) hga).trans r1
  have e4 : W2.cell? ⟨gb, k, none⟩ = _ := (Bd.cell (p := ⟨gb, k, none⟩) hgb).trans r2
  have H2 := hide3 (DeskG.later H1.out Bd)
  have HX2 := hide3 ((Bd.block xb (Array.getElem?_eq_some_iff.1 HXB.out).1).trans HXB.out)
  have HE2 : Hid (xb = W.heap.size ∧ Below W.heap.size W W2 ∧ ∀ (j : Nat) (q : Nat × Hpr), ps[j]? = some q → ∀ i, q.2.mine i → i < W.heap.size) := ⟨HE.out.1, HE.out.2.1.trans (Bd.mono HE.out.2.1.size), HE.out.2.2⟩
  clear hWd Bd b0 b1 r1 r2 c0 c1 H1 HXB HE hDb hga hgb
  go_upto_region 2 with fail
  go_quiet (fail)
  generalize hWd : W2.drewN _ = W3
  have Bd : Below W2.heap.size W2 W3 := by rw [← hWd]; exact same_below _ _
  have c0 : W3.cell? ⟨xb, 0, none⟩ = _ := (Bd.cell (p := ⟨xb, 0, none⟩) (cell_lt e0)).trans e0
  have H3 := hide3 (DeskG.later H2.out Bd)
  have hx3b : W3.heap[xb]? = _ := (Bd.block xb (Array.getElem?_eq_some_iff.1 HX2.out).1).trans HX2.out
  have hnm : ¬ q.2.mine xb := fun e => by have h1 := HE2.out.2.2 k q hq xb e; have h2 := HE2.out.1; omega
  clear hWd Bd e0 e1 e2 e3 e4 H2 HX2 HE2 hW1
  have c2 : W3.cell? ⟨xb, 2, none⟩ = some (.int .i64 x3) := by simp [World.cell?, hx3b]
  have c3 : W3.cell? ⟨xb, 3, none⟩ = some (.int .i64 x4) := by simp [World.cell?, hx3b]
  have c4 : W3.cell? ⟨xb, 4, none⟩ = some (.int .i64 x5) := by simp [World.cell?, hx3b]
  have hxl : xb < W3.heap.size := cell_lt c0
  have HX3 := hide3 hx3b
  have HNM := hide3 hnm
  clear hx3b hnm
  have HAT := hide3 (DeskG.hs H3.out k q hq)
  have hsz := DeskG.size H3.out k q hq
  have hw3 : w0.heap.size ≤ W3.heap.size := (DeskG.bel H3.out).size
  have heq := fun (w : World) (a b : Int) => eq_thing w a b
  have CC := hide3 (clone_any H3.out ht k hkl x3 hn)
  go_wp2_with (first
    | (go_at_call 19
       refine (among_any x1 10 _ (by omega)).mono ?_
       rintro e w9 ⟨rfl, hw9⟩
       rw [hw9, HKD.out]
       clear hw9)
    | (go_at_call 32
       refine CC.out.mono ?_
       rintro e w5 ⟨rfl, lab5, va5, vb5, ps5, hd5, hl5⟩
       have H5 : Hid (Left w0 Db (n + 1) ps.length (.returned (.bool true)) w5) := ⟨rfl, _, _, _, _, _, _, _, DeskG.weak hd5 (Nat.le_succ n), Nat.le_succ_of_le ht, hl5⟩
       clear hd5 hl5))
  go_ret
  exact H5.out
end Go.Proofs.Ytkjjinccnaphpaa

namespace Go.Proofs.Ytkjjinccnaphpaa
open Go.RowKit

set_option maxHeartbeats 4000000 in
set_option maxRecDepth 1000000 in
theorem act_9 {w0 W : World} {lab : Nat → Tag} {Db f top n : Nat} {va vb : Value} {es : List Ent} {ps : List (Nat × Hpr)} (h : DeskS w0 W lab Db va vb f es ps top n) (ht : 3 ≤ top) (hp : 0 < ps.length) (x : ActI) (hx : actFits x) (hn : n ≤ 2000000) (hkd : amongI x.1 10 = 9) :
    Calls Try.prog 8 #[.pointer (some ⟨Db, 0, none⟩), actV x] W fun e w' => Left w0 Db (n + 1) ps.length e w' := by
  obtain ⟨x1, x2, x3, x4, x5⟩ := x
  have hx3 : (Lit.int .i64 x3).wf = true := hx.2.2.1
  have hfew := h.few
  have har := among_range (i := x2) (n := (ps.length : Int)) (by omega)
  obtain ⟨k, hk⟩ : ∃ k : Nat, amongI x2 (ps.length : Int) = (k : Int) := ⟨(amongI x2 (ps.length : Int)).toNat, by omega⟩
  have hkl : k < ps.length := by omega
  have HKK : Hid (amongI x2 (ps.length : Int) = (k : Int)) := hk
  have HKD : Hid (amongI x1 10 = 9) := hkd
  have hki : (k : Int) < (ps.length : Int) := by omega
  have h5 : (ps.length : Int) ≤ 4294967296 := by have := hn; omega
  clear har hk hkd
  obtain ⟨q, hq⟩ : ∃ q, ps[k]? = some q := ⟨_, List.getElem?_eq_getElem hkl⟩
  obtain ⟨W1, hW1⟩ : ∃ W1, W.alloc (.cells #[.int .i64 x1, .int .i64 x2, .int .i64 x3, .int .i64 x4, .int .i64 x5] 40) = W1 := ⟨_, rfl⟩
  have hb1 : Below W.heap.size W W1 := by rw [← hW1]; exact (Below.refl _ W).alloc (Nat.le_refl _) _
  have hxb : W1.heap[W.heap.size]? = some (.cells #[.int .i64 x1, .int .i64 x2, .int .i64 x3, .int .i64 x4, .int .i64 x5] 40 (0, 0)) := by rw [← hW1]; exact heap_alloc_new W _
  obtain ⟨xb, hxbe⟩ : ∃ xb, xb = W.heap.size := ⟨_, rfl⟩
  rw [← hxbe] at hxb
  have c0 : W1.cell? ⟨xb, 0, none⟩ = some (.int .i64 x1) := by simp [World.cell?, hxb]
  have c1 : W1.cell? ⟨xb, 1, none⟩ = some (.int .i64 x2) := by simp [World.cell?, hxb]
  have h1 := h.later hb1
  obtain ⟨ga, ca, gb, cb, rfl, rfl, r1, r2, hga, hgb, _, _⟩ := DeskS.reads h1 hq
  obtain ⟨b0, b1, hDb, _, _, _, _⟩ := h1.box
  unfold ptrA at r1
  unfold ptrB at r2
  have H1 := hide3 h1
  have HXB := hide3 hxb
  have HE : Hid (xb = W.heap.size ∧ Below W.heap.size W W1 ∧ ∀ (j : Nat) (q : Nat × Hpr), ps[j]? = some q → ∀ i, q.2.mine i → i < W.heap.size) := ⟨hxbe, hb1, fun j q hq i hi => (h.hs j q hq).lt hi⟩
  have CA : Hid (∀ w : World, Calls Try.prog 19 #[.int .i64 x2, .int .i64 (ps.length : Int)] w fun e w' => e = .returned (.int .i64 (k : Int)) ∧ w' = w) := fun w => by rw [← HKK.out]; exact among_any x2 _ w (by omega)
  clear h h1 hxb hb1 hxbe
  unfold actV
  go_enter Try.func8, Try.ntmps8
  go_upto_region 1 with fail
  rw [← HE.out.1]
  go_quiet ((go_at_call 19; exact Calls.quiet_of_same (CA.out _)))
  generalize hWd : W1.drewN _ = W2
  have Bd : Below W1.heap.size W1 W2 := by rw [← hWd]; exact same_below _ _
  have e0 : W2.cell? ⟨xb, 0, none⟩ = _ := (Bd.cell (p := ⟨xb, 0, none⟩) (cell_lt c0)).trans c0
  have e1 : W2.cell? ⟨Db, 0, none⟩ = _ := (Bd.cell (p := ⟨Db, 0, none⟩) hDb).trans b0
  have e2 : W2.cell? ⟨Db, 1, none⟩ = _ := (Bd.cell (p := ⟨Db, 1, none⟩) hDb).trans b1
  have e3 : W2.cell? ⟨ga, k, none⟩ = _ := (Bd.cell (p := ⟨ga, k, none⟩) hga).trans r1
  have e4 : W2.cell? ⟨gb, k, none⟩ = _ := (Bd.cell (p := ⟨gb, k, none⟩) hgb).trans r2
  have H2 := hide3 (DeskG.later H1.out Bd)
  have HX2 := hide3 ((Bd.block xb (Array.getElem?_eq_some_iff.1 HXB.out).1).trans HXB.out)
  have HE2 : Hid (xb = W.heap.size ∧ Below W.heap.size W W2 ∧ ∀ (j : Nat) (q : Nat × Hpr), ps[j]? = some q → ∀ i, q.2.mine i → i < W.heap.size) := ⟨HE.out.1, HE.out.2.1.trans (Bd.mono HE.out.2.1.size), HE.out.2.2⟩
  clear hWd Bd b0 b1 r1 r2 c0 c1 H1 HXB HE hDb hga hgb
  go_upto_region 2 with fail
  go_quiet (fail)
  generalize hWd : W2.drewN _ = W3
  have Bd : Below W2.heap.size W2 W3 := by rw [← hWd]; exact same_below _ _
  have c0 : W3.cell? ⟨xb, 0, none⟩ = _ := (Bd.cell (p := ⟨xb, 0, none⟩) (cell_lt e0)).trans e0
  have H3 := hide3 (DeskG.later H2.out Bd)
  have hx3b : W3.heap[xb]? = _ := (Bd.block xb (Array.getElem?_eq_some_iff.1 HX2.out).1).trans HX2.out
  have hnm : ¬ q.2.mine xb := fun e => by have h1 := HE2.out.2.2 k q hq xb e; have h2 := HE2.out.1; omega
  clear hWd Bd e0 e1 e2 e3 e4 H2 HX2 HE2 hW1
  have c2 : W3.cell? ⟨xb, 2, none⟩ = some (.int .i64 x3) := by simp [World.cell?, hx3b]
  have c3 : W3.cell? ⟨xb, 3, none⟩ = some (.int .i64 x4) := by simp [World.cell?, hx3b]
  have c4 : W3.cell? ⟨xb, 4, none⟩ = some (.int .i64 x5) := by simp [World.cell?, hx3b]
  have hxl : xb < W3.heap.size := cell_lt c0
  have HX3 := hide3 hx3b
  have HNM := hide3 hnm
  clear hx3b hnm
  have HAT := hide3 (DeskG.hs H3.out k q hq)
  have hsz := DeskG.size H3.out k q hq
  have hw3 : w0.heap.size ≤ W3.heap.size := (DeskG.bel H3.out).size
  have heq := fun (w : World) (a b : Int) => eq_thing w a b
  have CC := hide3 (DeskG.write H3.out hn)
  go_wp2_with (first
    | (go_at_call 19
       refine (among_any x1 10 _ (by omega)).mono ?_
       rintro e w9 ⟨rfl, hw9⟩
       rw [hw9, HKD.out]
       clear hw9)
    | (go_at_call 11
       refine CC.out.mono ?_
       rintro e w5 ⟨rfl, lab5, f5, es5, hd5⟩
       have H5 : Hid (Left w0 Db (n + 1) ps.length (.returned (.bool true)) w5) := ⟨rfl, _, _, _, _, _, _, _, hd5, ht, Nat.le_refl _⟩
       clear hd5))
  go_ret
  exact H5.out
end Go.Proofs.Ytkjjinccnaphpaa
