/-
  HAct0, HAct1, HAct2, HAct3, HAct4.
-/
import Derived.Test.YtkjjinccnaphpaaHActK
namespace Go.Proofs.Ytkjjinccnaphpaa
open Go.RowKit

set_option maxHeartbeats 4000000 in
set_option maxRecDepth 1000000 in
theorem act_0 {w0 W : World} {lab : Nat → Tag} {Db f top n : Nat} {va vb : Value} {es : List Ent} {ps : List (Nat × Hpr)} (h : DeskS w0 W lab Db va vb f es ps top n) (ht : 3 ≤ top) (hp : 0 < ps.length) (x : ActI) (hx : actFits x) (hn : n ≤ 2000000) (hkd : amongI x.1 10 = 0) :
    Calls Try.prog 8 #[.pointer (some ⟨Db, 0, none⟩), actV x] W fun e w' => Left w0 Db (n + 1) ps.length e w' := by
  obtain ⟨x1, x2, x3, x4, x5⟩ := x
  have hx3 : (Lit.int .i64 x3).wf = true := hx.2.2.1
  have hfew := h.few
  have har := among_range (i := x2) (n := (ps.length : Int)) (by omega)
  obtain ⟨k, hk⟩ : ∃ k : Nat, amongI x2 (ps.length : Int) = (k : Int) := ⟨(amongI x2 (ps.length : Int)).toNat, by omega⟩
  have hkl : k < ps.length := by omega
  have HKK : Hid (amongI x2 (ps.length : Int) = (k : Int)) := hk
  have HKD : Hid (amongI x1 10 = 0) := hkd
  have hki : (k : Int) < (ps.length : Int) := by omega
  have h5 : (ps.length : Int) ≤ 4294967296 := by have := hn; omega
  clear har hk hkd
  obtain ⟨q, hq⟩ : ∃ q, ps[k]? = some q := ⟨_, List.getElem?_eq_getElem hkl⟩
  obtain ⟨W1, hW1⟩ : ∃ W1, W.alloc (.cells #[.int .i64 x1, .int .i64 x2, .int .i64 x3, .int .i64 x4, .int .i64 x5] 40) = W1 := ⟨_, rfl⟩
  have hb1 : Below W.heap.size W W1 := by rw [← hW1]; exact (Below.refl _ W).alloc (Nat.le_refl _) _
  have hxb : W1.heap[W.heap.size]? = some (.cells #[.int .i64 x1, .int .i64 x2, .int .i64 x3, .int .i64 x4, .int .i64 x5] 40 (0, 0)) := by rw [← hW1]; exact heap_alloc_new W _
  obtain ⟨xb, hxbe⟩ : ∃ xb, xb = W.heap.size := ⟨_, rfl⟩
  rw [← hxbe] at hxb
  have c0 : W1.cell? ⟨xb, 0, none⟩ = some (.int .i64 x1) := by simp [World.cell?, hxb]
  have c1 : W1.cell? ⟨xb, 1, none⟩ = some (.int .i64 x2) := by simp [World.cell?, hxb]
  have h1 := h.later hb1
  obtain ⟨ga, ca, gb, cb, rfl, rfl, r1, r2, hga, hgb, _, _⟩ := DeskS.reads h1 hq
  obtain ⟨b0, b1, hDb, _, _, _, _⟩ := h1.box
  unfold ptrA at r1
  unfold ptrB at r2
  have H1 := hide3 h1
  have HXB := hide3 hxb
  have HE : Hid (xb = W.heap.size ∧ Below W.heap.size W W1 ∧ ∀ (j : Nat) (q : Nat × Hpr), ps[j]? = some q → ∀ i, q.2.mine i → i < W.heap.size) := ⟨hxbe, hb1, fun j q hq i hi => (h.hs j q hq).lt hi⟩
  have CA : Hid (∀ w : World, Calls Try.prog 19 #[.int .i64 x2, .int .i64 (ps.length : Int)] w fun e w' => e = .returned (.int .i64 (k : Int)) ∧ w' = w) := fun w => by rw [← HKK.out]; exact among_any x2 _ w (by omega)
  clear h h1 hxb hb1 hxbe
  unfold actV
  go_enter Try.func8, Try.ntmps8
  go_upto_region 1 with fail
  rw [← HE.out.1]
  go_quiet ((go_at_call 19; exact Calls.quiet_of_same (CA.out _)))
  generalize hWd : W1.drewN _ = W2
  have Bd : Below W1.heap.size W1 W2 := by rw [← hWd]; exact same_below _ _
  have e0 : W2.cell? ⟨xb, 0, none⟩ = _ := (Bd.cell (p := ⟨xb, 0, none⟩) (cell_lt c0)).trans c0
  have e1 : W2.cell? ⟨Db, 0, none⟩ = _ := (Bd.cell (p := ⟨Db, 0, none⟩) hDb).trans b0
  have e2 : W2.cell? ⟨Db, 1, none⟩ = _ := (Bd.cell (p := ⟨Db, 1, none⟩) hDb).trans b1
  have e3 : W2.cell? ⟨ga, k, none⟩ = _ := (Bd.cell (p := ⟨ga, k, none⟩) hga).trans r1
  have e4 : W2.cell? ⟨gb, k, none⟩ = _ := (Bd.cell (p := ⟨gb, k, none⟩) hgb).trans r2
  have H2 := hide3 (DeskG.later H1.out Bd)
  have HX2 := hide3 ((Bd.block xb (Array.getElem?_eq_some_iff.1 HXB.out).1).trans HXB.out)
  have HE2 : Hid (xb = W.heap.size ∧ Below W.heap.size W W2 ∧ ∀ (j : Nat) (q : Nat × Hpr), ps[j]? = some q → ∀ i, q.2.mine i → i < W.heap.size) := ⟨HE.out.1, HE.out.2.1.trans (Bd.mono HE.out.2.1.size), HE.out.2.2⟩
  clear hWd Bd b0 b1 r1 r2 c0 c1 H1 HXB HE hDb hga hgb
  go_upto_region 2 with fail
  go_quiet (fail)
  generalize hWd : W2.drewN _ = W3
  have Bd : Below W2.heap.size W2 W3 := by rw [← hWd]; exact same_below _ _
  have c0 : W3.cell? ⟨xb, 0, none⟩ = _ := (Bd.cell (p := ⟨xb, 0, none⟩) (cell_lt e0)).trans e0
  have H3 := hide3 (DeskG.later H2.out Bd)
  have hx3b : W3.heap[xb]? = _ := (Bd.block xb (Array.getElem?_eq_some_iff.1 HX2.out).1).trans HX2.out
  have hnm : ¬ q.2.mine xb := fun e => by have h1 := HE2.out.2.2 k q hq xb e; have h2 := HE2.out.1; omega
  clear hWd Bd e0 e1 e2 e3 e4 H2 HX2 HE2 hW1
  have c2 : W3.cell? ⟨xb, 2, none⟩ = some (.int .i64 x3) := by simp [World.cell?, hx3b]
  have c3 : W3.cell? ⟨xb, 3, none⟩ = some (.int .i64 x4) := by simp [World.cell?, hx3b]
  have c4 : W3.cell? ⟨xb, 4, none⟩ = some (.int .i64 x5) := by simp [World.cell?, hx3b]
  have hxl : xb < W3.heap.size := cell_lt c0
  have HX3 := hide3 hx3b
  have HNM := hide3 hnm
  clear hx3b hnm
  have HAT := hide3 (DeskG.hs H3.out k q hq)
  have hsz := DeskG.size H3.out k q hq
  have hw3 : w0.heap.size ≤ W3.heap.size := (DeskG.bel H3.out).size
  have heq := fun (w : World) (a b : Int) => eq_thing w a b
  have HT : Hid (∀ X : World, Below W3.heap.size W3 X → Two w0 X q.2 12 #[.pointer (some ⟨q.2.hb, 0, none⟩), valT (x4, x5)] 20 #[.pointer (some ⟨q.2.db, 0, none⟩), valT (x4, x5)] (.int .i64 (q.2.last + 1)) (q.2.last + 1) (q.2.E ++ [(q.2.last + 1, (x4, x5))])) := fun X hX => two_push (HAT.out.later hX) (x4, x5) (Nat.le_trans hw3 hX.size) (by omega) (by omega)
  go_upto_region 5 with (first
    | (go_at_call 19
       refine (among_any x1 10 _ (by omega)).mono ?_
       rintro e w9 ⟨rfl, hw9⟩
       rw [hw9, HKD.out]
       clear hw9)
    | fail)
  go_region_with (first
    | (go_at_call 12
       refine ((HT.out _ ((Below.refl _ W3).drew)).one).mono ?_
       rintro e w5 ⟨rfl, v5, R5, hm5⟩
       have n5 : w5.heap[xb]? = _ := (hm5.kept.block xb hxl HNM.out).trans HX3.out
       have n52 : w5.cell? ⟨xb, 2, none⟩ = some (.int .i64 x3) := by simp only [World.cell?, n5]; rfl
       have n53 : w5.cell? ⟨xb, 3, none⟩ = some (.int .i64 x4) := by simp only [World.cell?, n5]; rfl
       have n54 : w5.cell? ⟨xb, 4, none⟩ = some (.int .i64 x5) := by simp only [World.cell?, n5]; rfl
       have C5 := hide3 ((HT.out _ ((Below.refl _ W3).drew)).two w5 v5 R5 hm5)
       clear hm5 n5)
    | (go_at_call 20
       refine C5.out.mono ?_
       rintro e w6 ⟨rfl, hk6, p6, ht6, hl6, he6⟩
       have H6 : Hid (Left w0 Db (n + 1) ps.length (.returned (.bool true)) w6) := left_of (DeskG.later H3.out ((Below.refl _ W3).drew)) ht hq (HT.out _ ((Below.refl _ W3).drew)) ht6 hl6 he6 (Below.refl _ _)
       clear hk6 ht6 hl6 he6))
  all_goals (go_wp2_with fail; go_ret; exact H6.out)
end Go.Proofs.Ytkjjinccnaphpaa

namespace Go.Proofs.Ytkjjinccnaphpaa
open Go.RowKit

set_option maxHeartbeats 4000000 in
set_option maxRecDepth 1000000 in
theorem act_1 {w0 W : World} {lab : Nat → Tag} {Db f top n : Nat} {va vb : Value} {es : List Ent} {ps : List (Nat × Hpr)} (h : DeskS w0 W lab Db va vb f es ps top n) (ht : 3 ≤ top) (hp : 0 < ps.length) (x : ActI) (hx : actFits x) (hn : n ≤ 2000000) (hkd : amongI x.1 10 = 1) :
    Calls Try.prog 8 #[.pointer (some ⟨Db, 0, none⟩), actV x] W fun e w' => Left w0 Db (n + 1) ps.length e w' := by
  obtain ⟨x1, x2, x3, x4, x5⟩ := x
  have hx3 : (Lit.int .i64 x3).wf = true := hx.2.2.1
  have hfew := h.few
  have har := among_range (i := x2) (n := (ps.length : Int)) (by omega)
  obtain ⟨k, hk⟩ : ∃ k : Nat, amongI x2 (ps.length : Int) = (k : Int) := ⟨(amongI x2 (ps.length : Int)).toNat, by omega⟩
  have hkl : k < ps.length := by omega
  have HKK : Hid (amongI x2 (ps.length : Int) = (k : Int)) := hk
  have HKD : Hid (amongI x1 10 = 1) := hkd
  have hki : (k : Int) < (ps.length : Int) := by omega
  have h5 : (ps.length : Int) ≤ 4294967296 := by have := hn; omega
  clear har hk hkd
  obtain ⟨q, hq⟩ : ∃ q, ps[k]? = some q := ⟨_, List.getElem?_eq_getElem hkl⟩
  obtain ⟨W1, hW1⟩ : ∃ W1, W.alloc (.cells #[.int .i64 x1, .int .i64 x2, .int .i64 x3, .int .i64 x4, .int .i64 x5] 40) = W1 := ⟨_, rfl⟩
  have hb1 : Below W.heap.size W W1 := by rw [← hW1]; exact (Below.refl _ W).alloc (Nat.le_refl _) _
  have hxb : W1.heap[W.heap.size]? = some (.cells #[.int .i64 x1, .int .i64 x2, .int .i64 x3, .int .i64 x4, .int .i64 x5] 40 (0, 0)) := by rw [← hW1]; exact heap_alloc_new W _
  obtain ⟨xb, hxbe⟩ : ∃ xb, xb = W.heap.size := ⟨_, rfl⟩
  rw [← hxbe] at hxb
  have c0 : W1.cell? ⟨xb, 0, none⟩ = some (.int .i64 x1) := by simp [World.cell?, hxb]
  have c1 : W1.cell? ⟨xb, 1, none⟩ = some (.int .i64 x2) := by simp [World.cell?, hxb]
  have h1 := h.later hb1
  obtain ⟨ga, ca, gb, cb, rfl, rfl, r1, r2, hga, hgb, _, _⟩ := DeskS.reads h1 hq
  obtain ⟨b0, b1, hDb, _, _, _, _⟩ := h1.box
  unfold ptrA at r1
  unfold ptrB at r2
  have H1 := hide3 h1
  have HXB := hide3 hxb
  have HE : Hid (xb = W.heap.size ∧ Below W.heap.size W W1 ∧ ∀ (j : Nat) (q : Nat × Hpr), ps[j]? = some q → ∀ i, q.2.mine i → i < W.heap.size) := ⟨hxbe, hb1, fun j q hq i hi => (h.hs j q hq).lt hi⟩
  have CA : Hid (∀ w : World, Calls Try.prog 19 #[.int .i64 x2, .int .i64 (ps.length : Int)] w fun e w' => e = .returned (.int .i64 (k : Int)) ∧ w' = w) := fun w => by rw [← HKK.out]; exact among_any x2 _ w (by omega)
  clear h h1 hxb hb1 hxbe
  unfold actV
  go_enter Try.func8, Try.ntmps8
  go_upto_region 1 with fail
  rw [← HE.out.1]
  go_quiet ((go_at_call 19; exact Calls.quiet_of_same (CA.out _)))
  generalize hWd : W1.drewN _ = W2
  have Bd : Below W1.heap.size W1 W2 := by rw [← hWd]; exact same_below _ _
  have e0 : W2.cell? ⟨xb, 0, none⟩ = _ := (Bd.cell (p := ⟨xb, 0, none⟩) (cell_lt c0)).trans c0
  have e1 : W2.cell? ⟨Db, 0, none⟩ = _ := (Bd.cell (p := ⟨Db, 0, none⟩) hDb).trans b0
  have e2 : W2.cell? ⟨Db, 1, none⟩ = _ := (Bd.cell (p := ⟨Db, 1, none⟩) hDb).trans b1
  have e3 : W2.cell? ⟨ga, k, none⟩ = _ := (Bd.cell (p := ⟨ga, k, none⟩) hga).trans r1
  have e4 : W2.cell? ⟨gb, k, none⟩ = _ := (Bd.cell (p := ⟨gb, k, none⟩) hgb).trans r2
  have H2 := hide3 (DeskG.later H1.out Bd)
  have HX2 := hide3 ((Bd.block xb (Array.getElem?_eq_some_iff.1 HXB.out).1).trans HXB.out)
  have HE2 : Hid (xb = W.heap.size ∧ Below W.heap.size W W2 ∧ ∀ (j : Nat) (q : Nat × Hpr), ps[j]? = some q → ∀ i, q.2.mine i → i < W.heap.size) := ⟨HE.out.1, HE.out.2.1.trans (Bd.mono HE.out.2.1.size), HE.out.2.2⟩
  clear hWd Bd b0 b1 r1 r2 c0 c1 H1 HXB HE hDb hga hgb
  go_upto_region 2 with fail
  go_quiet (fail)
  generalize hWd : W2.drewN _ = W3
  have Bd : Below W2.heap.size W2 W3 := by rw [← hWd]; exact same_below _ _
  have c0 : W3.cell? ⟨xb, 0, none⟩ = _ := (Bd.cell (p := ⟨xb, 0, none⟩) (cell_lt e0)).trans e0
  have H3 := hide3 (DeskG.later H2.out Bd)
  have hx3b : W3.heap[xb]? = _ := (Bd.block xb (Array.getElem?_eq_some_iff.1 HX2.out).1).trans HX2.out
  have hnm : ¬ q.2.mine xb := fun e => by have h1 := HE2.out.2.2 k q hq xb e; have h2 := HE2.out.1; omega
  clear hWd Bd e0 e1 e2 e3 e4 H2 HX2 HE2 hW1
  have c2 : W3.cell? ⟨xb, 2, none⟩ = some (.int .i64 x3) := by simp [World.cell?, hx3b]
  have c3 : W3.cell? ⟨xb, 3, none⟩ = some (.int .i64 x4) := by simp [World.cell?, hx3b]
  have c4 : W3.cell? ⟨xb, 4, none⟩ = some (.int .i64 x5) := by simp [World.cell?, hx3b]
  have hxl : xb < W3.heap.size := cell_lt c0
  have HX3 := hide3 hx3b
  have HNM := hide3 hnm
  clear hx3b hnm
  have HAT := hide3 (DeskG.hs H3.out k q hq)
  have hsz := DeskG.size H3.out k q hq
  have hw3 : w0.heap.size ≤ W3.heap.size := (DeskG.bel H3.out).size
  have heq := fun (w : World) (a b : Int) => eq_thing w a b
  obtain ⟨t, y, b, TW⟩ := two_top HAT.out hw3 (by omega)
  obtain ⟨y1, y2⟩ := y
  unfold valT at TW
  have HT := hide3 TW
  clear TW
  go_wp2_with (first
    | (go_at_call 19
       refine (among_any x1 10 _ (by omega)).mono ?_
       rintro e w9 ⟨rfl, hw9⟩
       rw [hw9, HKD.out]
       clear hw9)
    | (go_at_call 14
       refine HT.out.one.mono ?_
       rintro e w5 ⟨rfl, v5, R5, hm5⟩
       have C5 := hide3 (HT.out.two (w5.alloc (.cells #[.int .i64 y1, .int .i64 y2] 27)) v5 R5 (hm5.later ((Below.refl _ w5).alloc (Nat.le_refl _) _)))
       have n5 : (w5.alloc (.cells #[.int .i64 y1, .int .i64 y2] 27)).heap[xb]? = _ := (((Below.refl _ w5).alloc (Nat.le_refl _) (.cells #[.int .i64 y1, .int .i64 y2] 27)).block xb (Nat.lt_of_lt_of_le hxl hm5.kept.size)).trans ((hm5.kept.block xb hxl HNM.out).trans HX3.out)
       have n52 : (w5.alloc (.cells #[.int .i64 y1, .int .i64 y2] 27)).cell? ⟨xb, 2, none⟩ = some (.int .i64 x3) := by simp only [World.cell?, n5]; rfl
       have M5 := hide3 hm5
       clear hm5 n5)
    | (go_at_call 21
       refine C5.out.mono ?_
       rintro e w6 ⟨rfl, hk6, p6, ht6, hl6, he6⟩
       have n6 : w6.heap[w5.heap.size]? = some (.cells #[.int .i64 y1, .int .i64 y2] 27 (0, 0)) := (box_kept M5.out _ hk6).trans (heap_alloc_new w5 _)
       have hl6b := (Array.getElem?_eq_some_iff.1 n6).1
       have a6 : w6.cell? ⟨w5.heap.size, 0, none⟩ = some (.int .i64 y1) := by simp [World.cell?, n6]
       have b6 : w6.cell? ⟨w5.heap.size, 1, none⟩ = some (.int .i64 y2) := by simp [World.cell?, n6]
       have H6 : Hid (Left w0 Db (n + 1) ps.length (.returned (.bool true)) (w6.alloc (.cells #[.int .i64 y1, .int .i64 y2] 27))) := left_of H3.out ht hq HT.out ht6 hl6 he6 ((Below.refl _ w6).alloc (Nat.le_refl _) _)
       clear hk6 ht6 hl6 he6 n6))
  go_ret
  exact H6.out
end Go.Proofs.Ytkjjinccnaphpaa

namespace Go.Proofs.Ytkjjinccnaphpaa
open Go.RowKit

set_option maxHeartbeats 4000000 in
set_option maxRecDepth 1000000 in
theorem act_2 {w0 W : World} {lab : Nat → Tag} {Db f top n : Nat} {va vb : Value} {es : List Ent} {ps : List (Nat × Hpr)} (h : DeskS w0 W lab Db va vb f es ps top n) (ht : 3 ≤ top) (hp : 0 < ps.length) (x : ActI) (hx : actFits x) (hn : n ≤ 2000000) (hkd : amongI x.1 10 = 2) :
    Calls Try.prog 8 #[.pointer (some ⟨Db, 0, none⟩), actV x] W fun e w' => Left w0 Db (n + 1) ps.length e w' := by
  obtain ⟨x1, x2, x3, x4, x5⟩ := x
  have hx3 : (Lit.int .i64 x3).wf = true := hx.2.2.1
  have hfew := h.few
  have har := among_range (i := x2) (n := (ps.length : Int)) (by omega)
  obtain ⟨k, hk⟩ : ∃ k : Nat, amongI x2 (ps.length : Int) = (k : Int) := ⟨(amongI x2 (ps.length : Int)).toNat, by omega⟩
  have hkl : k < ps.length := by omega
  have HKK : Hid (amongI x2 (ps.length : Int) = (k : Int)) := hk
  have HKD : Hid (amongI x1 10 = 2) := hkd
  have hki : (k : Int) < (ps.length : Int) := by omega
  have h5 : (ps.length : Int) ≤ 4294967296 := by have := hn; omega
  clear har hk hkd
  obtain ⟨q, hq⟩ : ∃ q, ps[k]? = some q := ⟨_, List.getElem?_eq_getElem hkl⟩
  obtain ⟨W1, hW1⟩ : ∃ W1, W.alloc (.cells #[.int .i64 x1, .int .i64 x2, .int .i64 x3, .int .i64 x4, .int .i64 x5] 40) = W1 := ⟨_, rfl⟩
  have hb1 : Below W.heap.size W W1 := by rw [← hW1]; exact (Below.refl _ W).alloc (Nat.le_refl _) _
  have hxb : W1.heap[W.heap.size]? = some (.cells #[.int .i64 x1, .int .i64 x2, .int .i64 x3, .int .i64 x4, .int .i64 x5] 40 (0, 0)) := by rw [← hW1]; exact heap_alloc_new W _
  obtain ⟨xb, hxbe⟩ : ∃ xb, xb = W.heap.size := ⟨_, rfl⟩
  rw [← hxbe] at hxb
  have c0 : W1.cell? ⟨xb, 0, none⟩ = some (.int .i64 x1) := by simp [World.cell?, hxb]
  have c1 : W1.cell? ⟨xb, 1, none⟩ = some (.int .i64 x2) := by simp [World.cell?, hxb]
  have h1 := h.later hb1
  obtain ⟨ga, ca, gb, cb, rfl, rfl, r1, r2, hga, hgb, _, _⟩ := DeskS.reads h1 hq
  obtain ⟨b0, b1, hDb, _, _, _, _⟩ := h1.box
  unfold ptrA at r1
  unfold ptrB at r2
  have H1 := hide3 h1
  have HXB := hide3 hxb
  have HE : Hid (xb = W.heap.size ∧ Below W.heap.size W W1 ∧ ∀ (j : Nat) (q : Nat × Hpr), ps[j]? = some q → ∀ i, q.2.mine i → i < W.heap.size) := ⟨hxbe, hb1, fun j q hq i hi => (h.hs j q hq).lt hi⟩
  have CA : Hid (∀ w : World, Calls Try.prog 19 #[.int .i64 x2, .int .i64 (ps.length : Int)] w fun e w' => e = .returned (.int .i64 (k : Int)) ∧ w' = w) := fun w => by rw [← HKK.out]; exact among_any x2 _ w (by omega)
  clear h h1 hxb hb1 hxbe
  unfold actV
  go_enter Try.func8, Try.ntmps8
  go_upto_region 1 with fail
  rw [← HE.out.1]
  go_quiet ((go_at_call 19; exact Calls.quiet_of_same (CA.out _)))
  generalize hWd : W1.drewN _ = W2
  have Bd : Below W1.heap.size W1 W2 := by rw [← hWd]; exact same_below _ _
  have e0 : W2.cell? ⟨xb, 0, none⟩ = _ := (Bd.cell (p := ⟨xb, 0, none⟩) (cell_lt c0)).trans c0
  have e1 : W2.cell? ⟨Db, 0, none⟩ = _ := (Bd.cell (p := ⟨Db, 0, none⟩) hDb).trans b0
  have e2 : W2.cell? ⟨Db, 1, none⟩ = _ := (Bd.cell (p := ⟨Db, 1, none⟩) hDb).trans b1
  have e3 : W2.cell? ⟨ga, k, none⟩ = _ := (Bd.cell (p := ⟨ga, k, none⟩) hga).trans r1
  have e4 : W2.cell? ⟨gb, k, none⟩ = _ := (Bd.cell (p := ⟨gb, k, none⟩) hgb).trans r2
  have H2 := hide3 (DeskG.later H1.out Bd)
  have HX2 := hide3 ((Bd.block xb (Array.getElem?_eq_some_iff.1 HXB.out).1).trans HXB.out)
  have HE2 : Hid (xb = W.heap.size ∧ Below W.heap.size W W2 ∧ ∀ (j : Nat) (q : Nat × Hpr), ps[j]? = some q → ∀ i, q.2.mine i → i < W.heap.size) := ⟨HE.out.1, HE.out.2.1.trans (Bd.mono HE.out.2.1.size), HE.out.2.2⟩
  clear hWd Bd b0 b1 r1 r2 c0 c1 H1 HXB HE hDb hga hgb
  go_upto_region 2 with fail
  go_quiet (fail)
  generalize hWd : W2.drewN _ = W3
  have Bd : Below W2.heap.size W2 W3 := by rw [← hWd]; exact same_below _ _
  have c0 : W3.cell? ⟨xb, 0, none⟩ = _ := (Bd.cell (p := ⟨xb, 0, none⟩) (cell_lt e0)).trans e0
  have H3 := hide3 (DeskG.later H2.out Bd)
  have hx3b : W3.heap[xb]? = _ := (Bd.block xb (Array.getElem?_eq_some_iff.1 HX2.out).1).trans HX2.out
  have hnm : ¬ q.2.mine xb := fun e => by have h1 := HE2.out.2.2 k q hq xb e; have h2 := HE2.out.1; omega
  clear hWd Bd e0 e1 e2 e3 e4 H2 HX2 HE2 hW1
  have c2 : W3.cell? ⟨xb, 2, none⟩ = some (.int .i64 x3) := by simp [World.cell?, hx3b]
  have c3 : W3.cell? ⟨xb, 3, none⟩ = some (.int .i64 x4) := by simp [World.cell?, hx3b]
  have c4 : W3.cell? ⟨xb, 4, none⟩ = some (.int .i64 x5) := by simp [World.cell?, hx3b]
  have hxl : xb < W3.heap.size := cell_lt c0
  have HX3 := hide3 hx3b
  have HNM := hide3 hnm
  clear hx3b hnm
  have HAT := hide3 (DeskG.hs H3.out k q hq)
  have hsz := DeskG.size H3.out k q hq
  have hw3 : w0.heap.size ≤ W3.heap.size := (DeskG.bel H3.out).size
  have heq := fun (w : World) (a b : Int) => eq_thing w a b
  obtain ⟨t, y, b, E1, TW⟩ := two_pop HAT.out hw3 (by omega)
  obtain ⟨y1, y2⟩ := y
  unfold valT at TW
  have HT := hide3 TW
  clear TW
  go_wp2_with (first
    | (go_at_call 19
       refine (among_any x1 10 _ (by omega)).mono ?_
       rintro e w9 ⟨rfl, hw9⟩
       rw [hw9, HKD.out]
       clear hw9)
    | (go_at_call 22
       refine HT.out.one.mono ?_
       rintro e w5 ⟨rfl, v5, R5, hm5⟩
       have C5 := hide3 (HT.out.two (w5.alloc (.cells #[.int .i64 y1, .int .i64 y2] 27)) v5 R5 (hm5.later ((Below.refl _ w5).alloc (Nat.le_refl _) _)))
       have n5 : (w5.alloc (.cells #[.int .i64 y1, .int .i64 y2] 27)).heap[xb]? = _ := (((Below.refl _ w5).alloc (Nat.le_refl _) (.cells #[.int .i64 y1, .int .i64 y2] 27)).block xb (Nat.lt_of_lt_of_le hxl hm5.kept.size)).trans ((hm5.kept.block xb hxl HNM.out).trans HX3.out)
       have n52 : (w5.alloc (.cells #[.int .i64 y1, .int .i64 y2] 27)).cell? ⟨xb, 2, none⟩ = some (.int .i64 x3) := by simp only [World.cell?, n5]; rfl
       have M5 := hide3 hm5
       clear hm5 n5)
    | (go_at_call 23
       refine C5.out.mono ?_
       rintro e w6 ⟨rfl, hk6, p6, ht6, hl6, he6⟩
       have n6 : w6.heap[w5.heap.size]? = some (.cells #[.int .i64 y1, .int .i64 y2] 27 (0, 0)) := (box_kept M5.out _ hk6).trans (heap_alloc_new w5 _)
       have hl6b := (Array.getElem?_eq_some_iff.1 n6).1
       have a6 : w6.cell? ⟨w5.heap.size, 0, none⟩ = some (.int .i64 y1) := by simp [World.cell?, n6]
       have b6 : w6.cell? ⟨w5.heap.size, 1, none⟩ = some (.int .i64 y2) := by simp [World.cell?, n6]
       have H6 : Hid (Left w0 Db (n + 1) ps.length (.returned (.bool true)) (w6.alloc (.cells #[.int .i64 y1, .int .i64 y2] 27))) := left_of H3.out ht hq HT.out ht6 hl6 he6 ((Below.refl _ w6).alloc (Nat.le_refl _) _)
       clear hk6 ht6 hl6 he6 n6))
  go_ret
  exact H6.out
end Go.Proofs.Ytkjjinccnaphpaa

namespace Go.Proofs.Ytkjjinccnaphpaa
open Go.RowKit

set_option maxHeartbeats 4000000 in
set_option maxRecDepth 1000000 in
theorem act_3 {w0 W : World} {lab : Nat → Tag} {Db f top n : Nat} {va vb : Value} {es : List Ent} {ps : List (Nat × Hpr)} (h : DeskS w0 W lab Db va vb f es ps top n) (ht : 3 ≤ top) (hp : 0 < ps.length) (x : ActI) (hx : actFits x) (hn : n ≤ 2000000) (hkd : amongI x.1 10 = 3) :
    Calls Try.prog 8 #[.pointer (some ⟨Db, 0, none⟩), actV x] W fun e w' => Left w0 Db (n + 1) ps.length e w' := by
  obtain ⟨x1, x2, x3, x4, x5⟩ := x
  have hx3 : (Lit.int .i64 x3).wf = true := hx.2.2.1
  have hfew := h.few
  have har := among_range (i := x2) (n := (ps.length : Int)) (by omega)
  obtain ⟨k, hk⟩ : ∃ k : Nat, amongI x2 (ps.length : Int) = (k : Int) := ⟨(amongI x2 (ps.length : Int)).toNat, by omega⟩
  have hkl : k < ps.length := by omega
  have HKK : Hid (amongI x2 (ps.length : Int) = (k : Int)) := hk
  have HKD : Hid (amongI x1 10 = 3) := hkd
  have hki : (k : Int) < (ps.length : Int) := by omega
  have h5 : (ps.length : Int) ≤ 4294967296 := by have := hn; omega
  clear har hk hkd
  obtain ⟨q, hq⟩ : ∃ q, ps[k]? = some q := ⟨_, List.getElem?_eq_getElem hkl⟩
  obtain ⟨W1, hW1⟩ : ∃ W1, W.alloc (.cells #[.int .i64 x1, .int .i64 x2, .int .i64 x3, .int .i64 x4, .int .i64 x5] 40) = W1 := ⟨_, rfl⟩
  have hb1 : Below W.heap.size W W1 := by rw [← hW1]; exact (Below.refl _ W).alloc (Nat.le_refl _) _
  have hxb : W1.heap[W.heap.size]? = some (.cells #[.int .i64 x1, .int .i64 x2, .int .i64 x3, .int .i64 x4, .int .i64 x5] 40 (0, 0)) := by rw [← hW1]; exact heap_alloc_new W _
  obtain ⟨xb, hxbe⟩ : ∃ xb, xb = W.heap.size := ⟨_, rfl⟩
  rw [← hxbe] at hxb
  have c0 : W1.cell? ⟨xb, 0, none⟩ = some (.int .i64 x1) := by simp [World.cell?, hxb]
  have c1 : W1.cell? ⟨xb, 1, none⟩ = some (.int .i64 x2) := by simp [World.cell?, hxb]
  have h1 := h.later hb1
  obtain ⟨ga, ca, gb, cb, rfl, rfl, r1, r2, hga, hgb, _, _⟩ := DeskS.reads h1 hq
  obtain ⟨b0, b1, hDb, _, _, _, _⟩ := h1.box
  unfold ptrA at r1
  unfold ptrB at r2
  have H1 := hide3 h1
  have HXB := hide3 hxb
  have HE : Hid (xb = W.heap.size ∧ Below W.heap.size W W1 ∧ ∀ (j : Nat) (q : Nat × Hpr), ps[j]? = some q → ∀ i, q.2.mine i → i < W.heap.size) := ⟨hxbe, hb1, fun j q hq i hi => (h.hs j q hq).lt hi⟩
  have CA : Hid (∀ w : World, Calls Try.prog 19 #[.int .i64 x2, .int .i64 (ps.length : Int)] w fun e w' => e = .returned (.int .i64 (k : Int)) ∧ w' = w) := fun w => by rw [← HKK.out]; exact among_any x2 _ w (by omega)
  clear h h1 hxb hb1 hxbe
  unfold actV
  go_enter Try.func8, Try.ntmps8
  go_upto_region 1 with fail
  rw [← HE.out.1]
  go_quiet ((go_at_call 19; exact Calls.quiet_of_same (CA.out _)))
  generalize hWd : W1.drewN _ = W2
  have Bd : Below W1.heap.size W1 W2 := by rw [← hWd]; exact same_below _ _
  have e0 : W2.cell? ⟨xb, 0, none⟩ = _ := (Bd.cell (p := ⟨xb, 0, none⟩) (cell_lt c0)).trans c0
  have e1 : W2.cell? ⟨Db, 0, none⟩ = _ := (Bd.cell (p := ⟨Db, 0, none⟩) hDb).trans b0
  have e2 : W2.cell? ⟨Db, 1, none⟩ = _ := (Bd.cell (p := ⟨Db, 1, none⟩) hDb).trans b1
  have e3 : W2.cell? ⟨ga, k, none⟩ = _ := (Bd.cell (p := ⟨ga, k, none⟩) hga).trans r1
  have e4 : W2.cell? ⟨gb, k, none⟩ = _ := (Bd.cell (p := ⟨gb, k, none⟩) hgb).trans r2
  have H2 := hide3 (DeskG.later H1.out Bd)
  have HX2 := hide3 ((Bd.block xb (Array.getElem?_eq_some_iff.1 HXB.out).1).trans HXB.out)
  have HE2 : Hid (xb = W.heap.size ∧ Below W.heap.size W W2 ∧ ∀ (j : Nat) (q : Nat × Hpr), ps[j]? = some q → ∀ i, q.2.mine i → i < W.heap.size) := ⟨HE.out.1, HE.out.2.1.trans (Bd.mono HE.out.2.1.size), HE.out.2.2⟩
  clear hWd Bd b0 b1 r1 r2 c0 c1 H1 HXB HE hDb hga hgb
  go_upto_region 2 with fail
  go_quiet (fail)
  generalize hWd : W2.drewN _ = W3
  have Bd : Below W2.heap.size W2 W3 := by rw [← hWd]; exact same_below _ _
  have c0 : W3.cell? ⟨xb, 0, none⟩ = _ := (Bd.cell (p := ⟨xb, 0, none⟩) (cell_lt e0)).trans e0
  have H3 := hide3 (DeskG.later H2.out Bd)
  have hx3b : W3.heap[xb]? = _ := (Bd.block xb (Array.getElem?_eq_some_iff.1 HX2.out).1).trans HX2.out
  have hnm : ¬ q.2.mine xb := fun e => by have h1 := HE2.out.2.2 k q hq xb e; have h2 := HE2.out.1; omega
  clear hWd Bd e0 e1 e2 e3 e4 H2 HX2 HE2 hW1
  have c2 : W3.cell? ⟨xb, 2, none⟩ = some (.int .i64 x3) := by simp [World.cell?, hx3b]
  have c3 : W3.cell? ⟨xb, 3, none⟩ = some (.int .i64 x4) := by simp [World.cell?, hx3b]
  have c4 : W3.cell? ⟨xb, 4, none⟩ = some (.int .i64 x5) := by simp [World.cell?, hx3b]
  have hxl : xb < W3.heap.size := cell_lt c0
  have HX3 := hide3 hx3b
  have HNM := hide3 hnm
  clear hx3b hnm
  have HAT := hide3 (DeskG.hs H3.out k q hq)
  have hsz := DeskG.size H3.out k q hq
  have hw3 : w0.heap.size ≤ W3.heap.size := (DeskG.bel H3.out).size
  have heq := fun (w : World) (a b : Int) => eq_thing w a b
  obtain ⟨y, b, TW⟩ := two_get HAT.out x3 hx3 hw3 (by omega)
  obtain ⟨y1, y2⟩ := y
  unfold valT at TW
  have HT := hide3 TW
  clear TW
  go_wp2_with (first
    | (go_at_call 19
       refine (among_any x1 10 _ (by omega)).mono ?_
       rintro e w9 ⟨rfl, hw9⟩
       rw [hw9, HKD.out]
       clear hw9)
    | (go_at_call 24
       refine HT.out.one.mono ?_
       rintro e w5 ⟨rfl, v5, R5, hm5⟩
       have C5 := hide3 (HT.out.two (w5.alloc (.cells #[.int .i64 y1, .int .i64 y2] 27)) v5 R5 (hm5.later ((Below.refl _ w5).alloc (Nat.le_refl _) _)))
       have n5 : (w5.alloc (.cells #[.int .i64 y1, .int .i64 y2] 27)).heap[xb]? = _ := (((Below.refl _ w5).alloc (Nat.le_refl _) (.cells #[.int .i64 y1, .int .i64 y2] 27)).block xb (Nat.lt_of_lt_of_le hxl hm5.kept.size)).trans ((hm5.kept.block xb hxl HNM.out).trans HX3.out)
       have n52 : (w5.alloc (.cells #[.int .i64 y1, .int .i64 y2] 27)).cell? ⟨xb, 2, none⟩ = some (.int .i64 x3) := by simp only [World.cell?, n5]; rfl
       have M5 := hide3 hm5
       clear hm5 n5)
    | (go_at_call 25
       refine C5.out.mono ?_
       rintro e w6 ⟨rfl, hk6, p6, ht6, hl6, he6⟩
       have n6 : w6.heap[w5.heap.size]? = some (.cells #[.int .i64 y1, .int .i64 y2] 27 (0, 0)) := (box_kept M5.out _ hk6).trans (heap_alloc_new w5 _)
       have hl6b := (Array.getElem?_eq_some_iff.1 n6).1
       have a6 : w6.cell? ⟨w5.heap.size, 0, none⟩ = some (.int .i64 y1) := by simp [World.cell?, n6]
       have b6 : w6.cell? ⟨w5.heap.size, 1, none⟩ = some (.int .i64 y2) := by simp [World.cell?, n6]
       have H6 : Hid (Left w0 Db (n + 1) ps.length (.returned (.bool true)) (w6.alloc (.cells #[.int .i64 y1, .int .i64 y2] 27))) := left_of H3.out ht hq HT.out ht6 hl6 he6 ((Below.refl _ w6).alloc (Nat.le_refl _) _)
       clear hk6 ht6 hl6 he6 n6))
  go_ret
  exact H6.out
end Go.Proofs.Ytkjjinccnaphpaa

namespace Go.Proofs.Ytkjjinccnaphpaa
open Go.RowKit

set_option maxHeartbeats 4000000 in
set_option maxRecDepth 1000000 in
theorem act_4 {w0 W : World} {lab : Nat → Tag} {Db f top n : Nat} {va vb : Value} {es : List Ent} {ps : List (Nat × Hpr)} (h : DeskS w0 W lab Db va vb f es ps top n) (ht : 3 ≤ top) (hp : 0 < ps.length) (x : ActI) (hx : actFits x) (hn : n ≤ 2000000) (hkd : amongI x.1 10 = 4) :
    Calls Try.prog 8 #[.pointer (some ⟨Db, 0, none⟩), actV x] W fun e w' => Left w0 Db (n + 1) ps.length e w' := by
  obtain ⟨x1, x2, x3, x4, x5⟩ := x
  have hx3 : (Lit.int .i64 x3).wf = true := hx.2.2.1
  have hfew := h.few
  have har := among_range (i := x2) (n := (ps.length : Int)) (by omega)
  obtain ⟨k, hk⟩ : ∃ k : Nat, amongI x2 (ps.length : Int) = (k : Int) := ⟨(amongI x2 (ps.length : Int)).toNat, by omega⟩
  have hkl : k < ps.length := by omega
  have HKK : Hid (amongI x2 (ps.length : Int) = (k : Int)) := hk
  have HKD : Hid (amongI x1 10 = 4) := hkd
  have hki : (k : Int) < (ps.length : Int) := by omega
  have h5 : (ps.length : Int) ≤ 4294967296 := by have := hn; omega
  clear har hk hkd
  obtain ⟨q, hq⟩ : ∃ q, ps[k]? = some q := ⟨_, List.getElem?_eq_getElem hkl⟩
  obtain ⟨W1, hW1⟩ : ∃ W1, W.alloc (.cells #[.int .i64 x1, .int .i64 x2, .int .i64 x3, .int .i64 x4, .int .i64 x5] 40) = W1 := ⟨_, rfl⟩
  have hb1 : Below W.heap.size W W1 := by rw [← hW1]; exact (Below.refl _ W).alloc (Nat.le_refl _) _
  have hxb : W1.heap[W.heap.size]? = some (.cells #[.int .i64 x1, .int .i64 x2, .int .i64 x3, .int .i64 x4, .int .i64 x5] 40 (0, 0)) := by rw [← hW1]; exact heap_alloc_new W _
  obtain ⟨xb, hxbe⟩ : ∃ xb, xb = W.heap.size := ⟨_, rfl⟩
  rw [← hxbe] at hxb
  have c0 : W1.cell? ⟨xb, 0, none⟩ = some (.int .i64 x1) := by simp [World.cell?, hxb]
  have c1 : W1.cell? ⟨xb, 1, none⟩ = some (.int .i64 x2) := by simp [World.cell?, hxb]
  have h1 := h.later hb1
  obtain ⟨ga, ca, gb, cb, rfl, rfl, r1, r2, hga, hgb, _, _⟩ := DeskS.reads h1 hq
  obtain ⟨b0, b1, hDb, _, _, _, _⟩ := h1.box
  unfold ptrA at r1
  unfold ptrB at r2
  have H1 := hide3 h1
  have HXB := hide3 hxb
  have HE : Hid (xb = W.heap.size ∧ Below W.heap.size W W1 ∧ ∀ (j : Nat) (q : Nat × Hpr), ps[j]? = some q → ∀ i, q.2.mine i → i < W.heap.size) := ⟨hxbe, hb1, fun j q hq i hi => (h.hs j q hq).lt hi⟩
  have CA : Hid (∀ w : World, Calls Try.prog 19 #[.int .i64 x2, .int .i64 (ps.length : Int)] w fun e w' => e = .returned (.int .i64 (k : Int)) ∧ w' = w) := fun w => by rw [← HKK.out]; exact among_any x2 _ w (by omega)
  clear h h1 hxb hb1 hxbe
  unfold actV
  go_enter Try.func8, Try.ntmps8
  go_upto_region 1 with fail
  rw [← HE.out.1]
  go_quiet ((go_at_call 19; exact Calls.quiet_of_same (CA.out _)))
  generalize hWd : W1.drewN _ = W2
  have Bd : Below W1.heap.size W1 W2 := by rw [← hWd]; exact same_below _ _
  have e0 : W2.cell? ⟨xb, 0, none⟩ = _ := (Bd.cell (p := ⟨xb, 0, none⟩) (cell_lt c0)).trans c0
  have e1 : W2.cell? ⟨Db, 0, none⟩ = _ := (Bd.cell (p := ⟨Db, 0, none⟩) hDb).trans b0
  have e2 : W2.cell? ⟨Db, 1, none⟩ = _ := (Bd.cell (p := ⟨Db, 1, none⟩) hDb).trans b1
  have e3 : W2.cell? ⟨ga, k, none⟩ = _ := (Bd.cell (p := ⟨ga, k, none⟩) hga).trans r1
  have e4 : W2.cell? ⟨gb, k, none⟩ = _ := (Bd.cell (p := ⟨gb, k, none⟩) hgb).trans r2
  have H2 := hide3 (DeskG.later H1.out Bd)
  have HX2 := hide3 ((Bd.block xb (Array.getElem?_eq_some_iff.1 HXB.out).1).trans HXB.out)
  have HE2 : Hid (xb = W.heap.size ∧ Below W.heap.size W W2 ∧ ∀ (j : Nat) (q : Nat × Hpr), ps[j]? = some q → ∀ i, q.2.mine i → i < W.heap.size) := ⟨HE.out.1, HE.out.2.1.trans (Bd.mono HE.out.2.1.size), HE.out.2.2⟩
  clear hWd Bd b0 b1 r1 r2 c0 c1 H1 HXB HE hDb hga hgb
  go_upto_region 2 with fail
  go_quiet (fail)
  generalize hWd : W2.drewN _ = W3
  have Bd : Below W2.heap.size W2 W3 := by rw [← hWd]; exact same_below _ _
  have c0 : W3.cell? ⟨xb, 0, none⟩ = _ := (Bd.cell (p := ⟨xb, 0, none⟩) (cell_lt e0)).trans e0
  have H3 := hide3 (DeskG.later H2.out Bd)
  have hx3b : W3.heap[xb]? = _ := (Bd.block xb (Array.getElem?_eq_some_iff.1 HX2.out).1).trans HX2.out
  have hnm : ¬ q.2.mine xb := fun e => by have h1 := HE2.out.2.2 k q hq xb e; have h2 := HE2.out.1; omega
  clear hWd Bd e0 e1 e2 e3 e4 H2 HX2 HE2 hW1
  have c2 : W3.cell? ⟨xb, 2, none⟩ = some (.int .i64 x3) := by simp [World.cell?, hx3b]
  have c3 : W3.cell? ⟨xb, 3, none⟩ = some (.int .i64 x4) := by simp [World.cell?, hx3b]
  have c4 : W3.cell? ⟨xb, 4, none⟩ = some (.int .i64 x5) := by simp [World.cell?, hx3b]
  have hxl : xb < W3.heap.size := cell_lt c0
  have HX3 := hide3 hx3b
  have HNM := hide3 hnm
  clear hx3b hnm
  have HAT := hide3 (DeskG.hs H3.out k q hq)
  have hsz := DeskG.size H3.out k q hq
  have hw3 : w0.heap.size ≤ W3.heap.size := (DeskG.bel H3.out).size
  have heq := fun (w : World) (a b : Int) => eq_thing w a b
  obtain ⟨y, b, E1, TW⟩ := two_remove HAT.out x3 hx3 hw3 (by omega)
  obtain ⟨y1, y2⟩ := y
  unfold valT at TW
  have HT := hide3 TW
  clear TW
  go_wp2_with (first
    | (go_at_call 19
       refine (among_any x1 10 _ (by omega)).mono ?_
       rintro e w9 ⟨rfl, hw9⟩
       rw [hw9, HKD.out]
       clear hw9)
    | (go_at_call 26
       refine HT.out.one.mono ?_
       rintro e w5 ⟨rfl, v5, R5, hm5⟩
       have C5 := hide3 (HT.out.two (w5.alloc (.cells #[.int .i64 y1, .int .i64 y2] 27)) v5 R5 (hm5.later ((Below.refl _ w5).alloc (Nat.le_refl _) _)))
       have n5 : (w5.alloc (.cells #[.int .i64 y1, .int .i64 y2] 27)).heap[xb]? = _ := (((Below.refl _ w5).alloc (Nat.le_refl _) (.cells #[.int .i64 y1, .int .i64 y2] 27)).block xb (Nat.lt_of_lt_of_le hxl hm5.kept.size)).trans ((hm5.kept.block xb hxl HNM.out).trans HX3.out)
       have n52 : (w5.alloc (.cells #[.int .i64 y1, .int .i64 y2] 27)).cell? ⟨xb, 2, none⟩ = some (.int .i64 x3) := by simp only [World.cell?, n5]; rfl
       have M5 := hide3 hm5
       clear hm5 n5)
    | (go_at_call 27
       refine C5.out.mono ?_
       rintro e w6 ⟨rfl, hk6, p6, ht6, hl6, he6⟩
       have n6 : w6.heap[w5.heap.size]? = some (.cells #[.int .i64 y1, .int .i64 y2] 27 (0, 0)) := (box_kept M5.out _ hk6).trans (heap_alloc_new w5 _)
       have hl6b := (Array.getElem?_eq_some_iff.1 n6).1
       have a6 : w6.cell? ⟨w5.heap.size, 0, none⟩ = some (.int .i64 y1) := by simp [World.cell?, n6]
       have b6 : w6.cell? ⟨w5.heap.size, 1, none⟩ = some (.int .i64 y2) := by simp [World.cell?, n6]
       have H6 : Hid (Left w0 Db (n + 1) ps.length (.returned (.bool true)) (w6.alloc (.cells #[.int .i64 y1, .int .i64 y2] 27))) := left_of H3.out ht hq HT.out ht6 hl6 he6 ((Below.refl _ w6).alloc (Nat.le_refl _) _)
       clear hk6 ht6 hl6 he6 n6))
  go_ret
  exact H6.out
end Go.Proofs.Ytkjjinccnaphpaa
