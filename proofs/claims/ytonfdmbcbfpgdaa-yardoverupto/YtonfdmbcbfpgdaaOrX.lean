/-
  OrdA, OrdB, OrdC.
-/
import Derived.Test.YtonfdmbcbfpgdaaOrderM
import Derived.Test.YtonfdmbcbfpgdaaYRank
import Derived.Sort.Grow
import Derived.Test.YtonfdmbcbfpgdaaShelfS
import Derived.Test.YtonfdmbcbfpgdaaCloX
import Derived.Test.YtonfdmbcbfpgdaaNuX
import Derived.Deep.OwnRows
namespace Go.Proofs.Ytonfdmbcbfpgdaa
open Go.RowKit Go.Sort
abbrev RowN := Int × Mk
/-- Blocks were laid and orders drawn: nothing else. -/
def Grew (w w' : World) : Prop := ∃ q os, w' = grow (w.drewN q) os
theorem Grew.refl (w : World) : Grew w w := ⟨0, #[], by simp; rfl⟩
theorem Grew.trans {a b c : World} (h : Grew a b) (k : Grew b c) : Grew a c := by
  obtain ⟨q, os, rfl⟩ := h
  obtain ⟨q', os', rfl⟩ := k
  refine ⟨q + q', os ++ os', ?_⟩
  rw [show (grow (a.drewN q) os).drewN q' = grow (a.drewN (q + q')) os by simp [grow, World.drewN, Nat.add_assoc], grow_grow]
theorem Grew.alloc {a b : World} (h : Grew a b) (o : Obj) : Grew a (b.alloc o) := h.trans ⟨0, #[o], by rw [alloc_eq_grow]; rfl⟩
theorem Grew.drew {a b : World} (h : Grew a b) : Grew a b.drew := h.trans ⟨1, #[], by simp; rfl⟩

theorem Grew.below {w w' : World} (h : Grew w w') : Below w.heap.size w w' := by
  obtain ⟨q, os, rfl⟩ := h
  refine ⟨rfl, rfl, rfl, by simp [grow], fun k hk => ?_⟩
  rw [heap_grow_old _ _ (by simpa using hk)]
  rfl
set_option maxHeartbeats 1000000 in
set_option maxRecDepth 1000000 in
theorem key_grew (rk : Int) (m : Mk) (w : World) : Calls Try.prog 56 #[.int .i64 rk, valM m] w fun e w' => e = .returned (.int .i64 (keyK rk m)) ∧ Grew w w' := by
  obtain ⟨id, pri, due, ord⟩ := m
  unfold valM
  by_cases h0 : rk = 0
  · go_enter Try.func56, Try.ntmps56
    go_wp2_with fail
    go_ret
    exact ⟨by simp [keyK, h0], (Grew.refl w).alloc _⟩
  · by_cases h1 : rk = 1
    · go_enter Try.func56, Try.ntmps56
      go_wp2_with fail
      go_ret
      exact ⟨by simp [keyK, h1], (Grew.refl w).alloc _⟩
    · go_enter Try.func56, Try.ntmps56
      go_wp2_with fail
      go_ret
      exact ⟨by simp [keyK, h0, h1], (Grew.refl w).alloc _⟩
set_option maxHeartbeats 2000000 in
set_option maxRecDepth 1000000 in
theorem before_grew (rk : Int) (x y : Mk) (w : World) : Calls Try.prog 32 #[.int .i64 rk, valM x, valM y] w fun e w' => e = .returned (.bool (ltK rk x y)) ∧ Grew w w' := by
  have kx : Hid (∀ w, Calls Try.prog 56 #[.int .i64 rk, valM x] w fun e w' => e = .returned (.int .i64 (keyK rk x)) ∧ Grew w w') := key_grew rk x
  have ky : Hid (∀ w, Calls Try.prog 56 #[.int .i64 rk, valM y] w fun e w' => e = .returned (.int .i64 (keyK rk y)) ∧ Grew w w') := key_grew rk y
  obtain ⟨X, hX⟩ : ∃ X, X = keyK rk x := ⟨_, rfl⟩
  obtain ⟨Y, hY⟩ : ∃ Y, Y = keyK rk y := ⟨_, rfl⟩
  have HL : Hid (ltK rk x y = if X = Y then decide (x.id < y.id) else decide (X < Y)) := by rw [hX, hY]; rfl
  rw [← hX] at kx
  rw [← hY] at ky
  clear hX hY
  obtain ⟨xi, xp, xd, xo⟩ := x
  obtain ⟨yi, yp, yd, yo⟩ := y
  unfold valM at kx ky ⊢
  simp only [] at HL kx ky ⊢
  go_enter Try.func32, Try.ntmps32
  go_upto_region 1 with fail
  obtain ⟨b4, hb4⟩ : ∃ b4, b4 = w.heap.size := ⟨_, rfl⟩
  obtain ⟨w2, hw2⟩ : ∃ w2, w2 = (w.alloc (.cells #[.int .i64 xi, .int .i64 xp, .int .i64 xd, .int .i64 xo] 76)).alloc (.cells #[.int .i64 yi, .int .i64 yp, .int .i64 yd, .int .i64 yo] 76) := ⟨_, rfl⟩
  have G2 : Hid (Grew w w2) := by rw [hw2]; exact ((Grew.refl w).alloc _).alloc _
  have B2 : Hid (Below w.heap.size w w2) := by rw [hw2]; exact ((Below.refl _ w).alloc (Nat.le_refl _) _).alloc (by simp) _
  have g4 : w2.heap[b4]? = some (.cells #[.int .i64 xi, .int .i64 xp, .int .i64 xd, .int .i64 xo] 76 (0, 0)) := by
    rw [hw2, hb4]; exact (((Below.refl _ (w.alloc _)).alloc (Nat.le_refl _) _).block w.heap.size (by simp)).trans (heap_alloc_new w _)
  have g5 : w2.heap[b4 + 1]? = some (.cells #[.int .i64 yi, .int .i64 yp, .int .i64 yd, .int .i64 yo] 76 (0, 0)) := by
    rw [hw2, hb4]; exact (by simpa using heap_alloc_new (w.alloc (.cells #[.int .i64 xi, .int .i64 xp, .int .i64 xd, .int .i64 xo] 76)) (.cells #[.int .i64 yi, .int .i64 yp, .int .i64 yd, .int .i64 yo] 76))
  rw [← hb4, ← hw2]
  have HB4 : Hid (b4 = w.heap.size) := hb4
  clear hw2 hb4
  have sq : w2.drew.heap[b4]? = some (.cells #[.int .i64 xi, .int .i64 xp, .int .i64 xd, .int .i64 xo] 76 (0, 0)) ∧ w2.drew.heap[b4 + 1]? = some (.cells #[.int .i64 yi, .int .i64 yp, .int .i64 yd, .int .i64 yo] 76 (0, 0)) := ⟨g4, g5⟩
  refine wp_region_held_drew (S := fun X => X.heap[b4]? = some (.cells #[.int .i64 xi, .int .i64 xp, .int .i64 xd, .int .i64 xo] 76 (0, 0)) ∧ X.heap[b4 + 1]? = some (.cells #[.int .i64 yi, .int .i64 yp, .int .i64 yd, .int .i64 yo] 76 (0, 0))) (by kernel_rfl) sq (fun _ => ?_)
  refine H_take (i := 0) (v := .int .i64 rk) (some 9) rfl rfl (by kernel_rfl) (by kernel_rfl) (by kernel_rfl) (fun _ _ _ h => h) rfl (fun X hX => ?_) sq ?_
  · simp [go_sem]
  simp only [Act.put, List.setIfInBounds_toArray, List.set_cons_zero, List.set_cons_succ]
  refine H_take (i := 1) (v := .agg #[.int .i64 xi, .int .i64 xp, .int .i64 xd, .int .i64 xo]) (some 10) rfl rfl (by kernel_rfl) (by kernel_rfl) (by kernel_rfl) (fun _ _ _ h => h) rfl (fun X hX => ?_) sq ?_
  · exact run_loadRow rfl rfl hX.1 Try.underlying76 rfl mark_row
  simp only [Act.put, List.setIfInBounds_toArray, List.set_cons_zero, List.set_cons_succ]
  refine H_take (i := 3) (v := .int .i64 rk) (some 12) rfl rfl (by kernel_rfl) (by kernel_rfl) (by kernel_rfl) (fun _ _ _ h => h) rfl (fun X hX => ?_) sq ?_
  · simp [go_sem]
  simp only [Act.put, List.setIfInBounds_toArray, List.set_cons_zero, List.set_cons_succ]
  refine H_take (i := 4) (v := .agg #[.int .i64 yi, .int .i64 yp, .int .i64 yd, .int .i64 yo]) (some 13) rfl rfl (by kernel_rfl) (by kernel_rfl) (by kernel_rfl) (fun _ _ _ h => h) rfl (fun X hX => ?_) sq ?_
  · exact run_loadRow rfl rfl hX.2 Try.underlying76 rfl mark_row
  simp only [Act.put, List.setIfInBounds_toArray, List.set_cons_zero, List.set_cons_succ]
  refine H_call (i := 2) (f := 56) (args := #[.int .i64 rk, .agg #[.int .i64 xi, .int .i64 xp, .int .i64 xd, .int .i64 xo]]) (some 11) rfl rfl (by kernel_rfl) rfl (by simp [go_sem]) ((kx.out _).mono ?_)
  rintro e w3 ⟨rfl, q3⟩
  have b3 := q3.below
  have B3 : Below w2.heap.size w2 w3 := (Below.refl _ w2).drew.trans b3
  have sr : w3.heap[b4]? = some (.cells #[.int .i64 xi, .int .i64 xp, .int .i64 xd, .int .i64 xo] 76 (0, 0)) ∧ w3.heap[b4 + 1]? = some (.cells #[.int .i64 yi, .int .i64 yp, .int .i64 yd, .int .i64 yo] 76 (0, 0)) := ⟨(B3.block _ (Array.getElem?_eq_some_iff.1 g4).1).trans g4, (B3.block _ (Array.getElem?_eq_some_iff.1 g5).1).trans g5⟩
  refine ⟨_, rfl, sr, ?_⟩
  simp only [Act.put, List.setIfInBounds_toArray, List.set_cons_zero, List.set_cons_succ]
  refine H_call (i := 5) (f := 56) (args := #[.int .i64 rk, .agg #[.int .i64 yi, .int .i64 yp, .int .i64 yd, .int .i64 yo]]) (some 14) rfl rfl (by kernel_rfl) rfl (by simp [go_sem]) ((ky.out _).mono ?_)
  rintro e w4 ⟨rfl, q5⟩
  have b5 := q5.below
  have B4 : Below w2.heap.size w2 w4 := B3.trans (b5.mono B3.size)
  have ss : w4.heap[b4]? = some (.cells #[.int .i64 xi, .int .i64 xp, .int .i64 xd, .int .i64 xo] 76 (0, 0)) ∧ w4.heap[b4 + 1]? = some (.cells #[.int .i64 yi, .int .i64 yp, .int .i64 yd, .int .i64 yo] 76 (0, 0)) := ⟨(B4.block _ (Array.getElem?_eq_some_iff.1 g4).1).trans g4, (B4.block _ (Array.getElem?_eq_some_iff.1 g5).1).trans g5⟩
  refine ⟨_, rfl, ss, ?_⟩
  simp only [Act.put, List.setIfInBounds_toArray, List.set_cons_zero, List.set_cons_succ]
  refine H_take (i := 6) (v := .int .i64 X) (some 7) rfl rfl (by kernel_rfl) (by kernel_rfl) (by kernel_rfl) (fun _ _ _ h => h) rfl (fun X hX => ?_) ss ?_
  · simp [go_sem]
  simp only [Act.put, List.setIfInBounds_toArray, List.set_cons_zero, List.set_cons_succ]
  refine H_take (i := 7) (v := .int .i64 Y) (some 8) rfl rfl (by kernel_rfl) (by kernel_rfl) (by kernel_rfl) (fun _ _ _ h => h) rfl (fun X hX => ?_) ss ?_
  · simp [go_sem]
  simp only [Act.put, List.setIfInBounds_toArray, List.set_cons_zero, List.set_cons_succ]
  refine wpAnyH_done (by kernel_rfl) ?_ _
  have z0 : w4.cell? ⟨b4, 0, none⟩ = some (.int .i64 xi) := by simp [World.cell?, ss.1]
  have z1 : w4.cell? ⟨b4 + 1, 0, none⟩ = some (.int .i64 yi) := by simp [World.cell?, ss.2]
  have BB : Hid (Grew w w4) := (G2.out.drew.trans q3).trans q5
  clear ss sr sq g4 g5 B3 B4 b3 b5 q3 q5 kx ky
  by_cases he : X = Y
  · go_wp2_with fail
    go_ret
    exact ⟨by rw [HL.out, if_pos he]; rfl, BB.out⟩
  · go_wp2_with fail
    go_ret
    exact ⟨by rw [HL.out, if_neg he]; rfl, BB.out⟩
set_option maxHeartbeats 2000000 in
set_option maxRecDepth 1000000 in
theorem ahead_grew (ky : Int) (w : World) (hb : Nat) (a b : Int × Mk) (h0 : w.cell? ⟨hb, 0, none⟩ = some (.func (.func 32) #[.int .i64 ky] #[])) :
    Calls Try.prog 55 #[.pointer (some ⟨hb, 0, none⟩), rowvM a, rowvM b] w fun e w' => e = .returned (.bool (rankB (ltK ky) a b)) ∧ Grew w w' := by
  have e0 : ∀ (args : Array Value) (w : World), (callFunc 32 args).run Try.prog w = .ok (.enter 32 args) w := (rank_asks ky).enters
  obtain ⟨a1, a2⟩ := a
  obtain ⟨b1, b2⟩ := b
  have hlt := cell_lt h0
  simp only [] at hlt
  unfold rowvM cellsM
  simp only []
  by_cases hc : a1 < b1
  · go_enter Try.func55, Try.ntmps55
    go_wp2_with fail
    refine wp_tail 8 mixed (by kernel_rfl) ?_
    simp only [List.take_succ_cons, List.take_zero, List.drop_succ_cons, List.drop_zero]
    repeat still_step
    refine wpStill_nil ?_
    go_wp2_with fail
    refine (before_grew ky b2 a2 _).mono ?_
    rintro e w2 ⟨rfl, g2⟩
    have H2 : Hid (Grew w w2) := ((((Grew.refl w).alloc _).alloc _).drew).trans g2
    clear g2
    go_wp2
    go_ret
    exact ⟨by simp [rankB, hc], H2.out⟩
  · go_enter Try.func55, Try.ntmps55
    go_wp2_with fail
    refine wp_tail 8 mixed (by kernel_rfl) ?_
    simp only [List.take_succ_cons, List.take_zero, List.drop_succ_cons, List.drop_zero]
    repeat still_step
    refine wpStill_nil ?_
    go_wp2_with fail
    refine (before_grew ky a2 b2 _).mono ?_
    rintro e w2 ⟨rfl, g2⟩
    have H2 : Hid (Grew w w2) := ((((Grew.refl w).alloc _).alloc _).drew).trans g2
    clear g2
    go_wp2
    go_ret
    exact ⟨by simp [rankB, show ¬ a1 < b1 by omega], H2.out⟩

def rankI (ky : Int) (a b : Int × Mk) : Int := if rankB (ltK ky) a b then -1 else 1
set_option maxHeartbeats 2000000 in
set_option maxRecDepth 1000000 in
theorem cmp_grew (ky : Int) (w : World) (hb bc : Nat) (a b : Int × Mk) (h0 : w.cell? ⟨hb, 0, none⟩ = some (.func (.func 32) #[.int .i64 ky] #[])) (hc : w.cell? ⟨bc, 0, none⟩ = some (.pointer (some ⟨hb, 0, none⟩))) :
    Calls Try.prog 54 #[rowvM a, rowvM b, .pointer (some ⟨bc, 0, none⟩)] w fun e w' => e = .returned (.int .i64 (rankI ky a b)) ∧ Grew w w' := by
  have hlb := cell_lt hc
  have hlh := cell_lt h0
  simp only [] at hlb hlh
  obtain ⟨w2, hw2⟩ : ∃ w2, w2 = (w.alloc (.cells (cellsM a).toArray 105)).alloc (.cells (cellsM b).toArray 105) := ⟨_, rfl⟩
  have g2 : Grew w w2 := by rw [hw2]; exact ((Grew.refl w).alloc _).alloc _
  have h02 : w2.cell? ⟨hb, 0, none⟩ = some (.func (.func 32) #[.int .i64 ky] #[]) := by
    rw [hw2]
    exact (((Below.refl _ w).alloc (Nat.le_refl _) _).alloc (by simp) _).cell (p := ⟨hb, 0, none⟩) hlh |>.trans h0
  have HA : Hid (Calls Try.prog 55 #[.pointer (some ⟨hb, 0, none⟩), rowvM a, rowvM b] w2 fun e w' => e = .returned (.bool (rankB (ltK ky) a b)) ∧ Grew w w') := (ahead_grew ky w2 hb a b h02).mono fun e w' ⟨he, hg⟩ => ⟨he, g2.trans hg⟩
  have HW : Hid (w2 = (w.alloc (.cells (cellsM a).toArray 105)).alloc (.cells (cellsM b).toArray 105)) := hw2
  clear hw2 g2 h02 h0
  have HRI : Hid (rankI ky a b = if rankB (ltK ky) a b then -1 else 1) := rfl
  generalize rankB (ltK ky) a b = r at HA HRI
  obtain ⟨a1, a2, a3, a4, a5⟩ := a
  obtain ⟨b1, b2, b3, b4, b5⟩ := b
  unfold rowvM cellsM at HA HW ⊢
  simp only [] at HA HW ⊢
  cases r with
  | true =>
    go_enter Try.func54, Try.ntmps54
    go_wp2_with fail
    rw [← HW.out]
    refine HA.out.mono ?_
    rintro e w3 ⟨rfl, g3⟩
    have G3 : Hid (Grew w w3) := g3
    clear g3
    go_wp2_with fail
    go_ret
    exact ⟨by rw [HRI.out]; rfl, G3.out⟩
  | false =>
    go_enter Try.func54, Try.ntmps54
    go_wp2_with fail
    rw [← HW.out]
    refine HA.out.mono ?_
    rintro e w3 ⟨rfl, g3⟩
    have G3 : Hid (Grew w w3) := g3
    clear g3
    go_wp2_with fail
    go_ret
    exact ⟨by rw [HRI.out]; rfl, G3.out⟩
end Go.Proofs.Ytonfdmbcbfpgdaa

namespace Go.Proofs.Ytonfdmbcbfpgdaa
open Go.RowKit Go.Sort Go.Shelf

theorem Once.nodup {α : Type} {R : List (Int × α)} (h : Once R) : R.Nodup := by
  rw [List.nodup_iff_pairwise_ne, List.pairwise_iff_getElem]
  intro i j hi hj hij e
  have := h i j _ _ (List.getElem?_eq_getElem hi) (List.getElem?_eq_getElem hj) (by rw [e])
  omega
structure RankedM (ky : Int) (R S : List RowN) : Prop where
  perm : S.Perm R
  sorted : S.Pairwise (fun a b => rankB (ltK ky) a b = true)
theorem ltOf_rank (ky : Int) (x y : RowN) : ltOf (rankI ky) x y = rankB (ltK ky) x y := by
  unfold ltOf rankI
  cases rankB (ltK ky) x y <;> simp
theorem swo_rank (ky : Int) : SWO (ltOf (rankI ky)) where
  irrefl x := by
    rw [ltOf_rank]
    cases h : rankB (ltK ky) x x with
    | false => rfl
    | true => exact absurd ((rank_iff (rfl : ltK ky = ltK ky) x x).1 h) (LtM.asymm ((rank_iff (rfl : ltK ky = ltK ky) x x).1 h))
  trans x y z h1 h2 := by
    rw [ltOf_rank] at *
    exact (rank_iff ((rfl : ltK ky = ltK ky)) x z).2 (((rank_iff ((rfl : ltK ky = ltK ky)) x y).1 h1).trans ((rank_iff ((rfl : ltK ky = ltK ky)) y z).1 h2))
  ntrans x y z h1 h2 := by
    rw [ltOf_rank] at *
    cases h : rankB (ltK ky) x z with
    | false => rfl
    | true => exact absurd ((rank_iff ((rfl : ltK ky = ltK ky)) x z).1 h) (not_L_trans (rank_not ((rfl : ltK ky = ltK ky)) h1) (rank_not ((rfl : ltK ky = ltK ky)) h2))
theorem rank_total {ky : Int} {a b : RowN} (h : a.1 ≠ b.1) (k : rankB (ltK ky) a b = false) : rankB (ltK ky) b a = true := by
  have := rank_not ((rfl : ltK ky = ltK ky)) k
  refine (rank_iff ((rfl : ltK ky = ltK ky)) b a).2 ?_
  unfold LtM at *
  omega

/-- The cells of a row of rows. -/
def RowsAt (w : World) (g : Nat) (S : List RowN) : Prop := ∀ (i : Nat) r, S[i]? = some r → ∀ k u, (cellsM r)[k]? = some u → w.cell? ⟨g, i * 5 + k, none⟩ = some u
theorem cells_get (x : RowN) (k : Nat) (hk : k < 5) : (cellsM x)[k]? = some (cellsM x)[k]! := by
  have : k < (cellsM x).length := by simpa [cellsM] using hk
  rw [List.getElem?_eq_getElem this]
  simp [this]
theorem holds_of_row [Inhabited Mk] {w : World} {g : Nat} {cur : Array Value} {R : List RowN} (hg : w.heap[g]? = some (.cells cur 105 (0, 0))) (h4 : cur.toList.take (R.length * 5) = flatM R) : HoldsK cellsM 5 w g 0 R.toArray := by
  intro j hj
  simp only [size_flatK, List.size_toArray] at hj
  refine ⟨?_, by simp [World.frozen?, hg]⟩
  rw [get_flatK _ _ _ _ (by simpa using hj)]
  have hjr : j / 5 < R.length := by omega
  have hr : R[j / 5]? = some R[j / 5] := List.getElem?_eq_getElem hjr
  have h5 := flatM_get R (j / 5) _ hr (j % 5) (by omega)
  rw [show j / 5 * 5 + j % 5 = j by omega, ← h4, List.getElem?_take_of_lt hj, cells_get _ _ (by omega)] at h5
  have h6 : R.toArray[j / 5]! = R[j / 5] := by simp [hjr]
  rw [h6, Nat.zero_add]
  simpa [World.cell?, hg] using h5
theorem heap_sortWorld [Inhabited Mk] {w : World} {g n : Nat} {d : Array RowN} {os : Array Obj} {k : Nat} (hk : k < w.heap.size) (hne : k ≠ g) : (sortWorldK cellsM 5 w g 0 n d os).heap[k]? = w.heap[k]? := by
  unfold sortWorldK
  rw [heap_grow_old _ _ (by simpa [putRowK] using hk)]
  simp [putRowK, putRow, mapBlock, Sort.ahead, Array.getElem?_modify, Ne.symm hne]
theorem kept_sortWorld [Inhabited Mk] (w : World) (g n : Nat) (d : Array RowN) (os : Array Obj) : Kept (fun k => k = g) w (sortWorldK cellsM 5 w g 0 n d os) :=
  ⟨rfl, rfl, rfl, by simp [sortWorldK, putRowK, Sort.ahead], fun _ hk hne => heap_sortWorld hk hne⟩

set_option maxHeartbeats 1000000 in
theorem sortedM_any (ky : Int) (w : World) (hb bc g cap : Nat) (cur : Array Value) (R : List RowN) (hg : w.heap[g]? = some (.cells cur 105 (0, 0))) (h4 : cur.toList.take (R.length * 5) = flatM R) (hR : R.length ≤ 1073741823) (ho : Once R)
    (h0 : w.cell? ⟨hb, 0, none⟩ = some (.func (.func 32) #[.int .i64 ky] #[])) (hbg : hb ≠ g) (hc : w.cell? ⟨bc, 0, none⟩ = some (.pointer (some ⟨hb, 0, none⟩))) (hcg : bc ≠ g) :
    Calls Try.prog 53 #[.slice (some ⟨g, 0, none⟩) R.length cap, .func (.func 54) #[] #[.pointer (some ⟨bc, 0, none⟩)]] w fun e w' =>
      e = .returned (.tuple #[]) ∧ ∃ S, RankedM ky R S ∧ RowsAt w' g S ∧ Kept (fun k => k = g) w w' := by
  have inh : Inhabited Mk := ⟨⟨0, 0, 0, 0⟩⟩
  have eg : ∀ args w, (callFunc 54 args).run Try.prog w = .ok (.enter 54 args) w := enters_of Try.func54 (by kernel_rfl) rfl
  have hH := holds_of_row hg h4
  have hgl : g < w.heap.size := (Array.getElem?_eq_some_iff.1 hg).1
  have hcmp : CmpLays Try.prog 54 #[.pointer (some ⟨bc, 0, none⟩)] cellsM 5 (rankI ky) g 0 R.toArray.size w := by
    intro m os dk _ x y
    have k1 := kept_sortWorld w g m dk os
    have := cmp_grew ky (sortWorldK cellsM 5 w g 0 m dk os) hb bc x y (k1.cell hbg h0) (k1.cell hcg hc)
    exact this.mono fun e w' ⟨he, q, os', hw⟩ => ⟨he, q, os', hw⟩
  have hcon := AnyQ.slices_SortFunc Try.sortRow 5 (fun w => by kernel_rfl) (fun w => by kernel_rfl) cellsM (fun _ => rfl) (fun x v hv => by simp [cellsM] at hv; rcases hv with rfl | rfl | rfl | rfl | rfl <;> rfl) (rankI ky) (swo_rank ky) 54 #[.pointer (some ⟨bc, 0, none⟩)] g 0 cap R.toArray w eg hcmp hH hgl (by simp; omega)
  change Calls Try.prog 53 _ _ _ at hcon
  refine hcon.mono ?_
  rintro e w' ⟨rfl, d', n, os, hp, hs, rfl⟩
  have hsz : d'.size = R.length := by simpa using hp.1
  have hperm : d'.toList.Perm R := by
    have := hp.2.2
    simp only [List.size_toArray] at this
    rw [show d'.extract 0 R.length = d' by rw [← hsz]; simp, show R.toArray.extract 0 R.length = R.toArray by simp] at this
    simpa using this
  refine ⟨rfl, d'.toList, ⟨hperm, ?_⟩, ?_, kept_sortWorld w g n d' os⟩
  · rw [List.pairwise_iff_getElem]
    intro i j hi hj hij
    have h1 := hs i j (Nat.zero_le _) hij (by simpa [hsz] using hj)
    rw [ltOf_rank] at h1
    have hi' : i < d'.size := by simpa using hi
    have hj' : j < d'.size := by simpa using hj
    rw [getElem!_pos d' i hi', getElem!_pos d' j hj'] at h1
    simp only [Array.getElem_toList]
    refine rank_total (fun e => ?_) h1
    have hnd : d'.toList.Nodup := hperm.nodup_iff.2 ho.nodup
    have m1 : d'[j] ∈ R := hperm.subset (by simp)
    have m2 : d'[i] ∈ R := hperm.subset (by simp)
    have := ho.same m1 m2 e
    rw [List.nodup_iff_pairwise_ne, List.pairwise_iff_getElem] at hnd
    exact hnd i j hi hj hij (by simpa using this.symm)
  · intro i r hr k u hu
    have hi : i < d'.size := by have := (List.getElem?_eq_some_iff.1 hr).1; simpa using this
    have hk3 : k < 5 := by have := (List.getElem?_eq_some_iff.1 hu).1; simpa [cellsM] using this
    have hHs : HoldsK cellsM 5 (sortWorldK cellsM 5 w g 0 n d' os) g 0 d' := holdsK_grow cellsM 5 _ _ _ _ _ (by simpa [putRowK] using hgl) (holdsK_putRowK cellsM 5 _ _ _ R.toArray _ (holdsK_ahead cellsM 5 _ _ _ _ _ hH) (by simp [hsz]))
    have h5 := (hHs.cell hi hk3).1
    rw [Nat.zero_add] at h5
    rw [h5, getElem!_pos d' i hi]
    have hr2 : d'[i] = r := by
      rw [Array.getElem?_toList, Array.getElem?_eq_getElem hi] at hr
      exact Option.some.inj hr
    rw [hr2]
    have := cells_get r k hk3
    rw [hu] at this
    exact this.symm
end Go.Proofs.Ytonfdmbcbfpgdaa

namespace Go.Proofs.Ytonfdmbcbfpgdaa
open Go.RowKit Go.Sort

/-- The row of tickets, filled up to i. -/
def Filled (w : World) (tb n i : Nat) (S : List RowN) : Prop := ∃ cur : Array Value, w.heap[tb]? = some (.cells cur 3 (0, 0)) ∧ cur.size = n ∧ ∀ j r, j < i → S[j]? = some r → cur[j]? = some (.int .i64 r.1)
theorem Filled.done {w : World} {tb : Nat} {S : List RowN} {B : Nat} (h : Filled w tb S.length S.length S) (hB : B ≤ tb) (hm : S.length ≤ maxLen) : Nums w B (.slice (some ⟨tb, 0, none⟩) S.length S.length) (S.map (·.1)) := by
  obtain ⟨cur, h1, h2, h3⟩ := h
  have he : cur.toList = ints (S.map (·.1)) := by
    refine List.ext_getElem? fun j => ?_
    by_cases hj : j < S.length
    · have hr := List.getElem?_eq_getElem hj
      rw [Array.getElem?_toList, h3 j _ hj hr]
      simp [ints, hr]
    · rw [List.getElem?_eq_none (by simp; omega), List.getElem?_eq_none (by simp [ints]; omega)]
  refine ⟨by simp [ints], .inr ⟨tb, S.length, cur, by simp, hB, h1, by simp, hm, by omega, ?_⟩⟩
  rw [he, Nat.mul_one, List.take_of_length_le (by simp [ints])]

theorem HeapAtM.once {f : FuncId} {w : World} {hb mb : Nat} {v : Value} {rk : Int} {last : Int} {R : List RowN} (h : HeapAtM w hb v mb f rk last R) : Once R := by
  obtain ⟨g, _, hs⟩ := h.tab
  exact hs.once

set_option maxHeartbeats 4000000 in
set_option maxRecDepth 1000000 in
theorem orderM (ky : Int) (w : World) (hb mb : Nat) (v : Value) (last : Int) (R : List RowN) (h : HeapAtM w hb v mb 32 ky last R) (hR : R.length ≤ 1073741823) :
    Calls Try.prog 29 #[.pointer (some ⟨hb, 0, none⟩)] w fun e w' => ∃ v' S, e = .returned v' ∧ RankedM ky R S ∧ Nums w' w.heap.size v' (S.map (·.1)) ∧ Below w.heap.size w w' := by
  have k0 : w.cell? ⟨hb, 0, none⟩ = some (.func (.func 32) #[.int .i64 ky] #[]) := by simp [World.cell?, h.box]
  have k1 : w.cell? ⟨hb, 1, none⟩ = some v := by simp [World.cell?, h.box]
  have hlt := cell_lt k0
  simp only [] at hlt
  obtain ⟨i0, hi, hz0, hz1, hz2⟩ := info_parts info_int
  obtain ⟨av, cv, rfl⟩ := row_sliceM h.row
  obtain ⟨bc, hbc⟩ : ∃ bc, bc = w.heap.size := ⟨_, rfl⟩
  obtain ⟨w1, hw1⟩ : ∃ w1, w1 = w.alloc (.cells #[.pointer (some ⟨hb, 0, none⟩)] 57) := ⟨_, rfl⟩
  have B1 : Below w.heap.size w w1 := by rw [hw1]; exact (Below.refl _ w).alloc (Nat.le_refl _) _
  have x1 : w1.heap[bc]? = some (.cells #[.pointer (some ⟨hb, 0, none⟩)] 57 (0, 0)) := by rw [hw1, hbc]; exact heap_alloc_new w _
  have hbl : bc < w1.heap.size := (Array.getElem?_eq_some_iff.1 x1).1
  have hrow1 := (h.kept (Kept.ofBelow (P := fun _ => False) B1) (fun _ _ h => h)).row
  have HCL := rowsCloneM w1 (.slice av R.length cv) R hrow1 hR
  have HCH : Hid (Calls Try.prog 52 #[.slice av R.length cv] w1 fun e w' => ∃ v', e = .returned v' ∧ w'.ownsRow w1.heap.size 105 5 v' R.length (flatM R) ∧ Below w1.heap.size w1 w') := HCL
  have HW1 : Hid (w1 = w.alloc (.cells #[.pointer (some ⟨hb, 0, none⟩)] 57)) := hw1
  have HBC : Hid (bc = w.heap.size) := hbc
  have HO : Hid (Once R) := h.once
  have HB1 : Hid (Below w.heap.size w w1) := B1
  have HX1 : Hid (w1.heap[bc]? = some (.cells #[.pointer (some ⟨hb, 0, none⟩)] 57 (0, 0))) := x1
  clear h hrow1 HCL hw1 hbc B1 x1
  go_enter Try.func29, Try.ntmps29
  go_wp2_with fail
  rw [← HW1.out, ← HBC.out]
  refine HCH.out.mono ?_
  rintro e w2 ⟨v2, rfl, o2, B2⟩
  obtain ⟨a2, c2, rfl⟩ := row_sliceM o2
  have B02 : Below w.heap.size w w2 := HB1.out.trans (B2.mono HB1.out.size)
  have y0 : w2.cell? ⟨hb, 0, none⟩ = some (.func (.func 32) #[.int .i64 ky] #[]) := (B02.cell (p := ⟨hb, 0, none⟩) hlt).trans k0
  have y1 : w2.cell? ⟨bc, 0, none⟩ = some (.pointer (some ⟨hb, 0, none⟩)) := by
    have := (B2.block bc hbl).trans HX1.out
    simp [World.cell?, this]
  have HSORT : Hid (Calls Try.prog 53 #[.slice a2 R.length c2, .func (.func 54) #[] #[.pointer (some ⟨bc, 0, none⟩)]] w2 fun e w' =>
      e = .returned (.tuple #[]) ∧ ∃ S, RankedM ky R S ∧ (S ≠ [] → ∃ g, a2 = some ⟨g, 0, none⟩ ∧ RowsAt w' g S) ∧ Below w.heap.size w w') := by
    rcases o2.2 with ⟨hv, h0⟩ | ⟨g, cap, cur, hv, hB, hg, h1, h2, h3, h4⟩
    · have hRn : R = [] := List.eq_nil_of_length_eq_zero h0
      subst hRn
      refine (AnyF.slices_SortFunc_none Try.sortRow a2 c2 _ w2).mono ?_
      rintro e w' ⟨rfl, rfl⟩
      exact ⟨rfl, [], ⟨List.Perm.refl _, List.Pairwise.nil⟩, fun h => absurd rfl h, B02⟩
    · simp only [Value.slice.injEq] at hv
      obtain ⟨rfl, _, rfl⟩ := hv
      have hwl := HB1.out.size
      refine (sortedM_any ky w2 hb bc g c2 cur R hg h4 hR HO.out y0 (by omega) y1 (by omega)).mono ?_
      rintro e w' ⟨rfl, S, hS, hrows, hk⟩
      exact ⟨rfl, S, hS, fun _ => ⟨g, rfl, hrows⟩, B02.trans (hk.below B02.size (fun k hk e => by omega))⟩
  clear o2 B2 B02 y0 y1
  go_wp2_with fail
  refine HSORT.out.mono ?_
  rintro e w3 ⟨rfl, S, hS, hrows, B3⟩
  have hSl : S.length = R.length := hS.perm.length_eq
  obtain ⟨tb, htb⟩ : ∃ tb, tb = w3.heap.size := ⟨_, rfl⟩
  obtain ⟨w4, hw4⟩ : ∃ w4, w4 = w3.alloc (.cells (madeCells #[.int .i64 0] R.length) 3) := ⟨_, rfl⟩
  have hmk : (Instr.makeSlice 32 (.int .i64 (R.length : Int)) (.int .i64 (R.length : Int))).run Try.prog w3 = .ok (.slice (some ⟨tb, 0, none⟩) R.length R.length) w4 := by
    rw [htb, hw4]
    exact run_make_row (P := Try.prog) 32 3 i0 (.int .i64 0) Try.underlying32 hi hz0 hz1 rfl .i64 .i64 R.length (by rw [hz2]; omega) (by omega) w3
  have HF4 : Hid (Filled w4 tb R.length 0 S) := ⟨_, by rw [hw4, htb]; exact heap_alloc_new w3 _, size_madeCells _ _, fun j r hj => by omega⟩
  have HB4 : Hid (Below w.heap.size w w4) := by rw [hw4]; exact B3.alloc B3.size _
  have HTB : Hid (w.heap.size ≤ tb) := (show w.heap.size ≤ tb by rw [htb]; exact B3.size)
  have HR4 : Hid (S ≠ [] → ∃ g, a2 = some ⟨g, 0, none⟩ ∧ RowsAt w4 g S ∧ g ≠ tb) := fun hne => by
    obtain ⟨g, h1, h2⟩ := hrows hne
    have hgl : g < w3.heap.size := by
      cases S with
      | nil => exact absurd rfl hne
      | cons r S =>
        have := h2 0 r rfl 0 _ rfl
        exact cell_lt this
    refine ⟨g, h1, fun i r hr k u hu => ?_, by omega⟩
    rw [hw4]
    exact (((Below.refl _ w3).alloc (Nat.le_refl _) _).cell (p := ⟨g, i * 5 + k, none⟩) hgl).trans (h2 i r hr k u hu)
  have HS : Hid (RankedM ky R S) := hS
  have HSL : Hid (S.length = R.length) := hSl
  clear hS hrows B3 hSl hw4 htb HSORT
  go_wp2_with fail
  go_loopg [20] R.length (fun gk s20 wr => ∃ i : Nat, s20 = .int .i64 (i : Int) ∧ i ≤ R.length ∧ R.length - i ≤ gk ∧ Hid (Below w.heap.size w wr) ∧ Hid (Filled wr tb R.length i S) ∧ Hid (S ≠ [] → ∃ g, a2 = some ⟨g, 0, none⟩ ∧ RowsAt wr g S ∧ g ≠ tb))
  case atStart => exact ⟨0, rfl, Nat.zero_le _, Nat.le_refl _, HB4, HF4, HR4⟩
  case round =>
    clear HB4 HF4 HR4 hmk
    obtain ⟨i, rfl, hil, hgk, HB, HF, HRW⟩ := hrel
    by_cases hlt' : i < R.length
    · have t1 : (i : Int) < (R.length : Int) := by omega
      have hSn : S ≠ [] := fun e => by have := HSL.out; rw [e] at this; simp at this; omega
      obtain ⟨r, hr⟩ : ∃ r, S[i]? = some r := ⟨_, List.getElem?_eq_getElem (by rw [HSL.out]; exact hlt')⟩
      obtain ⟨g, rfl, hrows, hgt⟩ := HRW.out hSn
      obtain ⟨r1, r2, r3, r4, r5⟩ := r
      have d0 := hrows i _ hr 0 _ rfl
      have d1 := hrows i _ hr 1 _ rfl
      have d2 := hrows i _ hr 2 _ rfl
      have d3 := hrows i _ hr 3 _ rfl
      have d4 := hrows i _ hr 4 _ rfl
      rw [Nat.add_zero] at d0
      obtain ⟨cur, f1, f2, f3⟩ := HF.out
      have cT : ∃ u, wr.cell? ⟨tb, i, none⟩ = some u := ⟨cur[i]'(by omega), by simp [World.cell?, f1, f2, hlt']⟩
      obtain ⟨uT, cT⟩ := cT
      have fT : wr.frozen? ⟨tb, i, none⟩ = false := by simp [World.frozen?, f1]
      have hgl := cell_lt d0
      have htl := cell_lt cT
      simp only [] at hgl htl
      have HX : Hid (S[i]? = some (r1, ⟨r2, r3, r4, r5⟩)) := hr
      have HRO : Hid (RowsAt wr g S) := hrows
      clear hr hrows f1 f2 f3
      go_wp2_with fail
      go_roundg (R.length - (i + 1))
      case measure => omega
      case rel =>
        obtain ⟨cur, f1, f2, f3⟩ := HF.out
        have hset := set_cells f1 i (.int .i64 r1)
        have hks : Kept (fun k => k = tb) wr (wr.setCell ⟨tb, i, none⟩ (.int .i64 r1)) := Kept.setCell _ _ _ _ _ rfl
        obtain ⟨wn, hwn⟩ : ∃ wn, wn = wr.setCell ⟨tb, i, none⟩ (.int .i64 r1) := ⟨_, rfl⟩
        rw [← hwn] at hset hks ⊢
        have hba : Below wn.heap.size wn (wn.alloc (.cells #[.int .i64 r1, .int .i64 r2, .int .i64 r3, .int .i64 r4, .int .i64 r5] 105)) := (Below.refl _ wn).alloc (Nat.le_refl _) _
        have hbw : Below w.heap.size w wn := HB.out.trans (hks.below HB.out.size (fun k hk e => by have := HTB.out; omega))
        refine ⟨i + 1, by go_num, by omega, Nat.le_refl _, hbw.trans (hba.mono hbw.size), ⟨_, (hba.block tb (Array.getElem?_eq_some_iff.1 hset.1).1).trans hset.1, by simpa using f2, fun j r hj hr => ?_⟩, fun _ => ⟨g, rfl, fun j r hr k u hu => ?_, hgt⟩⟩
        · rw [Array.getElem?_setIfInBounds]
          by_cases e : i = j
          · subst e
            rw [if_pos rfl, if_pos (by omega)]
            rw [HX.out] at hr
            cases hr
            rfl
          · rw [if_neg e]
            exact f3 j r (by omega) hr
        · have h1 := hks.cell hgt (HRO.out j r hr k u hu)
          exact (hba.cell (p := ⟨g, j * 5 + k, none⟩) (cell_lt h1)).trans h1
    · have t1 : ¬ (i : Int) < (R.length : Int) := by omega
      obtain rfl : i = R.length := by omega
      have hF := HF.out
      rw [← HSL.out] at hF
      have hN := hF.done HTB.out (by rw [HSL.out]; unfold maxLen; omega)
      rw [HSL.out] at hN
      have HN : Hid (Nums wr w.heap.size (.slice (some ⟨tb, 0, none⟩) R.length R.length) (S.map (·.1))) := hN
      clear hF hN
      go_wp2_with fail
      go_ret
      exact ⟨_, rfl, S, HS.out, HN.out, HB.out⟩
end Go.Proofs.Ytonfdmbcbfpgdaa
