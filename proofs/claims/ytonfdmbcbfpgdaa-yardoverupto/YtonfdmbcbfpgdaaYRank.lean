/-
  By what the jobs of a heap stand.
-/
import Derived.Test.YtonfdmbcbfpgdaaYAt
import Derived.Test.YtonfdmbcbfpgdaaHand
namespace Go.Proofs.Ytonfdmbcbfpgdaa
open Go.RowKit
def keyK (rk : Int) (m : Mk) : Int := if rk = 0 then m.pri else if rk = 1 then m.due else m.ord
def ltK (rk : Int) (x y : Mk) : Bool := if keyK rk x = keyK rk y then decide (x.id < y.id) else decide (keyK rk x < keyK rk y)
set_option maxHeartbeats 1000000 in
set_option maxRecDepth 1000000 in
theorem key_any (rk : Int) (m : Mk) (w : World) : Calls Try.prog 56 #[.int .i64 rk, valM m] w fun e w' => e = .returned (.int .i64 (keyK rk m)) ∧ Below w.heap.size w w' := by
  obtain ⟨id, pri, due, ord⟩ := m
  unfold valM
  by_cases h0 : rk = 0
  · go_enter Try.func56, Try.ntmps56
    go_wp2_with fail
    go_ret
    exact ⟨by simp [keyK, h0], (Below.refl _ w).alloc (Nat.le_refl _) _⟩
  · by_cases h1 : rk = 1
    · go_enter Try.func56, Try.ntmps56
      go_wp2_with fail
      go_ret
      exact ⟨by simp [keyK, h1], (Below.refl _ w).alloc (Nat.le_refl _) _⟩
    · go_enter Try.func56, Try.ntmps56
      go_wp2_with fail
      go_ret
      exact ⟨by simp [keyK, h0, h1], (Below.refl _ w).alloc (Nat.le_refl _) _⟩
theorem mark_row : (Try.prog.info? 76).map (·.size) = some 4 := by kernel_rfl
set_option maxHeartbeats 2000000 in
set_option maxRecDepth 1000000 in
theorem before_any (rk : Int) (x y : Mk) (w : World) : Calls Try.prog 32 #[.int .i64 rk, valM x, valM y] w fun e w' => e = .returned (.bool (ltK rk x y)) ∧ Below w.heap.size w w' := by
  have kx : Hid (∀ w, Calls Try.prog 56 #[.int .i64 rk, valM x] w fun e w' => e = .returned (.int .i64 (keyK rk x)) ∧ Below w.heap.size w w') := key_any rk x
  have ky : Hid (∀ w, Calls Try.prog 56 #[.int .i64 rk, valM y] w fun e w' => e = .returned (.int .i64 (keyK rk y)) ∧ Below w.heap.size w w') := key_any rk y
  obtain ⟨X, hX⟩ : ∃ X, X = keyK rk x := ⟨_, rfl⟩
  obtain ⟨Y, hY⟩ : ∃ Y, Y = keyK rk y := ⟨_, rfl⟩
  have HL : Hid (ltK rk x y = if X = Y then decide (x.id < y.id) else decide (X < Y)) := by rw [hX, hY]; rfl
  rw [← hX] at kx
  rw [← hY] at ky
  clear hX hY
  obtain ⟨xi, xp, xd, xo⟩ := x
  obtain ⟨yi, yp, yd, yo⟩ := y
  unfold valM at kx ky ⊢
  simp only [] at HL kx ky ⊢
  go_enter Try.func32, Try.ntmps32
  go_upto_region 1 with fail
  obtain ⟨b4, hb4⟩ : ∃ b4, b4 = w.heap.size := ⟨_, rfl⟩
  obtain ⟨w2, hw2⟩ : ∃ w2, w2 = (w.alloc (.cells #[.int .i64 xi, .int .i64 xp, .int .i64 xd, .int .i64 xo] 76)).alloc (.cells #[.int .i64 yi, .int .i64 yp, .int .i64 yd, .int .i64 yo] 76) := ⟨_, rfl⟩
  have B2 : Hid (Below w.heap.size w w2) := by rw [hw2]; exact ((Below.refl _ w).alloc (Nat.le_refl _) _).alloc (by simp) _
  have g4 : w2.heap[b4]? = some (.cells #[.int .i64 xi, .int .i64 xp, .int .i64 xd, .int .i64 xo] 76 (0, 0)) := by
    rw [hw2, hb4]; exact (((Below.refl _ (w.alloc _)).alloc (Nat.le_refl _) _).block w.heap.size (by simp)).trans (heap_alloc_new w _)
  have g5 : w2.heap[b4 + 1]? = some (.cells #[.int .i64 yi, .int .i64 yp, .int .i64 yd, .int .i64 yo] 76 (0, 0)) := by
    rw [hw2, hb4]; exact (by simpa using heap_alloc_new (w.alloc (.cells #[.int .i64 xi, .int .i64 xp, .int .i64 xd, .int .i64 xo] 76)) (.cells #[.int .i64 yi, .int .i64 yp, .int .i64 yd, .int .i64 yo] 76))
  rw [← hb4, ← hw2]
  have HB4 : Hid (b4 = w.heap.size) := hb4
  clear hw2 hb4
  have sq : w2.drew.heap[b4]? = some (.cells #[.int .i64 xi, .int .i64 xp, .int .i64 xd, .int .i64 xo] 76 (0, 0)) ∧ w2.drew.heap[b4 + 1]? = some (.cells #[.int .i64 yi, .int .i64 yp, .int .i64 yd, .int .i64 yo] 76 (0, 0)) := ⟨g4, g5⟩
  refine wp_region_held_drew (S := fun X => X.heap[b4]? = some (.cells #[.int .i64 xi, .int .i64 xp, .int .i64 xd, .int .i64 xo] 76 (0, 0)) ∧ X.heap[b4 + 1]? = some (.cells #[.int .i64 yi, .int .i64 yp, .int .i64 yd, .int .i64 yo] 76 (0, 0))) (by kernel_rfl) sq (fun _ => ?_)
  refine H_take (i := 0) (v := .int .i64 rk) (some 9) rfl rfl (by kernel_rfl) (by kernel_rfl) (by kernel_rfl) (fun _ _ _ h => h) rfl (fun X hX => ?_) sq ?_
  · simp [go_sem]
  simp only [Act.put, List.setIfInBounds_toArray, List.set_cons_zero, List.set_cons_succ]
  refine H_take (i := 1) (v := .agg #[.int .i64 xi, .int .i64 xp, .int .i64 xd, .int .i64 xo]) (some 10) rfl rfl (by kernel_rfl) (by kernel_rfl) (by kernel_rfl) (fun _ _ _ h => h) rfl (fun X hX => ?_) sq ?_
  · exact run_loadRow rfl rfl hX.1 Try.underlying76 rfl mark_row
  simp only [Act.put, List.setIfInBounds_toArray, List.set_cons_zero, List.set_cons_succ]
  refine H_take (i := 3) (v := .int .i64 rk) (some 12) rfl rfl (by kernel_rfl) (by kernel_rfl) (by kernel_rfl) (fun _ _ _ h => h) rfl (fun X hX => ?_) sq ?_
  · simp [go_sem]
  simp only [Act.put, List.setIfInBounds_toArray, List.set_cons_zero, List.set_cons_succ]
  refine H_take (i := 4) (v := .agg #[.int .i64 yi, .int .i64 yp, .int .i64 yd, .int .i64 yo]) (some 13) rfl rfl (by kernel_rfl) (by kernel_rfl) (by kernel_rfl) (fun _ _ _ h => h) rfl (fun X hX => ?_) sq ?_
  · exact run_loadRow rfl rfl hX.2 Try.underlying76 rfl mark_row
  simp only [Act.put, List.setIfInBounds_toArray, List.set_cons_zero, List.set_cons_succ]
  refine H_call (i := 2) (f := 56) (args := #[.int .i64 rk, .agg #[.int .i64 xi, .int .i64 xp, .int .i64 xd, .int .i64 xo]]) (some 11) rfl rfl (by kernel_rfl) rfl (by simp [go_sem]) ((kx.out _).mono ?_)
  rintro e w3 ⟨rfl, b3⟩
  have B3 : Below w2.heap.size w2 w3 := (Below.refl _ w2).drew.trans b3
  have sr : w3.heap[b4]? = some (.cells #[.int .i64 xi, .int .i64 xp, .int .i64 xd, .int .i64 xo] 76 (0, 0)) ∧ w3.heap[b4 + 1]? = some (.cells #[.int .i64 yi, .int .i64 yp, .int .i64 yd, .int .i64 yo] 76 (0, 0)) := ⟨(B3.block _ (Array.getElem?_eq_some_iff.1 g4).1).trans g4, (B3.block _ (Array.getElem?_eq_some_iff.1 g5).1).trans g5⟩
  refine ⟨_, rfl, sr, ?_⟩
  simp only [Act.put, List.setIfInBounds_toArray, List.set_cons_zero, List.set_cons_succ]
  refine H_call (i := 5) (f := 56) (args := #[.int .i64 rk, .agg #[.int .i64 yi, .int .i64 yp, .int .i64 yd, .int .i64 yo]]) (some 14) rfl rfl (by kernel_rfl) rfl (by simp [go_sem]) ((ky.out _).mono ?_)
  rintro e w4 ⟨rfl, b5⟩
  have B4 : Below w2.heap.size w2 w4 := B3.trans (b5.mono B3.size)
  have ss : w4.heap[b4]? = some (.cells #[.int .i64 xi, .int .i64 xp, .int .i64 xd, .int .i64 xo] 76 (0, 0)) ∧ w4.heap[b4 + 1]? = some (.cells #[.int .i64 yi, .int .i64 yp, .int .i64 yd, .int .i64 yo] 76 (0, 0)) := ⟨(B4.block _ (Array.getElem?_eq_some_iff.1 g4).1).trans g4, (B4.block _ (Array.getElem?_eq_some_iff.1 g5).1).trans g5⟩
  refine ⟨_, rfl, ss, ?_⟩
  simp only [Act.put, List.setIfInBounds_toArray, List.set_cons_zero, List.set_cons_succ]
  refine H_take (i := 6) (v := .int .i64 X) (some 7) rfl rfl (by kernel_rfl) (by kernel_rfl) (by kernel_rfl) (fun _ _ _ h => h) rfl (fun X hX => ?_) ss ?_
  · simp [go_sem]
  simp only [Act.put, List.setIfInBounds_toArray, List.set_cons_zero, List.set_cons_succ]
  refine H_take (i := 7) (v := .int .i64 Y) (some 8) rfl rfl (by kernel_rfl) (by kernel_rfl) (by kernel_rfl) (fun _ _ _ h => h) rfl (fun X hX => ?_) ss ?_
  · simp [go_sem]
  simp only [Act.put, List.setIfInBounds_toArray, List.set_cons_zero, List.set_cons_succ]
  refine wpAnyH_done (by kernel_rfl) ?_ _
  have z0 : w4.cell? ⟨b4, 0, none⟩ = some (.int .i64 xi) := by simp [World.cell?, ss.1]
  have z1 : w4.cell? ⟨b4 + 1, 0, none⟩ = some (.int .i64 yi) := by simp [World.cell?, ss.2]
  have BB : Hid (Below w.heap.size w w4) := B2.out.trans (B4.mono B2.out.size)
  clear ss sr sq g4 g5 B3 B4 b3 b5 kx ky
  by_cases he : X = Y
  · go_wp2_with fail
    go_ret
    exact ⟨by rw [HL.out, if_pos he]; rfl, BB.out⟩
  · go_wp2_with fail
    go_ret
    exact ⟨by rw [HL.out, if_neg he]; rfl, BB.out⟩
theorem rank_asks (rk : Int) : AskerM 32 rk (ltK rk) (fun _ => True) (fun _ => False) (fun _ _ => True) where
  enters := enters_of Try.func32 (by kernel_rfl) rfl
  ask := fun n w x y _ _ _ => (before_any rk x y w).mono fun e w' ⟨he, hw⟩ => ⟨he, trivial, Kept.ofBelow hw⟩
  keep := fun _ _ _ _ _ _ => trivial
  old := fun _ _ _ _ h => h.elim
end Go.Proofs.Ytonfdmbcbfpgdaa
