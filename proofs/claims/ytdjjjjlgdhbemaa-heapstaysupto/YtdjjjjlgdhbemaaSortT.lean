/-
  The order of a heap of things that rise: the function that slices.SortFunc is handed.
-/
import Derived.Test.YtdjjjjlgdhbemaaRising
import Derived.Sort.Grow
namespace Go.Proofs.Ytdjjjjlgdhbemaa
open Go.RowKit Go.Sort

/-- Blocks were laid and orders drawn: nothing else. -/
def Grew (w w' : World) : Prop := ∃ q os, w' = grow (w.drewN q) os
theorem Grew.refl (w : World) : Grew w w := ⟨0, #[], by simp; rfl⟩
theorem Grew.trans {a b c : World} (h : Grew a b) (k : Grew b c) : Grew a c := by
  obtain ⟨q, os, rfl⟩ := h
  obtain ⟨q', os', rfl⟩ := k
  refine ⟨q + q', os ++ os', ?_⟩
  rw [show (grow (a.drewN q) os).drewN q' = grow (a.drewN (q + q')) os by simp [grow, World.drewN, Nat.add_assoc], grow_grow]
theorem Grew.alloc {a b : World} (h : Grew a b) (o : Obj) : Grew a (b.alloc o) := h.trans ⟨0, #[o], by rw [alloc_eq_grow]; rfl⟩
theorem Grew.drew {a b : World} (h : Grew a b) : Grew a b.drew := h.trans ⟨1, #[], by simp; rfl⟩

set_option maxHeartbeats 1000000 in
set_option maxRecDepth 1000000 in
theorem before0_grew (x y : Int × Int) (w : World) : Calls Try.prog 45 #[.int .i64 0, valT x, valT y] w fun e w' => e = .returned (.bool (upB x y)) ∧ Grew w w' := by
  obtain ⟨x1, x2⟩ := x
  obtain ⟨y1, y2⟩ := y
  unfold valT
  go_enter Try.func45, Try.ntmps45
  go_wp2_with fail
  go_ret
  exact ⟨rfl, ((Grew.refl w).alloc _).alloc _⟩
set_option maxHeartbeats 1000000 in
set_option maxRecDepth 1000000 in
theorem rising_grew (x y : Int × Int) (w : World) : Calls Try.prog 24 #[valT x, valT y] w fun e w' => e = .returned (.bool (upB x y)) ∧ Grew w w' := by
  have HC : Hid (∀ w : World, Calls Try.prog 45 #[.int .i64 0, valT x, valT y] w fun e w' => e = .returned (.bool (upB x y)) ∧ Grew w w') := fun w => before0_grew x y w
  obtain ⟨x1, x2⟩ := x
  obtain ⟨y1, y2⟩ := y
  unfold valT at HC ⊢
  go_enter Try.func24, Try.ntmps24
  go_wp2_with fail
  refine (HC.out _).mono ?_
  rintro e w1 ⟨rfl, B1⟩
  have HB : Hid (Grew w w1) := (((Grew.refl w).alloc _).alloc _).trans B1
  clear B1
  go_wp2_with fail
  go_ret
  exact ⟨rfl, HB.out⟩
set_option maxHeartbeats 2000000 in
set_option maxRecDepth 1000000 in
theorem ahead_grew (w : World) (hb : Nat) (a b : Int × Int × Int) (h0 : w.cell? ⟨hb, 0, none⟩ = some (.func (.func 24) #[] #[])) :
    Calls Try.prog 41 #[.pointer (some ⟨hb, 0, none⟩), rowvT a, rowvT b] w fun e w' => e = .returned (.bool (rankB upB a b)) ∧ Grew w w' := by
  have e0 : ∀ (args : Array Value) (w : World), (callFunc 24 args).run Try.prog w = .ok (.enter 24 args) w := enters_of Try.func24 (by kernel_rfl) rfl
  obtain ⟨a1, a2⟩ := a
  obtain ⟨b1, b2⟩ := b
  have hlt := cell_lt h0
  simp only [] at hlt
  unfold rowvT cellsT
  simp only []
  by_cases hc : a1 < b1
  · go_enter Try.func41, Try.ntmps41
    go_wp2_with fail
    refine wp_tail 8 mixed (by kernel_rfl) ?_
    simp only [List.take_succ_cons, List.take_zero, List.drop_succ_cons, List.drop_zero]
    repeat still_step
    refine wpStill_nil ?_
    go_wp2_with fail
    refine (rising_grew b2 a2 _).mono ?_
    rintro e w2 ⟨rfl, g2⟩
    have H2 : Hid (Grew w w2) := ((((Grew.refl w).alloc _).alloc _).drew).trans g2
    clear g2
    go_wp2
    go_ret
    exact ⟨by simp [rankB, hc], H2.out⟩
  · go_enter Try.func41, Try.ntmps41
    go_wp2_with fail
    refine wp_tail 8 mixed (by kernel_rfl) ?_
    simp only [List.take_succ_cons, List.take_zero, List.drop_succ_cons, List.drop_zero]
    repeat still_step
    refine wpStill_nil ?_
    go_wp2_with fail
    refine (rising_grew a2 b2 _).mono ?_
    rintro e w2 ⟨rfl, g2⟩
    have H2 : Hid (Grew w w2) := ((((Grew.refl w).alloc _).alloc _).drew).trans g2
    clear g2
    go_wp2
    go_ret
    exact ⟨by simp [rankB, show ¬ a1 < b1 by omega], H2.out⟩

def rankI (a b : Int × Int × Int) : Int := if rankB upB a b then -1 else 1
set_option maxHeartbeats 2000000 in
set_option maxRecDepth 1000000 in
theorem cmp_grew (w : World) (hb bc : Nat) (a b : Int × Int × Int) (h0 : w.cell? ⟨hb, 0, none⟩ = some (.func (.func 24) #[] #[])) (hc : w.cell? ⟨bc, 0, none⟩ = some (.pointer (some ⟨hb, 0, none⟩))) :
    Calls Try.prog 40 #[rowvT a, rowvT b, .pointer (some ⟨bc, 0, none⟩)] w fun e w' => e = .returned (.int .i64 (rankI a b)) ∧ Grew w w' := by
  have hlb := cell_lt hc
  have hlh := cell_lt h0
  simp only [] at hlb hlh
  obtain ⟨w2, hw2⟩ : ∃ w2, w2 = (w.alloc (.cells (cellsT a).toArray 70)).alloc (.cells (cellsT b).toArray 70) := ⟨_, rfl⟩
  have g2 : Grew w w2 := by rw [hw2]; exact ((Grew.refl w).alloc _).alloc _
  have h02 : w2.cell? ⟨hb, 0, none⟩ = some (.func (.func 24) #[] #[]) := by
    rw [hw2]
    exact (((Below.refl _ w).alloc (Nat.le_refl _) _).alloc (by simp) _).cell (p := ⟨hb, 0, none⟩) hlh |>.trans h0
  have HA : Hid (Calls Try.prog 41 #[.pointer (some ⟨hb, 0, none⟩), rowvT a, rowvT b] w2 fun e w' => e = .returned (.bool (rankB upB a b)) ∧ Grew w w') := (ahead_grew w2 hb a b h02).mono fun e w' ⟨he, hg⟩ => ⟨he, g2.trans hg⟩
  have HW : Hid (w2 = (w.alloc (.cells (cellsT a).toArray 70)).alloc (.cells (cellsT b).toArray 70)) := hw2
  clear hw2 g2 h02 h0
  have HRI : Hid (rankI a b = if rankB upB a b then -1 else 1) := rfl
  generalize rankB upB a b = r at HA HRI
  obtain ⟨a1, a2, a3⟩ := a
  obtain ⟨b1, b2, b3⟩ := b
  unfold rowvT cellsT at HA HW ⊢
  simp only [] at HA HW ⊢
  cases r with
  | true =>
    go_enter Try.func40, Try.ntmps40
    go_wp2_with fail
    rw [← HW.out]
    refine HA.out.mono ?_
    rintro e w3 ⟨rfl, g3⟩
    have G3 : Hid (Grew w w3) := g3
    clear g3
    go_wp2_with fail
    go_ret
    exact ⟨by rw [HRI.out]; rfl, G3.out⟩
  | false =>
    go_enter Try.func40, Try.ntmps40
    go_wp2_with fail
    rw [← HW.out]
    refine HA.out.mono ?_
    rintro e w3 ⟨rfl, g3⟩
    have G3 : Hid (Grew w w3) := g3
    clear g3
    go_wp2_with fail
    go_ret
    exact ⟨by rw [HRI.out]; rfl, G3.out⟩
end Go.Proofs.Ytdjjjjlgdhbemaa
