/-
  The order of a heap, in any of the ways: the function that slices.SortFunc is handed.
-/
import Derived.Test.YtkjjinccnaphpaaRankW
import Derived.Sort.Grow
namespace Go.Proofs.Ytkjjinccnaphpaa
open Go.RowKit Go.Sort

/-- Blocks were laid and orders drawn: nothing else. -/
def Grew (w w' : World) : Prop := ∃ q os, w' = grow (w.drewN q) os
theorem Grew.refl (w : World) : Grew w w := ⟨0, #[], by simp; rfl⟩
theorem Grew.trans {a b c : World} (h : Grew a b) (k : Grew b c) : Grew a c := by
  obtain ⟨q, os, rfl⟩ := h
  obtain ⟨q', os', rfl⟩ := k
  refine ⟨q + q', os ++ os', ?_⟩
  rw [show (grow (a.drewN q) os).drewN q' = grow (a.drewN (q + q')) os by simp [grow, World.drewN, Nat.add_assoc], grow_grow]
theorem Grew.alloc {a b : World} (h : Grew a b) (o : Obj) : Grew a (b.alloc o) := h.trans ⟨0, #[o], by rw [alloc_eq_grow]; rfl⟩
theorem Grew.drew {a b : World} (h : Grew a b) : Grew a b.drew := h.trans ⟨1, #[], by simp; rfl⟩

theorem hide3 {p : Prop} (h : p) : Hid p := h
/-- A way's key. -/
def kW (way : Int) (x : Int × Int) : Int := if way = 0 then x.1 else if way = 1 then -x.1 else x.1.tmod 4
/-- A function that answers by a key, and lays nothing but blocks of its own. -/
structure Grower (f : FuncId) (ky : Int × Int → Int) : Prop where
  enters : Enters Try.prog f
  grew : ∀ (x y : Int × Int) (w : World), Calls Try.prog f #[valT x, valT y] w fun e w' => e = .returned (.bool (ltK ky x y)) ∧ Grew w w'
set_option maxHeartbeats 1000000 in
set_option maxRecDepth 1000000 in
theorem before_grew (way : Int) (x y : Int × Int) (w : World) : Calls Try.prog 37 #[.int .i64 way, valT x, valT y] w fun e w' => e = .returned (.bool (ltK (kW way) x y)) ∧ Grew w w' := by
  obtain ⟨x1, x2⟩ := x
  obtain ⟨y1, y2⟩ := y
  unfold valT
  by_cases h0 : way = 0
  · subst h0
    go_enter Try.func37, Try.ntmps37
    go_wp2_with fail
    go_ret
    exact ⟨rfl, ((Grew.refl w).alloc _).alloc _⟩
  by_cases h1 : way = 1
  · subst h1
    go_enter Try.func37, Try.ntmps37
    go_wp2_with fail
    go_ret
    refine ⟨?_, ((Grew.refl w).alloc _).alloc _⟩
    simp [ltK, kW]
  · have t0 : (way == 0) = false := by simpa using h0
    have t1 : (way == 1) = false := by simpa using h1
    have H := hide3 (And.intro h0 h1)
    clear h0 h1
    go_enter Try.func37, Try.ntmps37
    go_wp2_with fail
    go_ret
    refine ⟨?_, ((Grew.refl w).alloc _).alloc _⟩
    simp [ltK, kW, H.out.1, H.out.2]
set_option maxHeartbeats 1000000 in
set_option maxRecDepth 1000000 in
theorem rising_grows : Grower 16 (kW 0) where
  enters := enters_of Try.func16 (by kernel_rfl) rfl
  grew := by
    intro x y w
    have HC : Hid (∀ w : World, Calls Try.prog 37 #[.int .i64 0, valT x, valT y] w fun e w' => e = .returned (.bool (ltK (kW 0) x y)) ∧ Grew w w') := fun w => before_grew 0 x y w
    generalize ltK (kW 0) x y = bb at HC ⊢
    obtain ⟨x1, x2⟩ := x
    obtain ⟨y1, y2⟩ := y
    unfold valT at HC ⊢
    go_enter Try.func16, Try.ntmps16
    go_wp2_with fail
    refine (HC.out _).mono ?_
    rintro e w1 ⟨rfl, B1⟩
    have HB : Hid (Grew w w1) := (((Grew.refl w).alloc _).alloc _).trans B1
    clear B1
    go_wp2_with fail
    go_ret
    exact ⟨rfl, HB.out⟩
set_option maxHeartbeats 1000000 in
set_option maxRecDepth 1000000 in
theorem falling_grows : Grower 17 (kW 1) where
  enters := enters_of Try.func17 (by kernel_rfl) rfl
  grew := by
    intro x y w
    have HC : Hid (∀ w : World, Calls Try.prog 37 #[.int .i64 1, valT x, valT y] w fun e w' => e = .returned (.bool (ltK (kW 1) x y)) ∧ Grew w w') := fun w => before_grew 1 x y w
    generalize ltK (kW 1) x y = bb at HC ⊢
    obtain ⟨x1, x2⟩ := x
    obtain ⟨y1, y2⟩ := y
    unfold valT at HC ⊢
    go_enter Try.func17, Try.ntmps17
    go_wp2_with fail
    refine (HC.out _).mono ?_
    rintro e w1 ⟨rfl, B1⟩
    have HB : Hid (Grew w w1) := (((Grew.refl w).alloc _).alloc _).trans B1
    clear B1
    go_wp2_with fail
    go_ret
    exact ⟨rfl, HB.out⟩
set_option maxHeartbeats 1000000 in
set_option maxRecDepth 1000000 in
theorem rounds_grows : Grower 18 (kW 2) where
  enters := enters_of Try.func18 (by kernel_rfl) rfl
  grew := by
    intro x y w
    have HC : Hid (∀ w : World, Calls Try.prog 37 #[.int .i64 2, valT x, valT y] w fun e w' => e = .returned (.bool (ltK (kW 2) x y)) ∧ Grew w w') := fun w => before_grew 2 x y w
    generalize ltK (kW 2) x y = bb at HC ⊢
    obtain ⟨x1, x2⟩ := x
    obtain ⟨y1, y2⟩ := y
    unfold valT at HC ⊢
    go_enter Try.func18, Try.ntmps18
    go_wp2_with fail
    refine (HC.out _).mono ?_
    rintro e w1 ⟨rfl, B1⟩
    have HB : Hid (Grew w w1) := (((Grew.refl w).alloc _).alloc _).trans B1
    clear B1
    go_wp2_with fail
    go_ret
    exact ⟨rfl, HB.out⟩
theorem Grew.below {w w' : World} (h : Grew w w') : Below w.heap.size w w' := by
  obtain ⟨q, os, rfl⟩ := h
  refine ⟨rfl, rfl, rfl, by simp [grow], fun k hk => ?_⟩
  rw [heap_grow_old _ _ (by simpa using hk)]
  rfl
theorem Grower.asks {f : FuncId} {ky : Int × Int → Int} (G : Grower f ky) : AskerT f #[] (ltK ky) (fun _ => True) (fun _ => False) (fun _ _ => True) where
  enters := G.enters
  ask := fun _ w x y _ _ _ => (G.grew x y w).mono fun _ _ ⟨he, hw⟩ => ⟨he, trivial, Kept.ofBelow hw.below⟩
  keep := fun _ _ _ _ _ _ => trivial
  old := fun _ _ _ _ h => h.elim
set_option maxHeartbeats 2000000 in
set_option maxRecDepth 1000000 in
theorem ahead_grew {f : FuncId} {ky : Int × Int → Int} (G : Grower f ky) (w : World) (hb : Nat) (a b : Int × Int × Int) (h0 : w.cell? ⟨hb, 0, none⟩ = some (.func (.func f) #[] #[])) :
    Calls Try.prog 48 #[.pointer (some ⟨hb, 0, none⟩), rowvT a, rowvT b] w fun e w' => e = .returned (.bool (rankB (ltK ky) a b)) ∧ Grew w w' := by
  have e0 : ∀ (args : Array Value) (w : World), (callFunc f args).run Try.prog w = .ok (.enter f args) w := G.enters
  have HG : Hid (Grower f ky) := G
  clear G
  obtain ⟨a1, a2⟩ := a
  obtain ⟨b1, b2⟩ := b
  have hlt := cell_lt h0
  simp only [] at hlt
  unfold rowvT cellsT
  simp only []
  by_cases hc : a1 < b1
  · go_enter Try.func48, Try.ntmps48
    go_wp2_with fail
    refine wp_tail 8 mixed (by kernel_rfl) ?_
    simp only [List.take_succ_cons, List.take_zero, List.drop_succ_cons, List.drop_zero]
    repeat still_step
    refine wpStill_nil ?_
    go_wp2_with fail
    refine (HG.out.grew b2 a2 _).mono ?_
    rintro e w2 ⟨rfl, g2⟩
    have H2 : Hid (Grew w w2) := ((((Grew.refl w).alloc _).alloc _).drew).trans g2
    clear g2
    go_wp2
    go_ret
    exact ⟨by simp [rankB, hc], H2.out⟩
  · go_enter Try.func48, Try.ntmps48
    go_wp2_with fail
    refine wp_tail 8 mixed (by kernel_rfl) ?_
    simp only [List.take_succ_cons, List.take_zero, List.drop_succ_cons, List.drop_zero]
    repeat still_step
    refine wpStill_nil ?_
    go_wp2_with fail
    refine (HG.out.grew a2 b2 _).mono ?_
    rintro e w2 ⟨rfl, g2⟩
    have H2 : Hid (Grew w w2) := ((((Grew.refl w).alloc _).alloc _).drew).trans g2
    clear g2
    go_wp2
    go_ret
    exact ⟨by simp [rankB, show ¬ a1 < b1 by omega], H2.out⟩

def rankI (ky : Int × Int → Int) (a b : Int × Int × Int) : Int := if rankB (ltK ky) a b then -1 else 1
set_option maxHeartbeats 2000000 in
set_option maxRecDepth 1000000 in
theorem cmp_grew {f : FuncId} {ky : Int × Int → Int} (G : Grower f ky) (w : World) (hb bc : Nat) (a b : Int × Int × Int) (h0 : w.cell? ⟨hb, 0, none⟩ = some (.func (.func f) #[] #[])) (hc : w.cell? ⟨bc, 0, none⟩ = some (.pointer (some ⟨hb, 0, none⟩))) :
    Calls Try.prog 53 #[rowvT a, rowvT b, .pointer (some ⟨bc, 0, none⟩)] w fun e w' => e = .returned (.int .i64 (rankI ky a b)) ∧ Grew w w' := by
  have hlb := cell_lt hc
  have hlh := cell_lt h0
  simp only [] at hlb hlh
  obtain ⟨w2, hw2⟩ : ∃ w2, w2 = (w.alloc (.cells (cellsT a).toArray 66)).alloc (.cells (cellsT b).toArray 66) := ⟨_, rfl⟩
  have g2 : Grew w w2 := by rw [hw2]; exact ((Grew.refl w).alloc _).alloc _
  have h02 : w2.cell? ⟨hb, 0, none⟩ = some (.func (.func f) #[] #[]) := by
    rw [hw2]
    exact (((Below.refl _ w).alloc (Nat.le_refl _) _).alloc (by simp) _).cell (p := ⟨hb, 0, none⟩) hlh |>.trans h0
  have HA : Hid (Calls Try.prog 48 #[.pointer (some ⟨hb, 0, none⟩), rowvT a, rowvT b] w2 fun e w' => e = .returned (.bool (rankB (ltK ky) a b)) ∧ Grew w w') := (ahead_grew G w2 hb a b h02).mono fun e w' ⟨he, hg⟩ => ⟨he, g2.trans hg⟩
  have HW : Hid (w2 = (w.alloc (.cells (cellsT a).toArray 66)).alloc (.cells (cellsT b).toArray 66)) := hw2
  clear hw2 g2 h02 h0 G
  have HRI : Hid (rankI ky a b = if rankB (ltK ky) a b then -1 else 1) := rfl
  generalize rankB (ltK ky) a b = r at HA HRI
  obtain ⟨a1, a2, a3⟩ := a
  obtain ⟨b1, b2, b3⟩ := b
  unfold rowvT cellsT at HA HW ⊢
  simp only [] at HA HW ⊢
  cases r with
  | true =>
    go_enter Try.func53, Try.ntmps53
    go_wp2_with fail
    rw [← HW.out]
    refine HA.out.mono ?_
    rintro e w3 ⟨rfl, g3⟩
    have G3 : Hid (Grew w w3) := g3
    clear g3
    go_wp2_with fail
    go_ret
    exact ⟨by rw [HRI.out]; rfl, G3.out⟩
  | false =>
    go_enter Try.func53, Try.ntmps53
    go_wp2_with fail
    rw [← HW.out]
    refine HA.out.mono ?_
    rintro e w3 ⟨rfl, g3⟩
    have G3 : Hid (Grew w w3) := g3
    clear g3
    go_wp2_with fail
    go_ret
    exact ⟨by rw [HRI.out]; rfl, G3.out⟩
end Go.Proofs.Ytkjjinccnaphpaa
