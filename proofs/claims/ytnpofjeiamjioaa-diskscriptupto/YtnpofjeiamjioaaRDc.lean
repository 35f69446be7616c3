/-
  RDo4, RDo5, RDo.
-/
import Derived.Test.YtnpofjeiamjioaaRDoK
import Derived.Test.YtnpofjeiamjioaaRDo1
import Derived.Test.YtnpofjeiamjioaaRDb
namespace Go.Proofs.Ytnpofjeiamjioaa
open Go.RowKit

set_option linter.unusedSimpArgs false in
set_option maxHeartbeats 4000000 in
set_option maxRecDepth 1000000 in
theorem rcut_any (w : World) (B rb : Nat) (q : Int) (fv : Value) (F : List (Fl × Value)) (h : RfAt w B rb q fv F) (hF : F.length ≤ 1073741823) (hR : Rising (F.map (·.1))) (hD : ∀ p ∈ F, p.1.data.length ≤ 1073741823) (hB : B ≤ w.heap.size) (n z : Int) (ad : Option Addr) (dl dc : Nat) (his : (plP (F.map (·.1)) n).2 = true) :
    Calls Try.prog 41 #[.pointer (some ⟨rb, 0, none⟩), .agg #[.int .i64 4, .int .i64 n, .slice ad dl dc, .int .i64 z]] w (RDoPost w B rb q fv F (actCut (F.map (·.1)) n z)) := by
  obtain ⟨w1, hw1⟩ : ∃ w1, w1 = w.alloc (.cells #[.int .i64 4, .int .i64 n, .slice ad dl dc, .int .i64 z] 39) := ⟨_, rfl⟩
  have B1 : Below w.heap.size w w1 := by rw [hw1]; exact (Below.refl _ w).alloc (Nat.le_refl _) _
  have x1 : w1.heap[w.heap.size]? = some (.cells #[.int .i64 4, .int .i64 n, .slice ad dl dc, .int .i64 z] 39 (0, 0)) := by rw [hw1]; exact heap_alloc_new w _
  have HR := hideR h
  have HB1 := hideR B1
  have HX1 := hideR x1
  obtain ⟨c0, c1⟩ : w1.cell? ⟨w.heap.size, 0, none⟩ = some (.int .i64 4) ∧ w1.cell? ⟨w.heap.size, 1, none⟩ = some (.int .i64 n) := by simp [World.cell?, x1]
  have CP := hideR (place_any11 w1 B rb q fv F (h.later B1) n hF)
  obtain ⟨i, hi⟩ : ∃ i, i = (plP (F.map (·.1)) n).1 := ⟨_, rfl⟩
  obtain ⟨x, hx, hin, hl⟩ := place_is hR his
  have hdl := hD x (List.mem_of_getElem? hx)
  have HA : HidR (actCut (F.map (·.1)) n z = if 0 ≤ z ∧ z ≤ x.1.data.length then (0, (F.map (·.1)).set i ⟨x.1.num, x.1.data.take z.toNat, z.toNat⟩) else (114, F.map (·.1))) := ⟨by
    rw [actCut, hl, hi]
    simp only [hin ⟨n, x.1.data.take z.toNat, z.toNat⟩ rfl, (look_mem hl).2]⟩
  rw [← hi] at hx
  rw [← hi, his] at CP
  obtain ⟨fa, fc, efv⟩ := HR.out.form
  obtain ⟨N, hN⟩ : ∃ N, N = F.length := ⟨_, rfl⟩
  have hiN : (i : Int) < (N : Int) := by have := (List.getElem?_eq_some_iff.1 hx).1; omega
  rw [← hN] at efv hF
  have HN := hideR hN
  subst efv
  obtain ⟨g, c, ee, _, _, _, _⟩ := HR.out.at hx
  simp only [Value.slice.injEq] at ee
  obtain ⟨rfl, _, rfl⟩ := ee
  obtain ⟨da, dc2, ed, ib⟩ := (HR.out.own x (List.mem_of_getElem? hx)).shape
  have hdc : x.1.data.length ≤ dc2 := ib.1
  have hdm : dc2 ≤ 9223372036854775807 := by have := ib.2.1; unfold maxLen at this; omega
  have HXX := hideR (And.intro hx ed)
  rename_i hq1
  clear h B1 x1 hi his hR hl hN hx hin ed hq1 ib hD
  by_cases hz0 : z < 0
  · go_enter Try.func41, Try.ntmps41
    go_wp2_with (go_at_call 57
                 rw [← hw1]
                 refine CP.out.mono ?_
                 rintro e w2 ⟨rfl, b2⟩
                 obtain ⟨d0, d1⟩ : w2.cell? ⟨w.heap.size, 0, none⟩ = some (.int .i64 4) ∧ w2.cell? ⟨w.heap.size, 1, none⟩ = some (.int .i64 n) := by
                   have := (b2.block _ (Array.getElem?_eq_some_iff.1 HX1.out).1).trans HX1.out
                   simp [World.cell?, this]
                 have B2 := hideR (HB1.out.trans (b2.mono HB1.out.size))
                 have HX2 := hideR ((b2.block _ (Array.getElem?_eq_some_iff.1 HX1.out).1).trans HX1.out)
                 have d3 : w2.cell? ⟨w.heap.size, 3, none⟩ = some (.int .i64 z) := by simp [World.cell?, HX2.out]
                 have H2 := hideR (HR.out.later B2.out)
                 have k0 := H2.out.cells.2.1
                 obtain ⟨g2, c2, ee, _, m1, m2, fz⟩ := H2.out.at HXX.out.1
                 simp only [Value.slice.injEq, Option.some.injEq, Addr.mk.injEq, and_true] at ee
                 obtain ⟨rfl, qq⟩ := ee
                 rw [HXX.out.2] at m1
                 clear qq fz
                 clear b2)
    go_quiet (fail)
    go_wp2_with fail
    go_ret
    rw [HA.out, if_neg (by omega)]
    exact RDoPost.none HR.out (B2.out.trans ((below_drewN (Below.refl _ w2) _).mono B2.out.size))
  obtain ⟨Z, rfl⟩ := Int.eq_ofNat_of_zero_le (show 0 ≤ z by omega)
  have hzt : ((Z : Int)).toNat = Z := by omega
  by_cases hz1 : (x.1.data.length : Int) < (Z : Int)
  · go_enter Try.func41, Try.ntmps41
    go_wp2_with (go_at_call 57
                 rw [← hw1]
                 refine CP.out.mono ?_
                 rintro e w2 ⟨rfl, b2⟩
                 obtain ⟨d0, d1⟩ : w2.cell? ⟨w.heap.size, 0, none⟩ = some (.int .i64 4) ∧ w2.cell? ⟨w.heap.size, 1, none⟩ = some (.int .i64 n) := by
                   have := (b2.block _ (Array.getElem?_eq_some_iff.1 HX1.out).1).trans HX1.out
                   simp [World.cell?, this]
                 have B2 := hideR (HB1.out.trans (b2.mono HB1.out.size))
                 have HX2 := hideR ((b2.block _ (Array.getElem?_eq_some_iff.1 HX1.out).1).trans HX1.out)
                 have d3 : w2.cell? ⟨w.heap.size, 3, none⟩ = some (.int .i64 (Z : Int)) := by simp [World.cell?, HX2.out]
                 have H2 := hideR (HR.out.later B2.out)
                 have k0 := H2.out.cells.2.1
                 obtain ⟨g2, c2, ee, _, m1, m2, fz⟩ := H2.out.at HXX.out.1
                 simp only [Value.slice.injEq, Option.some.injEq, Addr.mk.injEq, and_true] at ee
                 obtain ⟨rfl, qq⟩ := ee
                 rw [HXX.out.2] at m1
                 clear qq fz
                 clear b2)
    go_quiet (fail)
    go_wp2_with fail
    go_ret
    rw [HA.out, if_neg (by omega)]
    exact RDoPost.none HR.out (B2.out.trans ((below_drewN (Below.refl _ w2) _).mono B2.out.size))
  have hzl : Z ≤ x.1.data.length := by omega
  have hz2 : (Z : Int) ≤ (dc2 : Int) := by omega
  have hz3 : (0 : Int) ≤ (Z : Int) := by omega
  have hz4 : (Z : Int) ≤ (x.1.data.length : Int) := by omega
  have hmin : (x.1.data.take Z).length = Z := by rw [List.length_take, Nat.min_eq_left hzl]
  have HMIN := hideR hmin
  clear hmin
  have HZT := hideR hzt
  clear hzt
  go_enter Try.func41, Try.ntmps41
  go_wp2_with (go_at_call 57
               rw [← hw1]
               refine CP.out.mono ?_
               rintro e w2 ⟨rfl, b2⟩
               obtain ⟨d0, d1⟩ : w2.cell? ⟨w.heap.size, 0, none⟩ = some (.int .i64 4) ∧ w2.cell? ⟨w.heap.size, 1, none⟩ = some (.int .i64 n) := by
                 have := (b2.block _ (Array.getElem?_eq_some_iff.1 HX1.out).1).trans HX1.out
                 simp [World.cell?, this]
               have B2 := hideR (HB1.out.trans (b2.mono HB1.out.size))
               have HX2 := hideR ((b2.block _ (Array.getElem?_eq_some_iff.1 HX1.out).1).trans HX1.out)
               have d3 : w2.cell? ⟨w.heap.size, 3, none⟩ = some (.int .i64 (Z : Int)) := by simp [World.cell?, HX2.out]
               have H2 := hideR (HR.out.later B2.out)
               have k0 := H2.out.cells.2.1
               obtain ⟨g2, c2, ee, _, m1, m2, fz⟩ := H2.out.at HXX.out.1
               simp only [Value.slice.injEq, Option.some.injEq, Addr.mk.injEq, and_true] at ee
               obtain ⟨rfl, qq⟩ := ee
               rw [HXX.out.2] at m1
               clear qq fz
               clear b2)
  go_quiet (fail)
  go_upto_region 26 with fail
  generalize hwq : w2.drewN _ = w3
  have b3 : Below w2.heap.size w2 w3 := by rw [← hwq]; exact ⟨rfl, rfl, rfl, Nat.le_refl _, fun _ _ => rfl⟩
  have B3 := hideR (B2.out.trans (b3.mono B2.out.size))
  have H3 := hideR (HR.out.later B3.out)
  have x3 := (b3.block _ (Array.getElem?_eq_some_iff.1 HX2.out).1).trans HX2.out
  have HX3 := hideR x3
  have sq : (fun X : World => X.cell? ⟨w.heap.size, 3, none⟩ = some (.int .i64 (Z : Int))) w3.drew := by show w3.cell? _ = _; simp [World.cell?, x3]
  clear m1 m2
  obtain ⟨g2, c2, ee, _, m1, _, fz⟩ := H3.out.at HXX.out.1
  simp only [Value.slice.injEq, Option.some.injEq, Addr.mk.injEq, and_true] at ee
  obtain ⟨rfl, qq⟩ := ee
  rw [HXX.out.2] at m1
  obtain ⟨da2, dc3, ed2, i1⟩ := (H3.out.own x (List.mem_of_getElem? HXX.out.1)).shape
  rw [HXX.out.2] at ed2
  simp only [Value.slice.injEq] at ed2
  obtain ⟨rfl, _, rfl⟩ := ed2
  rename_i hq2
  have co := own_any11 w3.drew da dc2 (x.1.data.take Z) ((i1.below (Below.refl _ w3).drew).takeR Z) (by rw [HMIN.out]; omega)
  rw [HMIN.out] at co
  have CO := hideR co
  clear hwq b3 qq fz i1 hq2 d0 d1 d3 k0 x3 co
  refine wp_region_held_drew (S := fun X => X.cell? ⟨w.heap.size, 3, none⟩ = some (.int .i64 (Z : Int))) (by kernel_rfl) sq (fun _ => ?_)
  refine H_take (i := 0) (v := .pointer (some ⟨g, i * 3, none⟩)) (some 117) rfl rfl (by kernel_rfl) (by kernel_rfl) (by kernel_rfl) (fun _ _ _ h => h) rfl (fun X hX => ?_) sq ?_
  · go_simp
  simp only [Act.put, List.setIfInBounds_toArray, List.set_cons_zero, List.set_cons_succ]
  refine H_take (i := 1) (v := .pointer (some ⟨g, i * 3, none⟩)) (some 118) rfl rfl (by kernel_rfl) (by kernel_rfl) (by kernel_rfl) (fun _ _ _ h => h) rfl (fun X hX => ?_) sq ?_
  · go_simp
  simp only [Act.put, List.setIfInBounds_toArray, List.set_cons_zero, List.set_cons_succ]
  refine H_take (i := 2) (v := .pointer (some ⟨g, i * 3, none⟩)) (some 119) rfl rfl (by kernel_rfl) (by kernel_rfl) (by kernel_rfl) (fun _ _ _ h => h) rfl (fun X hX => ?_) sq ?_
  · go_simp
  simp only [Act.put, List.setIfInBounds_toArray, List.set_cons_zero, List.set_cons_succ]
  refine H_take (i := 3) (v := .pointer (some ⟨g, i * 3 + 1, none⟩)) (some 120) rfl rfl (by kernel_rfl) (by kernel_rfl) (by kernel_rfl) (fun _ _ _ h => h) rfl (fun X hX => ?_) sq ?_
  · go_simp
  simp only [Act.put, List.setIfInBounds_toArray, List.set_cons_zero, List.set_cons_succ]
  refine H_take (i := 5) (v := .pointer (some ⟨w.heap.size, 3, none⟩)) (some 122) rfl rfl (by kernel_rfl) (by kernel_rfl) (by kernel_rfl) (fun _ _ _ h => h) rfl (fun X hX => ?_) sq ?_
  · go_simp
  simp only [Act.put, List.setIfInBounds_toArray, List.set_cons_zero, List.set_cons_succ]
  refine H_take (i := 6) (v := .int .i64 (Z : Int)) (some 123) rfl rfl (by kernel_rfl) (by kernel_rfl) (by kernel_rfl) (fun _ _ _ h => h) rfl (fun X hX => ?_) sq ?_
  · simp [go_sem, hX]
  simp only [Act.put, List.setIfInBounds_toArray, List.set_cons_zero, List.set_cons_succ]
  refine wpAnyH_all (rs := [4]) (by kernel_rfl) (by decide) (fun j hj => ?_)
  obtain rfl : j = 4 := by simpa using hj
  refine op_value (v := .slice da x.1.data.length dc2) rfl rfl (by simp [go_sem, m1]) ⟨sq, ?_⟩
  simp only [Act.put, List.setIfInBounds_toArray, List.set_cons_zero, List.set_cons_succ]
  refine H_take (i := 7) (v := .slice da Z dc2) (some 124) rfl rfl (by kernel_rfl) (by kernel_rfl) (by kernel_rfl) (fun _ _ _ h => h) rfl (fun X hX => ?_) sq ?_
  · simp [go_sem, hz2, hz3, hz4]
  simp only [Act.put, List.setIfInBounds_toArray, List.set_cons_zero, List.set_cons_succ]
  refine wpAnyH_all (rs := [8]) (by kernel_rfl) (by decide) (fun j hj => ?_)
  obtain rfl : j = 8 := by simpa using hj
  refine op_call (f := 55) (args := #[.slice da Z dc2]) rfl rfl (by simp [go_sem]) (CO.out.mono ?_)
  rintro e w6 ⟨b5, v6, rfl, o6⟩
  have b6 : Below w3.heap.size w3 w6 := (Below.refl _ w3).drew.trans b5
  have B6 := hideR b6
  have hx6 := (b6.block _ (Array.getElem?_eq_some_iff.1 HX3.out).1).trans HX3.out
  have sq6 : w6.cell? ⟨w.heap.size, 3, none⟩ = some (.int .i64 (Z : Int)) := by simp [World.cell?, hx6]
  obtain ⟨g7, c7, ee, _, m7, _, fz7⟩ := (H3.out.later b6).at HXX.out.1
  simp only [Value.slice.injEq, Option.some.injEq, Addr.mk.injEq, and_true] at ee
  obtain ⟨rfl, qq⟩ := ee
  rw [HXX.out.2] at m7
  have f7 := fz7 (i * 3 + 1)
  have hz33 := B3.out.size
  have P7 := hideR ((H3.out.later b6).put (i := i) (k := 1) (z := ((⟨x.1.num, x.1.data.take Z, x.1.safe⟩ : Fl), v6)) HXX.out.1 (v := v6) (by omega) rfl (o6.mono (by have : w3.drew.heap.size = w3.heap.size := rfl; omega)))
  have O6 := hideR o6
  have hgne : w.heap.size ≠ g := by
    have := (HR.out.row.lt g rfl).2
    omega
  have sq7 : (w6.setCell ⟨g, i * 3 + 1, none⟩ v6).heap[w.heap.size]? = w6.heap[w.heap.size]? := Below.heap_setCell w6 ⟨g, i * 3 + 1, none⟩ v6 w.heap.size hgne
  obtain ⟨a6, c6, e6, _⟩ := o6.shape
  rw [HMIN.out] at e6
  subst e6
  clear o6 b5 b6 qq fz7
  refine ⟨_, rfl, sq6, ?_⟩
  simp only [Act.put, List.setIfInBounds_toArray, List.set_cons_zero, List.set_cons_succ]
  refine H_take (i := 9) (v := .pointer (some ⟨g, i * 3, none⟩)) (some 126) rfl rfl (by kernel_rfl) (by kernel_rfl) (by kernel_rfl) (fun _ _ _ h => h) rfl (fun X hX => ?_) sq6 ?_
  · go_simp
  simp only [Act.put, List.setIfInBounds_toArray, List.set_cons_zero, List.set_cons_succ]
  refine H_take (i := 10) (v := .pointer (some ⟨g, i * 3 + 1, none⟩)) (some 127) rfl rfl (by kernel_rfl) (by kernel_rfl) (by kernel_rfl) (fun _ _ _ h => h) rfl (fun X hX => ?_) sq6 ?_
  · go_simp
  simp only [Act.put, List.setIfInBounds_toArray, List.set_cons_zero, List.set_cons_succ]
  refine wpAnyH_all (rs := [11]) (by kernel_rfl) (by decide) (fun j hj => ?_)
  obtain rfl : j = 11 := by simpa using hj
  have sq8 : (w6.setCell ⟨g, i * 3 + 1, none⟩ (.slice a6 Z c6)).cell? ⟨w.heap.size, 3, none⟩ = some (.int .i64 (Z : Int)) := by rw [World.cell?_of_block sq7]; exact sq6
  refine op_skip (w' := w6.setCell ⟨g, i * 3 + 1, none⟩ (.slice a6 Z c6)) rfl rfl (by simp [go_sem, m7, f7]) ⟨sq8, ?_⟩
  refine wpAnyH_done (by kernel_rfl) ?_ _
  simp only [Act.put, List.setIfInBounds_toArray, List.set_cons_zero, List.set_cons_succ]
  obtain ⟨w8, hw8⟩ : ∃ w8, w8 = w6.setCell ⟨g, i * 3 + 1, none⟩ (.slice a6 Z c6) := ⟨_, rfl⟩
  rw [← hw8] at sq8 P7 ⊢
  have hfx : (F.set i ((⟨x.1.num, x.1.data.take Z, x.1.safe⟩ : Fl), Value.slice a6 Z c6))[i]? = some ((⟨x.1.num, x.1.data.take Z, x.1.safe⟩ : Fl), Value.slice a6 Z c6) := by rw [List.getElem?_set_self (List.getElem?_eq_some_iff.1 HXX.out.1).1]
  obtain ⟨g8, c8, ee, _, _, m8, fz8⟩ := P7.out.1.at hfx
  simp only [Value.slice.injEq, Option.some.injEq, Addr.mk.injEq, and_true] at ee
  obtain ⟨rfl, qq⟩ := ee
  have f8 := fz8 (i * 3 + 2)
  have P8 := hideR (P7.out.1.put (i := i) (k := 2) (z := ((⟨x.1.num, x.1.data.take Z, Z⟩ : Fl), .slice a6 Z c6)) hfx (v := .int .i64 (Z : Int)) (by omega) rfl (P7.out.1.own ((⟨x.1.num, x.1.data.take Z, x.1.safe⟩ : Fl), Value.slice a6 Z c6) (List.mem_of_getElem? hfx)))
  clear hw8 qq fz8 hfx m7 f7
  go_wp2_with fail
  go_ret
  rw [HA.out, if_pos (by omega), HZT.out]
  refine ⟨rfl, (((Kept.ofBelow B3.out).trans ((Kept.ofBelow B6.out))).trans (P7.out.2.mono (fun jj _ e => .inr (by rw [e]; rfl)))).trans (P8.out.2.mono (fun jj _ e => .inr (by rw [e]; rfl))), _, _, P8.out.1, ?_, fun _ e => .inl e, ?_⟩
  · rw [List.set_set, List.map_set]
  · rw [List.set_set]
    refine (NewR.refl w F).set i _ (fun g e => ?_)
    have := (O6.out.lt g e).1
    have : w3.drew.heap.size = w3.heap.size := rfl
    omega
end Go.Proofs.Ytnpofjeiamjioaa

namespace Go.Proofs.Ytnpofjeiamjioaa
open Go.RowKit

set_option maxHeartbeats 4000000 in
set_option maxRecDepth 1000000 in
theorem rremove_any (w : World) (B rb : Nat) (q : Int) (fv : Value) (F : List (Fl × Value)) (h : RfAt w B rb q fv F) (hF : F.length ≤ 1073741823) (hR : Rising (F.map (·.1))) (hB : B ≤ w.heap.size) (n z : Int) (ad : Option Addr) (dl dc : Nat) (his : (plP (F.map (·.1)) n).2 = true) :
    Calls Try.prog 41 #[.pointer (some ⟨rb, 0, none⟩), .agg #[.int .i64 5, .int .i64 n, .slice ad dl dc, .int .i64 z]] w (RDoPost w B rb q fv F (actRemove (F.map (·.1)) n)) := by
  obtain ⟨w1, hw1⟩ : ∃ w1, w1 = w.alloc (.cells #[.int .i64 5, .int .i64 n, .slice ad dl dc, .int .i64 z] 39) := ⟨_, rfl⟩
  have B1 : Below w.heap.size w w1 := by rw [hw1]; exact (Below.refl _ w).alloc (Nat.le_refl _) _
  have x1 : w1.heap[w.heap.size]? = some (.cells #[.int .i64 5, .int .i64 n, .slice ad dl dc, .int .i64 z] 39 (0, 0)) := by rw [hw1]; exact heap_alloc_new w _
  have HR := hideR h
  have HB1 := hideR B1
  have HX1 := hideR x1
  obtain ⟨c0, c1⟩ : w1.cell? ⟨w.heap.size, 0, none⟩ = some (.int .i64 5) ∧ w1.cell? ⟨w.heap.size, 1, none⟩ = some (.int .i64 n) := by simp [World.cell?, x1]
  have CP := hideR (place_any11 w1 B rb q fv F (h.later B1) n hF)
  obtain ⟨i, hi⟩ : ∃ i, i = (plP (F.map (·.1)) n).1 := ⟨_, rfl⟩
  obtain ⟨f, hl, hf⟩ := (plP_spec (F.map (·.1)) n hR).1 his
  have HA : HidR (actRemove (F.map (·.1)) n = (0, (F.map (·.1)).take i ++ (F.map (·.1)).drop (i + 1))) := ⟨by
    rw [actRemove, hl, hi]
    simp only [del_old (F.map (·.1)) n hR his]⟩
  rw [← hi] at hf
  obtain ⟨x, hx⟩ : ∃ x, F[i]? = some x := by
    rw [List.getElem?_map] at hf
    cases hF2 : F[i]? with
    | none => rw [hF2] at hf; simp at hf
    | some x => exact ⟨x, rfl⟩
  rw [← hi, his] at CP
  obtain ⟨fa, fc, efv⟩ := HR.out.form
  obtain ⟨N, hN⟩ : ∃ N, N = F.length := ⟨_, rfl⟩
  have hiN : i < N := by rw [hN]; exact (List.getElem?_eq_some_iff.1 hx).1
  rw [← hN] at efv hF
  have HN := hideR hN
  subst efv
  obtain ⟨_, s2, s3, s4⟩ := HR.out.src
  rw [← hN] at s2
  unfold maxLen at s3
  rcases s4 with ⟨_, hF0, _⟩ | ⟨g, rfl, _⟩
  · rw [hF0] at hx
    simp at hx
  rename_i hsn _
  clear h B1 x1 hi his hR hl hf hN hx hsn
  have hi0 : (0 : Int) ≤ (i : Int) := by omega
  have hi1 : (i : Int) ≤ (fc : Int) := by omega
  have hi2 : (i : Int) ≤ (N : Int) := by omega
  have hi3 : (i : Int) < (N : Int) := by omega
  have hi4 : (i : Int) + 1 ≤ (fc : Int) := by omega
  have hi5 : (i : Int) + 1 ≤ (N : Int) := by omega
  by_cases hfi : fc = i + 1
  · subst hfi
    obtain rfl : N = i + 1 := by omega
    go_enter Try.func41, Try.ntmps41
    go_wp2_with (first
      | (go_at_call 57
         rw [← hw1]
         refine CP.out.mono ?_
         rintro e w2 ⟨rfl, b2⟩
         obtain ⟨d0, d1⟩ : w2.cell? ⟨w.heap.size, 0, none⟩ = some (.int .i64 5) ∧ w2.cell? ⟨w.heap.size, 1, none⟩ = some (.int .i64 n) := by
           have := (b2.block _ (Array.getElem?_eq_some_iff.1 HX1.out).1).trans HX1.out
           simp [World.cell?, this]
         have B2 := hideR (HB1.out.trans (b2.mono HB1.out.size))
         have H2 := hideR (HR.out.later B2.out)
         have k0 := H2.out.cells.2.1
         have k1 : (w2.alloc (.cells #[] 62)).cell? ⟨rb, 1, none⟩ = some (.slice (some ⟨g, 0, none⟩) (i + 1) (i + 1)) := (H2.out.later ((Below.refl _ w2).alloc (Nat.le_refl _) _)).cells.2.1
         clear b2)
      | (refine wpList_fapp rfl (.tmp 135) (.tmp 141) rfl w2.heap.size (.slice (some ⟨w2.heap.size, 0, none⟩) 0 0) 0 [] rfl (World.ownsRow_made w2 #[] 0 (Nat.le_refl _) (by unfold maxLen; omega) (by simp)) (some ⟨g, 0, none⟩) i (i + 1) (flatR (F.take i)) rfl (by rw [flatR_length, List.length_take, Nat.min_eq_left (by have := HN.out; omega)])
           (.inr ⟨_, rfl, fun j u hj => (H2.out.later ((Below.refl _ w2).alloc (Nat.le_refl _) (.cells #[] 62))).row.cells (g := g) rfl j u (flatR_take F i j u hj)⟩) (fun u hu => HR.out.one u (flatR_mem_take hu)) (by omega) (by simp) ?_
         intro v3 w3 o3 g3 _ _ _
         rw [Nat.zero_add, List.nil_append] at o3
         obtain ⟨a3, c3, rfl⟩ := row_formR o3
         have b3 : Below w2.heap.size w2 w3 := ((Below.refl _ w2).alloc (Nat.le_refl _) _).grown g3 (by simp) (fun j hj => by simp [Value.ownBlock] at hj; omega)
         have HO3 := hideR o3
         have HB3 := hideR b3
         have H3 := hideR (H2.out.later b3)
         have k3 := H3.out.cells.2.1
         have hz3 := b3.size
         clear o3 g3 b3)
      | (refine wpList_fapp rfl (.tmp 144) (.tmp 151) rfl w2.heap.size (.slice a3 i c3) i (flatR (F.take i)) rfl HO3.out (some ⟨g, 0, none⟩) (i + 1 - (i + 1)) (0) (flatR (F.drop (i + 1))) (by simp [Act.eval]) (by rw [flatR_length, List.length_drop]; have := HN.out; omega)
           (.inr ⟨_, rfl, fun j u hj => by rw [List.drop_of_length_le (by have := HN.out; omega)] at hj; simp [flatR] at hj⟩) (fun u hu => HR.out.one u (flatR_mem_drop hu)) (by omega) (by omega) ?_
         intro v5 w5 o5 g5 _ _ _
         have b5 : Below w2.heap.size w2 w5 := HB3.out.grown g5 hz3 (fun j hj => (HO3.out.lt j hj).1)
         have o5' : w5.ownsRow w2.heap.size 62 3 v5 (F.take i ++ F.drop (i + 1)).length (flatR (F.take i ++ F.drop (i + 1))) := by
           have e2 : (F.take i ++ F.drop (i + 1)).length = i + (i + 1 - (i + 1)) := by
             rw [List.length_append, List.length_take, List.length_drop]
             have := HN.out
             omega
           rw [flatR_append, e2]
           exact o5
         obtain ⟨r1, r2, r3, r4⟩ := HR.out.reset (B2.out.trans (b5.mono B2.out.size)) (o5'.monoR (Nat.le_trans hB B2.out.size)) (fun p hp => by
           rcases List.mem_append.1 hp with hp | hp
           · exact (HR.out.own p (List.mem_of_mem_take hp)).below (B2.out.trans (b5.mono B2.out.size))
           · exact (HR.out.own p (List.mem_of_mem_drop hp)).below (B2.out.trans (b5.mono B2.out.size)))
         obtain ⟨a5, c5, e5⟩ := row_formR o5
         rw [show i + (i + 1 - (i + 1)) = i + 1 - 1 by omega] at e5
         have L5 := hideR (o5'.lt)
         have R5 := hideR (And.intro r1 ((Kept.ofBelow (P := fun jj => jj = rb ∨ (Value.slice (some ⟨g, 0, none⟩) (i + 1) (i + 1)).ownBlock = some jj) (B2.out.trans (b5.mono B2.out.size))).trans (r2.mono (fun g _ e => .inl e))))
         subst e5
         clear o5 g5 b5 o5' r1 r2))
    go_ret
    rw [HA.out]
    refine ⟨rfl, R5.out.2, _, _, R5.out.1, by simp, fun g e => .inr ?_, fun p hp g e => ?_⟩
    · have := (L5.out g e).1
      have := B2.out.size
      omega
    · rcases List.mem_append.1 hp with hp | hp
      · exact .inl ⟨p, List.mem_of_mem_take hp, e⟩
      · exact .inl ⟨p, List.mem_of_mem_drop hp, e⟩
  · have hfi2 : ¬ (fc : Int) = (i : Int) + 1 := by omega
    go_enter Try.func41, Try.ntmps41
    go_wp2_with (first
      | (go_at_call 57
         rw [← hw1]
         refine CP.out.mono ?_
         rintro e w2 ⟨rfl, b2⟩
         obtain ⟨d0, d1⟩ : w2.cell? ⟨w.heap.size, 0, none⟩ = some (.int .i64 5) ∧ w2.cell? ⟨w.heap.size, 1, none⟩ = some (.int .i64 n) := by
           have := (b2.block _ (Array.getElem?_eq_some_iff.1 HX1.out).1).trans HX1.out
           simp [World.cell?, this]
         have B2 := hideR (HB1.out.trans (b2.mono HB1.out.size))
         have H2 := hideR (HR.out.later B2.out)
         have k0 := H2.out.cells.2.1
         have k1 : (w2.alloc (.cells #[] 62)).cell? ⟨rb, 1, none⟩ = some (.slice (some ⟨g, 0, none⟩) N fc) := (H2.out.later ((Below.refl _ w2).alloc (Nat.le_refl _) _)).cells.2.1
         clear b2)
      | (refine wpList_fapp rfl (.tmp 135) (.tmp 141) rfl w2.heap.size (.slice (some ⟨w2.heap.size, 0, none⟩) 0 0) 0 [] rfl (World.ownsRow_made w2 #[] 0 (Nat.le_refl _) (by unfold maxLen; omega) (by simp)) (some ⟨g, 0, none⟩) i fc (flatR (F.take i)) rfl (by rw [flatR_length, List.length_take, Nat.min_eq_left (by have := HN.out; omega)])
           (.inr ⟨_, rfl, fun j u hj => (H2.out.later ((Below.refl _ w2).alloc (Nat.le_refl _) (.cells #[] 62))).row.cells (g := g) rfl j u (flatR_take F i j u hj)⟩) (fun u hu => HR.out.one u (flatR_mem_take hu)) (by omega) (by simp) ?_
         intro v3 w3 o3 g3 _ _ _
         rw [Nat.zero_add, List.nil_append] at o3
         obtain ⟨a3, c3, rfl⟩ := row_formR o3
         have b3 : Below w2.heap.size w2 w3 := ((Below.refl _ w2).alloc (Nat.le_refl _) _).grown g3 (by simp) (fun j hj => by simp [Value.ownBlock] at hj; omega)
         have HO3 := hideR o3
         have HB3 := hideR b3
         have H3 := hideR (H2.out.later b3)
         have k3 := H3.out.cells.2.1
         have hz3 := b3.size
         clear o3 g3 b3)
      | (refine wpList_fapp rfl (.tmp 144) (.tmp 151) rfl w2.heap.size (.slice a3 i c3) i (flatR (F.take i)) rfl HO3.out (some ⟨g, (i + 1) * 3, none⟩) (N - (i + 1)) (fc - (i + 1)) (flatR (F.drop (i + 1))) (by simp [Act.eval]) (by rw [flatR_length, List.length_drop]; have := HN.out; omega)
           (.inr ⟨_, rfl, fun j u hj => ?_⟩) (fun u hu => HR.out.one u (flatR_mem_drop hu)) (by omega) (by omega) ?_
         · have := H3.out.row.cells (g := g) rfl ((i + 1) * 3 + j) u (flatR_drop F (i + 1) j (by have := HN.out; omega) u hj)
           exact at_cell (cell_at this)
         intro v5 w5 o5 g5 _ _ _
         have b5 : Below w2.heap.size w2 w5 := HB3.out.grown g5 hz3 (fun j hj => (HO3.out.lt j hj).1)
         have o5' : w5.ownsRow w2.heap.size 62 3 v5 (F.take i ++ F.drop (i + 1)).length (flatR (F.take i ++ F.drop (i + 1))) := by
           have e2 : (F.take i ++ F.drop (i + 1)).length = i + (N - (i + 1)) := by
             rw [List.length_append, List.length_take, List.length_drop]
             have := HN.out
             omega
           rw [flatR_append, e2]
           exact o5
         obtain ⟨r1, r2, r3, r4⟩ := HR.out.reset (B2.out.trans (b5.mono B2.out.size)) (o5'.monoR (Nat.le_trans hB B2.out.size)) (fun p hp => by
           rcases List.mem_append.1 hp with hp | hp
           · exact (HR.out.own p (List.mem_of_mem_take hp)).below (B2.out.trans (b5.mono B2.out.size))
           · exact (HR.out.own p (List.mem_of_mem_drop hp)).below (B2.out.trans (b5.mono B2.out.size)))
         obtain ⟨a5, c5, e5⟩ := row_formR o5
         rw [show i + (N - (i + 1)) = N - 1 by omega] at e5
         have L5 := hideR (o5'.lt)
         have R5 := hideR (And.intro r1 ((Kept.ofBelow (P := fun jj => jj = rb ∨ (Value.slice (some ⟨g, 0, none⟩) N fc).ownBlock = some jj) (B2.out.trans (b5.mono B2.out.size))).trans (r2.mono (fun g _ e => .inl e))))
         subst e5
         clear o5 g5 b5 o5' r1 r2))
    go_ret
    rw [HA.out]
    refine ⟨rfl, R5.out.2, _, _, R5.out.1, by simp, fun g e => .inr ?_, fun p hp g e => ?_⟩
    · have := (L5.out g e).1
      have := B2.out.size
      omega
    · rcases List.mem_append.1 hp with hp | hp
      · exact .inl ⟨p, List.mem_of_mem_take hp, e⟩
      · exact .inl ⟨p, List.mem_of_mem_drop hp, e⟩
end Go.Proofs.Ytnpofjeiamjioaa

namespace Go.Proofs.Ytnpofjeiamjioaa
open Go.RowKit

theorem refDo_any (w : World) (B rb : Nat) (q : Int) (fv : Value) (F : List (Fl × Value)) (h : RfAt w B rb q fv F) (hF : F.length ≤ 1073741823) (hR : Right q (F.map (·.1))) (hB : B ≤ w.heap.size) (k n z : Int) (ad : Option Addr) (dc : Nat) (d : List UInt8) (hd : IsBytes w ad dc d) :
    Calls Try.prog 41 #[.pointer (some ⟨rb, 0, none⟩), .agg #[.int .i64 k, .int .i64 n, .slice ad d.length dc, .int .i64 z]] w (RDoPost w B rb q fv F (act q (F.map (·.1)) k n d z)) := by
  have hq := hR.quota.2
  have hD : ∀ p ∈ F, p.1.data.length ≤ 1073741823 := fun p hp => by
    have := len_le (List.mem_map.2 ⟨p, hp, rfl⟩ : p.1 ∈ F.map (·.1))
    have := hR.fits
    omega
  by_cases k1 : k = 1
  · subst k1
    exact rcreate_any w B rb q fv F h hF hR.rise hB n z ad d.length dc
  by_cases k0 : k < 1 ∨ 5 < k
  · have e : act q (F.map (·.1)) k n d z = (116, F.map (·.1)) := by
      unfold act
      rw [if_neg k1, if_neg (by omega), if_neg (by omega), if_neg (by omega), if_neg (by omega)]
    rw [e]
    exact rkind_any w B rb q fv F h hF k n z ad d.length dc k0
  cases his : (plP (F.map (·.1)) n).2 with
  | false =>
    have hl := (plP_spec (F.map (·.1)) n hR.rise).2.1 his
    have e : act q (F.map (·.1)) k n d z = (113, F.map (·.1)) := by
      unfold act
      rw [if_neg k1]
      by_cases k2 : k = 2
      · rw [if_pos k2, actAppend, hl]
      by_cases k3 : k = 3
      · rw [if_neg k2, if_pos k3, actSync, hl]
      by_cases k4 : k = 4
      · rw [if_neg k2, if_neg k3, if_pos k4, actCut, hl]
      rw [if_neg k2, if_neg k3, if_neg k4, if_pos (by omega), actRemove, hl]
    rw [e]
    exact rnone_any w B rb q fv F h hF k n z ad d.length dc (by omega) his
  | true =>
    by_cases k2 : k = 2
    · subst k2
      exact rappend_any w B rb q fv F h hF hR.rise hq hR.fits hB n z ad dc d hd his
    by_cases k3 : k = 3
    · subst k3
      exact rsync_any w B rb q fv F h hF hR.rise n z ad d.length dc his
    by_cases k4 : k = 4
    · subst k4
      exact rcut_any w B rb q fv F h hF hR.rise hD hB n z ad d.length dc his
    have k5 : k = 5 := by omega
    subst k5
    exact rremove_any w B rb q fv F h hF hR.rise hB n z ad d.length dc his
end Go.Proofs.Ytnpofjeiamjioaa
