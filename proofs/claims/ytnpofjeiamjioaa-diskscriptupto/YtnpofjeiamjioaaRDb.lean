/-
  RDo2, RDo3.
-/
import Derived.Test.YtnpofjeiamjioaaRDoK
namespace Go.Proofs.Ytnpofjeiamjioaa
open Go.RowKit

set_option linter.unusedSimpArgs false in
set_option maxHeartbeats 4000000 in
set_option maxRecDepth 1000000 in
theorem rappend_any (w : World) (B rb : Nat) (q : Int) (fv : Value) (F : List (Fl × Value)) (h : RfAt w B rb q fv F) (hF : F.length ≤ 1073741823) (hR : Rising (F.map (·.1))) (hq : q ≤ 67108864) (hT : (total (F.map (·.1)) : Int) ≤ q) (hB : B ≤ w.heap.size) (n z : Int) (ad : Option Addr) (dc : Nat) (d : List UInt8) (hd : IsBytes w ad dc d) (his : (plP (F.map (·.1)) n).2 = true) :
    Calls Try.prog 41 #[.pointer (some ⟨rb, 0, none⟩), .agg #[.int .i64 2, .int .i64 n, .slice ad d.length dc, .int .i64 z]] w (RDoPost w B rb q fv F (actAppend q (F.map (·.1)) n d)) := by
  obtain ⟨w1, hw1⟩ : ∃ w1, w1 = w.alloc (.cells #[.int .i64 2, .int .i64 n, .slice ad d.length dc, .int .i64 z] 39) := ⟨_, rfl⟩
  have B1 : Below w.heap.size w w1 := by rw [hw1]; exact (Below.refl _ w).alloc (Nat.le_refl _) _
  have x1 : w1.heap[w.heap.size]? = some (.cells #[.int .i64 2, .int .i64 n, .slice ad d.length dc, .int .i64 z] 39 (0, 0)) := by rw [hw1]; exact heap_alloc_new w _
  have HR := hideR h
  have HB1 := hideR B1
  have HX1 := hideR x1
  obtain ⟨c0, c1⟩ : w1.cell? ⟨w.heap.size, 0, none⟩ = some (.int .i64 2) ∧ w1.cell? ⟨w.heap.size, 1, none⟩ = some (.int .i64 n) := by simp [World.cell?, x1]
  have CP := hideR (place_any11 w1 B rb q fv F (h.later B1) n hF)
  obtain ⟨i, hi⟩ : ∃ i, i = (plP (F.map (·.1)) n).1 := ⟨_, rfl⟩
  obtain ⟨x, hx, hin, hl⟩ := place_is hR his
  obtain ⟨t, ht⟩ : ∃ t, t = total (F.map (·.1)) := ⟨_, rfl⟩
  have hxt : x.1.data.length ≤ t := by rw [ht]; exact len_le (List.mem_map.2 ⟨x, List.mem_of_getElem? hx, rfl⟩)
  have hdl : d.length ≤ 9223372036854775807 := by have := hd.1; have := hd.2.1; unfold maxLen at *; omega
  have HA : HidR (actAppend q (F.map (·.1)) n d = if (t : Int) + d.length > q then (115, F.map (·.1)) else (0, (F.map (·.1)).set i ⟨x.1.num, x.1.data ++ d, x.1.safe⟩)) := ⟨by
    rw [actAppend, hl, hi, ht]
    simp only [hin ⟨n, x.1.data ++ d, x.1.safe⟩ rfl, (look_mem hl).2]⟩
  rw [← ht] at hT
  rw [← hi] at hx
  rw [← hi, his] at CP
  have CU : HidR (∀ X, Below w.heap.size w X → Calls Try.prog 29 #[.pointer (some ⟨rb, 0, none⟩)] X fun e w' => e = .returned (.int .i64 (t : Int)) ∧ w' = X) := ⟨fun X hX => by
    have := used_any11 X B rb q fv F (h.later hX) hF (by omega)
    rw [← ht] at this
    exact this⟩
  have HID := hideR hd
  obtain ⟨fa, fc, efv⟩ := HR.out.form
  obtain ⟨N, hN⟩ : ∃ N, N = F.length := ⟨_, rfl⟩
  have hiN : (i : Int) < (N : Int) := by have := (List.getElem?_eq_some_iff.1 hx).1; omega
  rw [← hN] at efv hF
  have HN := hideR hN
  subst efv
  obtain ⟨g, c, ee, _, _, _, _⟩ := HR.out.at hx
  simp only [Value.slice.injEq] at ee
  obtain ⟨rfl, _, rfl⟩ := ee
  obtain ⟨da, dc2, ed, _⟩ := (HR.out.own x (List.mem_of_getElem? hx)).shape
  have HXX := hideR (And.intro hx ed)
  have wq : IntKind.i64.wrap (q - (t : Int)) = q - (t : Int) := by rw [IntKind.wrap_i64]; omega
  rename_i hq1
  have hBw := hB
  clear h B1 x1 hi his hR hl hN hx hin ed hq1 hd ht
  by_cases hfull : q - (t : Int) < (d.length : Int)
  · go_enter Try.func41, Try.ntmps41
    go_wp2_with (go_at_call 57
                 rw [← hw1]
                 refine CP.out.mono ?_
                 rintro e w2 ⟨rfl, b2⟩
                 obtain ⟨d0, d1⟩ : w2.cell? ⟨w.heap.size, 0, none⟩ = some (.int .i64 2) ∧ w2.cell? ⟨w.heap.size, 2, none⟩ = some (.slice ad d.length dc) := by
                   have := (b2.block _ (Array.getElem?_eq_some_iff.1 HX1.out).1).trans HX1.out
                   simp [World.cell?, this]
                 have B2 := hideR (HB1.out.trans (b2.mono HB1.out.size))
                 have H2 := hideR (HR.out.later B2.out)
                 have k0 := H2.out.cells.2.1
                 have kq := H2.out.cells.1
                 clear b2)
    go_quiet ((go_at_call 29; exact Calls.quiet_of ((CU.out _ (B2.out.trans ((below_drewN (Below.refl _ w2) _).mono B2.out.size))).mono (fun e w' he => ⟨he.1, 0, by rw [he.2]; rfl⟩))))
    go_wp2_with fail
    go_ret
    rw [HA.out, if_pos (by omega)]
    exact RDoPost.none HR.out (B2.out.trans ((below_drewN (Below.refl _ w2) _).mono B2.out.size))
  · go_enter Try.func41, Try.ntmps41
    go_wp2_with (go_at_call 57
                 rw [← hw1]
                 refine CP.out.mono ?_
                 rintro e w2 ⟨rfl, b2⟩
                 obtain ⟨d0, d1⟩ : w2.cell? ⟨w.heap.size, 0, none⟩ = some (.int .i64 2) ∧ w2.cell? ⟨w.heap.size, 2, none⟩ = some (.slice ad d.length dc) := by
                   have := (b2.block _ (Array.getElem?_eq_some_iff.1 HX1.out).1).trans HX1.out
                   simp [World.cell?, this]
                 have B2 := hideR (HB1.out.trans (b2.mono HB1.out.size))
                 have HX2 := hideR ((b2.block _ (Array.getElem?_eq_some_iff.1 HX1.out).1).trans HX1.out)
                 have H2 := hideR (HR.out.later B2.out)
                 have k0 := H2.out.cells.2.1
                 have kq := H2.out.cells.1
                 clear b2)
    go_quiet ((go_at_call 29; exact Calls.quiet_of ((CU.out _ (B2.out.trans ((below_drewN (Below.refl _ w2) _).mono B2.out.size))).mono (fun e w' he => ⟨he.1, 0, by rw [he.2]; rfl⟩))))
    go_upto_region 20 with fail
    generalize hwq : w2.drewN _ = w3
    have b3 : Below w2.heap.size w2 w3 := by rw [← hwq]; exact ⟨rfl, rfl, rfl, Nat.le_refl _, fun _ _ => rfl⟩
    have B3 := hideR (B2.out.trans (b3.mono B2.out.size))
    have H3 := hideR (HR.out.later B3.out)
    have x3 := (b3.block _ (Array.getElem?_eq_some_iff.1 HX2.out).1).trans HX2.out
    have sq : (fun X : World => X.cell? ⟨w.heap.size, 2, none⟩ = some (.slice ad d.length dc)) w3.drew := by show w3.cell? _ = _; simp [World.cell?, x3]
    obtain ⟨g2, c2, ee, _, m1, _, fz⟩ := H3.out.at HXX.out.1
    simp only [Value.slice.injEq, Option.some.injEq, Addr.mk.injEq, and_true] at ee
    obtain ⟨rfl, qq⟩ := ee
    rw [HXX.out.2] at m1
    obtain ⟨da2, dc3, ed2, i1⟩ := (H3.out.own x (List.mem_of_getElem? HXX.out.1)).shape
    rw [HXX.out.2] at ed2
    simp only [Value.slice.injEq] at ed2
    obtain ⟨rfl, _, rfl⟩ := ed2
    rename_i hq2
    have CO := hideR (own_any11 w3.drew da dc2 x.1.data (i1.below (Below.refl _ w3).drew) (by omega))
    have HX3 := hideR x3
    clear hwq b3 qq fz i1 hq2 d0 d1 k0 kq x3
    refine wp_region_held_drew (S := fun X => X.cell? ⟨w.heap.size, 2, none⟩ = some (.slice ad d.length dc)) (by kernel_rfl) sq (fun _ => ?_)
    refine H_take (i := 0) (v := .pointer (some ⟨g, i * 3, none⟩)) (some 81) rfl rfl (by kernel_rfl) (by kernel_rfl) (by kernel_rfl) (fun _ _ _ h => h) rfl (fun X hX => ?_) sq ?_
    · go_simp
    simp only [Act.put, List.setIfInBounds_toArray, List.set_cons_zero, List.set_cons_succ]
    refine H_take (i := 1) (v := .pointer (some ⟨g, i * 3, none⟩)) (some 82) rfl rfl (by kernel_rfl) (by kernel_rfl) (by kernel_rfl) (fun _ _ _ h => h) rfl (fun X hX => ?_) sq ?_
    · go_simp
    simp only [Act.put, List.setIfInBounds_toArray, List.set_cons_zero, List.set_cons_succ]
    refine H_take (i := 2) (v := .pointer (some ⟨g, i * 3, none⟩)) (some 83) rfl rfl (by kernel_rfl) (by kernel_rfl) (by kernel_rfl) (fun _ _ _ h => h) rfl (fun X hX => ?_) sq ?_
    · go_simp
    simp only [Act.put, List.setIfInBounds_toArray, List.set_cons_zero, List.set_cons_succ]
    refine H_take (i := 3) (v := .pointer (some ⟨g, i * 3 + 1, none⟩)) (some 84) rfl rfl (by kernel_rfl) (by kernel_rfl) (by kernel_rfl) (fun _ _ _ h => h) rfl (fun X hX => ?_) sq ?_
    · go_simp
    simp only [Act.put, List.setIfInBounds_toArray, List.set_cons_zero, List.set_cons_succ]
    refine H_take (i := 6) (v := .pointer (some ⟨w.heap.size, 2, none⟩)) (some 87) rfl rfl (by kernel_rfl) (by kernel_rfl) (by kernel_rfl) (fun _ _ _ h => h) rfl (fun X hX => ?_) sq ?_
    · go_simp
    simp only [Act.put, List.setIfInBounds_toArray, List.set_cons_zero, List.set_cons_succ]
    refine H_take (i := 7) (v := .slice ad d.length dc) (some 88) rfl rfl (by kernel_rfl) (by kernel_rfl) (by kernel_rfl) (fun _ _ _ h => h) rfl (fun X hX => ?_) sq ?_
    · simp [go_sem, hX]
    simp only [Act.put, List.setIfInBounds_toArray, List.set_cons_zero, List.set_cons_succ]
    refine wpAnyH_all (rs := [4]) (by kernel_rfl) (by decide) (fun j hj => ?_)
    obtain rfl : j = 4 := by simpa using hj
    refine op_value (v := .slice da x.1.data.length dc2) rfl rfl (by simp [go_sem, m1]) ⟨sq, ?_⟩
    simp only [Act.put, List.setIfInBounds_toArray, List.set_cons_zero, List.set_cons_succ]
    refine wpAnyH_all (rs := [5]) (by kernel_rfl) (by decide) (fun j hj => ?_)
    obtain rfl : j = 5 := by simpa using hj
    refine op_call (f := 55) (args := #[.slice da x.1.data.length dc2]) rfl rfl (by simp [go_sem]) (CO.out.mono ?_)
    rintro e w5 ⟨b5, v5, rfl, o5⟩
    have b5' : Below w3.heap.size w3 w5 := (Below.refl _ w3).drew.trans b5
    have B5 := hideR b5'
    have O5 := hideR o5
    have hx5 := (b5'.block _ (Array.getElem?_eq_some_iff.1 HX3.out).1).trans HX3.out
    have sq5 : w5.cell? ⟨w.heap.size, 2, none⟩ = some (.slice ad d.length dc) := by simp [World.cell?, hx5]
    have HX5 := hideR hx5
    clear b5 b5' o5 hx5
    refine ⟨_, rfl, sq5, ?_⟩
    simp only [Act.put, List.setIfInBounds_toArray, List.set_cons_zero, List.set_cons_succ]
    refine wpAnyH_all (rs := [8]) (by kernel_rfl) (by decide) (fun j hj => ?_)
    obtain rfl : j = 8 := by simpa using hj
    refine op_app8 rfl rfl (.tmp 86) (.tmp 88) rfl w3.heap.size v5 x.1.data rfl O5.out ad dc d rfl ((HID.out.below B3.out).below B5.out) (by omega) B5.out.size ?_
    intro v6 w6 o6 g6
    have b6 : Below w3.heap.size w3 w6 := B5.out.grown g6 B5.out.size (fun j hj => (O5.out.lt j hj).1)
    have B6 := hideR b6
    have hx6 := (b6.block _ (Array.getElem?_eq_some_iff.1 HX3.out).1).trans HX3.out
    have sq6 : w6.cell? ⟨w.heap.size, 2, none⟩ = some (.slice ad d.length dc) := by simp [World.cell?, hx6]
    obtain ⟨g7, c7, ee, _, m7, _, fz7⟩ := (H3.out.later b6).at HXX.out.1
    simp only [Value.slice.injEq, Option.some.injEq, Addr.mk.injEq, and_true] at ee
    obtain ⟨rfl, qq⟩ := ee
    rw [HXX.out.2] at m7
    have f7 := fz7 (i * 3 + 1)
    have hz3 := B3.out.size
    have P7 := hideR ((H3.out.later b6).put (i := i) (k := 1) (z := ((⟨x.1.num, x.1.data ++ d, x.1.safe⟩ : Fl), v6)) HXX.out.1 (v := v6) (by omega) rfl (o6.mono (by omega)))
    have O6 := hideR o6
    have sq7 : (w6.setCell ⟨g, i * 3 + 1, none⟩ v6).heap[w.heap.size]? = w6.heap[w.heap.size]? := Below.heap_setCell w6 ⟨g, i * 3 + 1, none⟩ v6 w.heap.size (by
      show w.heap.size ≠ g
      have := (HR.out.row.lt g rfl).2
      omega)
    obtain ⟨a6, c6, e6, _⟩ := o6.shape
    rw [List.length_append] at e6
    subst e6
    clear o6 g6 b6 qq fz7
    refine ⟨sq6, ?_⟩
    simp only [Act.put, List.setIfInBounds_toArray, List.set_cons_zero, List.set_cons_succ]
    refine H_take (i := 9) (v := .pointer (some ⟨g, i * 3, none⟩)) (some 90) rfl rfl (by kernel_rfl) (by kernel_rfl) (by kernel_rfl) (fun _ _ _ h => h) rfl (fun X hX => ?_) sq6 ?_
    · go_simp
    simp only [Act.put, List.setIfInBounds_toArray, List.set_cons_zero, List.set_cons_succ]
    refine H_take (i := 10) (v := .pointer (some ⟨g, i * 3 + 1, none⟩)) (some 91) rfl rfl (by kernel_rfl) (by kernel_rfl) (by kernel_rfl) (fun _ _ _ h => h) rfl (fun X hX => ?_) sq6 ?_
    · go_simp
    simp only [Act.put, List.setIfInBounds_toArray, List.set_cons_zero, List.set_cons_succ]
    refine wpAnyH_all (rs := [11]) (by kernel_rfl) (by decide) (fun j hj => ?_)
    obtain rfl : j = 11 := by simpa using hj
    refine op_skip (w' := w6.setCell ⟨g, i * 3 + 1, none⟩ (.slice a6 (x.1.data.length + d.length) c6)) rfl rfl (by simp [go_sem, m7, f7]) ⟨by show World.cell? _ _ = _; rw [World.cell?_of_block sq7]; exact sq6, ?_⟩
    refine wpAnyH_done (by kernel_rfl) ?_ _
    simp only [Act.put, List.setIfInBounds_toArray, List.set_cons_zero, List.set_cons_succ]
    go_wp2_with fail
    go_ret
    rw [HA.out, if_neg (by omega)]
    refine ⟨rfl, ((Kept.ofBelow B3.out).trans ((Kept.ofBelow B6.out))).trans (P7.out.2.mono (fun jj _ e => .inr (by rw [e]; rfl))), _, _, P7.out.1, ?_, fun _ e => .inl e, (NewR.refl w F).set i _ (fun g e => ?_)⟩
    · rw [List.map_set]
    · have := (O6.out.lt g e).1
      have := B3.out.size
      omega
end Go.Proofs.Ytnpofjeiamjioaa

namespace Go.Proofs.Ytnpofjeiamjioaa
open Go.RowKit

set_option maxHeartbeats 4000000 in
set_option maxRecDepth 1000000 in
theorem rkind_any (w : World) (B rb : Nat) (q : Int) (fv : Value) (F : List (Fl × Value)) (h : RfAt w B rb q fv F) (hF : F.length ≤ 1073741823) (k n z : Int) (ad : Option Addr) (dl dc : Nat) (hk : k < 1 ∨ 5 < k) :
    Calls Try.prog 41 #[.pointer (some ⟨rb, 0, none⟩), .agg #[.int .i64 k, .int .i64 n, .slice ad dl dc, .int .i64 z]] w (RDoPost w B rb q fv F (116, F.map (·.1))) := by
  obtain ⟨w1, hw1⟩ : ∃ w1, w1 = w.alloc (.cells #[.int .i64 k, .int .i64 n, .slice ad dl dc, .int .i64 z] 39) := ⟨_, rfl⟩
  have B1 : Below w.heap.size w w1 := by rw [hw1]; exact (Below.refl _ w).alloc (Nat.le_refl _) _
  have x1 : w1.heap[w.heap.size]? = some (.cells #[.int .i64 k, .int .i64 n, .slice ad dl dc, .int .i64 z] 39 (0, 0)) := by rw [hw1]; exact heap_alloc_new w _
  have HR := hideR h
  have HB1 := hideR B1
  have HX1 := hideR x1
  obtain ⟨c0, c1⟩ : w1.cell? ⟨w.heap.size, 0, none⟩ = some (.int .i64 k) ∧ w1.cell? ⟨w.heap.size, 1, none⟩ = some (.int .i64 n) := by simp [World.cell?, x1]
  have CP := hideR (place_any11 w1 B rb q fv F (h.later B1) n hF)
  clear h B1 x1
  have hk1 : ¬ k = 1 := by omega
  by_cases hk2 : k < 1
  · clear hk
    go_enter Try.func41, Try.ntmps41
    go_wp2_with (go_at_call 57
                 rw [← hw1]
                 refine CP.out.mono ?_
                 rintro e w2 ⟨rfl, b2⟩
                 obtain ⟨d0, d1⟩ : w2.cell? ⟨w.heap.size, 0, none⟩ = some (.int .i64 k) ∧ w2.cell? ⟨w.heap.size, 1, none⟩ = some (.int .i64 n) := by
                   have := (b2.block _ (Array.getElem?_eq_some_iff.1 HX1.out).1).trans HX1.out
                   simp [World.cell?, this]
                 have B2 := hideR (HB1.out.trans (b2.mono HB1.out.size))
                 clear b2)
    go_ret
    exact RDoPost.none HR.out B2.out
  · have hk3 : 5 < k := by omega
    clear hk
    go_enter Try.func41, Try.ntmps41
    go_wp2_with (go_at_call 57
                 rw [← hw1]
                 refine CP.out.mono ?_
                 rintro e w2 ⟨rfl, b2⟩
                 obtain ⟨d0, d1⟩ : w2.cell? ⟨w.heap.size, 0, none⟩ = some (.int .i64 k) ∧ w2.cell? ⟨w.heap.size, 1, none⟩ = some (.int .i64 n) := by
                   have := (b2.block _ (Array.getElem?_eq_some_iff.1 HX1.out).1).trans HX1.out
                   simp [World.cell?, this]
                 have B2 := hideR (HB1.out.trans (b2.mono HB1.out.size))
                 clear b2)
    go_ret
    exact RDoPost.none HR.out B2.out
set_option maxHeartbeats 4000000 in
set_option maxRecDepth 1000000 in
theorem rnone_any (w : World) (B rb : Nat) (q : Int) (fv : Value) (F : List (Fl × Value)) (h : RfAt w B rb q fv F) (hF : F.length ≤ 1073741823) (k n z : Int) (ad : Option Addr) (dl dc : Nat) (hk : 2 ≤ k ∧ k ≤ 5) (his : (plP (F.map (·.1)) n).2 = false) :
    Calls Try.prog 41 #[.pointer (some ⟨rb, 0, none⟩), .agg #[.int .i64 k, .int .i64 n, .slice ad dl dc, .int .i64 z]] w (RDoPost w B rb q fv F (113, F.map (·.1))) := by
  obtain ⟨w1, hw1⟩ : ∃ w1, w1 = w.alloc (.cells #[.int .i64 k, .int .i64 n, .slice ad dl dc, .int .i64 z] 39) := ⟨_, rfl⟩
  have B1 : Below w.heap.size w w1 := by rw [hw1]; exact (Below.refl _ w).alloc (Nat.le_refl _) _
  have x1 : w1.heap[w.heap.size]? = some (.cells #[.int .i64 k, .int .i64 n, .slice ad dl dc, .int .i64 z] 39 (0, 0)) := by rw [hw1]; exact heap_alloc_new w _
  have HR := hideR h
  have HB1 := hideR B1
  have HX1 := hideR x1
  obtain ⟨c0, c1⟩ : w1.cell? ⟨w.heap.size, 0, none⟩ = some (.int .i64 k) ∧ w1.cell? ⟨w.heap.size, 1, none⟩ = some (.int .i64 n) := by simp [World.cell?, x1]
  have CP := hideR (place_any11 w1 B rb q fv F (h.later B1) n hF)
  rw [his] at CP
  clear h B1 x1 his
  have hk1 : ¬ k = 1 := by omega
  have hk2 : ¬ k < 1 := by omega
  have hk3 : ¬ 5 < k := by omega
  clear hk
  go_enter Try.func41, Try.ntmps41
  go_wp2_with (go_at_call 57
               rw [← hw1]
               refine CP.out.mono ?_
               rintro e w2 ⟨rfl, b2⟩
               obtain ⟨d0, d1⟩ : w2.cell? ⟨w.heap.size, 0, none⟩ = some (.int .i64 k) ∧ w2.cell? ⟨w.heap.size, 1, none⟩ = some (.int .i64 n) := by
                 have := (b2.block _ (Array.getElem?_eq_some_iff.1 HX1.out).1).trans HX1.out
                 simp [World.cell?, this]
               have B2 := hideR (HB1.out.trans (b2.mono HB1.out.size))
               clear b2)
  go_ret
  exact RDoPost.none HR.out B2.out
set_option maxHeartbeats 4000000 in
set_option maxRecDepth 1000000 in
theorem rsync_any (w : World) (B rb : Nat) (q : Int) (fv : Value) (F : List (Fl × Value)) (h : RfAt w B rb q fv F) (hF : F.length ≤ 1073741823) (hR : Rising (F.map (·.1))) (n z : Int) (ad : Option Addr) (dl dc : Nat) (his : (plP (F.map (·.1)) n).2 = true) :
    Calls Try.prog 41 #[.pointer (some ⟨rb, 0, none⟩), .agg #[.int .i64 3, .int .i64 n, .slice ad dl dc, .int .i64 z]] w (RDoPost w B rb q fv F (actSync (F.map (·.1)) n)) := by
  obtain ⟨w1, hw1⟩ : ∃ w1, w1 = w.alloc (.cells #[.int .i64 3, .int .i64 n, .slice ad dl dc, .int .i64 z] 39) := ⟨_, rfl⟩
  have B1 : Below w.heap.size w w1 := by rw [hw1]; exact (Below.refl _ w).alloc (Nat.le_refl _) _
  have x1 : w1.heap[w.heap.size]? = some (.cells #[.int .i64 3, .int .i64 n, .slice ad dl dc, .int .i64 z] 39 (0, 0)) := by rw [hw1]; exact heap_alloc_new w _
  have HR := hideR h
  have HB1 := hideR B1
  have HX1 := hideR x1
  obtain ⟨c0, c1⟩ : w1.cell? ⟨w.heap.size, 0, none⟩ = some (.int .i64 3) ∧ w1.cell? ⟨w.heap.size, 1, none⟩ = some (.int .i64 n) := by simp [World.cell?, x1]
  have CP := hideR (place_any11 w1 B rb q fv F (h.later B1) n hF)
  obtain ⟨i, hi⟩ : ∃ i, i = (plP (F.map (·.1)) n).1 := ⟨_, rfl⟩
  obtain ⟨x, hx, hin, hl⟩ := place_is hR his
  have HA : HidR (actSync (F.map (·.1)) n = (0, (F.map (·.1)).set i ⟨x.1.num, x.1.data, x.1.data.length⟩)) := ⟨by
    rw [actSync, hl, hi]
    simp only [hin ⟨n, x.1.data, x.1.data.length⟩ rfl, (look_mem hl).2]⟩
  rw [← hi] at hx
  rw [← hi, his] at CP
  obtain ⟨fa, fc, efv⟩ := HR.out.form
  obtain ⟨N, hN⟩ : ∃ N, N = F.length := ⟨_, rfl⟩
  have hiN : (i : Int) < (N : Int) := by have := (List.getElem?_eq_some_iff.1 hx).1; omega
  rw [← hN] at efv hF
  have HN := hideR hN
  subst efv
  obtain ⟨g, c, ee, _, _, _, _⟩ := HR.out.at hx
  simp only [Value.slice.injEq] at ee
  obtain ⟨rfl, _, rfl⟩ := ee
  obtain ⟨da, dc2, ed, _⟩ := (HR.out.own x (List.mem_of_getElem? hx)).shape
  have HXX := hideR (And.intro hx ed)
  rename_i hq1
  clear h B1 x1 hi his hR hl hN hx hin ed hq1
  go_enter Try.func41, Try.ntmps41
  go_wp2_with (go_at_call 57
               rw [← hw1]
               refine CP.out.mono ?_
               rintro e w2 ⟨rfl, b2⟩
               obtain ⟨d0, d1⟩ : w2.cell? ⟨w.heap.size, 0, none⟩ = some (.int .i64 3) ∧ w2.cell? ⟨w.heap.size, 1, none⟩ = some (.int .i64 n) := by
                 have := (b2.block _ (Array.getElem?_eq_some_iff.1 HX1.out).1).trans HX1.out
                 simp [World.cell?, this]
               have B2 := hideR (HB1.out.trans (b2.mono HB1.out.size))
               have H2 := hideR (HR.out.later B2.out)
               have k0 := H2.out.cells.2.1
               obtain ⟨g2, c2, ee, _, m1, m2, fz⟩ := H2.out.at HXX.out.1
               simp only [Value.slice.injEq, Option.some.injEq, Addr.mk.injEq, and_true] at ee
               obtain ⟨rfl, qq⟩ := ee
               rw [HXX.out.2] at m1
               have f2 := fz (i * 3 + 2)
               have P2 := hideR (H2.out.put (i := i) (k := 2) (z := ((⟨x.1.num, x.1.data, x.1.data.length⟩ : Fl), x.2)) HXX.out.1 (v := .int .i64 (x.1.data.length : Int)) (by omega) rfl (H2.out.own x (List.mem_of_getElem? HXX.out.1)))
               clear qq fz
               clear b2)
  go_ret
  rw [HA.out]
  refine ⟨rfl, (Kept.ofBelow B2.out).trans (P2.out.2.mono (fun jj _ e => .inr (by rw [e]; rfl))), _, _, P2.out.1, ?_, fun _ e => .inl e, ?_⟩
  · rw [List.map_set]
  · intro p hp jj e
    obtain ⟨m, hm⟩ := List.getElem?_of_mem hp
    rcases set_keyR hm with ⟨_, rfl⟩ | ⟨_, hm⟩
    · exact .inl ⟨x, List.mem_of_getElem? HXX.out.1, e⟩
    · exact .inl ⟨p, List.mem_of_getElem? hm, e⟩
end Go.Proofs.Ytnpofjeiamjioaa
