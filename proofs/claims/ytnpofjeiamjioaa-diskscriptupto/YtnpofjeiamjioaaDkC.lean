/-
  The walk of crashes.
-/
import Derived.Test.YtnpofjeiamjioaaDkD
namespace Go.Proofs.Ytnpofjeiamjioaa
open Go.RowKit

def i64s (l : List Int) : List Value := l.map fun x => Value.int .i64 x
theorem i64s_length (l : List Int) : (i64s l).length = l.length := by simp [i64s]
theorem i64s_one (l : List Int) : ∀ v ∈ i64s l, v.oneCell' = true := by
  intro v hv; simp [i64s] at hv; obtain ⟨x, _, rfl⟩ := hv; rfl
theorem i64s_splice (l m : List Int) (o : Nat) : splice (i64s l) o (i64s m) = i64s (splice l o m) := by simp [splice, i64s, List.map_append]
theorem info_i64 : (Try.prog.info? 3).map (fun i => (i.zero, i.size, i.bytes)) = some (some (.int .i64 0), 1, 8) := by kernel_rfl
theorem made_i64 (w : World) (n : Nat) : (w.alloc (.cells (madeCells #[.int .i64 0] n) 3)).heap[w.heap.size]? = some (.cells (i64s (List.replicate n 0)).toArray 3 (0, 0)) := by
  refine (heap_alloc_new w _).trans ?_
  congr 2
  apply Array.ext'
  simp [madeCells, i64s, Nat.mod_one]
  apply List.ext_getElem
  · simp
  · intro i h1 h2; simp
theorem splice_ints (l : List Int) : splice (List.replicate (l.length + 2) (0 : Int)) 0 l = l ++ [0, 0] := by simp [splice]
theorem srcI {w : World} {a : Option Addr} {c : Nat} {l : List Int} (h : IsInts w a c l) (hl : 0 < l.length) : ∃ ad, a = some ad ∧ ∀ j v, (i64s l)[j]? = some v → w.cell? (ad.add j) = some v := by
  rcases h.2.2.2 with rfl | ⟨b, o, rfl, _, hc⟩
  · simp at hl
  · refine ⟨_, rfl, fun j v hj => ?_⟩
    unfold i64s at hj
    rw [List.getElem?_map] at hj
    obtain ⟨x, hx, rfl⟩ := Option.map_eq_some_iff.1 hj
    exact at_cell (hc j x hx)
theorem cell_i64 {w : World} {g j : Nat} {m : List Int} {x : Int} (h : w.heap[g]? = some (.cells (i64s m).toArray 3 (0, 0))) (hx : m[j]? = some x) : w.cell? ⟨g, j, none⟩ = some (.int .i64 x) := by
  have e : (i64s m)[j]? = some (.int .i64 x) := by unfold i64s; rw [List.getElem?_map, hx]; rfl
  simp [World.cell?, h]
  exact e
theorem row_ints {w : World} {g N : Nat} {l : List Int} (h : w.heap[g]? = some (.cells (i64s (l ++ [0, 0])).toArray 3 (0, 0))) (hb : ∀ x ∈ l, -9223372036854775808 ≤ x ∧ x ≤ 9223372036854775807) (hN : N = l.length) (hm : N + 2 ≤ maxLen := by unfold maxLen; omega) : IsInts w (some ⟨g, 0, none⟩) (N + 2) l := by
  refine ⟨by omega, hm, hb, .inr ⟨g, 0, rfl, (Array.getElem?_eq_some_iff.1 h).1, fun j x hj => ?_⟩⟩
  have : (l ++ [0, 0])[j]? = some x := by rw [List.getElem?_append_left (List.getElem?_eq_some_iff.1 hj).1]; exact hj
  rw [Nat.zero_add]
  exact cell_i64 h this
set_option linter.unusedSimpArgs false in
set_option maxHeartbeats 4000000 in
set_option maxRecDepth 1000000 in
theorem crashes_any (w : World) (B db mb : Nat) (q : Int) (L : List Fl) (vs : Int → Value) (rb : Nat) (fv : Value) (F : List (Fl × Value)) (h : Pr w B db mb q L vs rb fv F) (hB : B ≤ w.heap.size) (hl : L.length ≤ 1073741000) (ka : Option Addr) (kc : Nat) (keep : List Int) (hk : ∀ X, Below B w X → IsInts X ka kc keep) (hkb : ∀ b o, ka = some ⟨b, o, none⟩ → keep ≠ [] → b < B) (hkl : keep.length ≤ 1073741823) :
    Calls Try.prog 16 #[.agg #[.pointer (some ⟨db, 0, none⟩), .pointer (some ⟨rb, 0, none⟩)], .slice ka keep.length kc] w fun e w' => e = .returned (.bool true) ∧ PrP w B db mb q L vs rb fv F (crash keep L) w' := by
  have HP := hideR h
  have HK := hideR hk
  have HKB := hideR hkb
  obtain ⟨N, hN⟩ : ∃ N, N = keep.length := ⟨_, rfl⟩
  have HN := hideR hN
  obtain ⟨w1, hw1⟩ : ∃ w1, w1 = w.alloc (.cells #[.pointer (some ⟨db, 0, none⟩), .pointer (some ⟨rb, 0, none⟩)] 33) := ⟨_, rfl⟩
  have b1 : Below w.heap.size w w1 := by rw [hw1]; exact (Below.refl _ w).alloc (Nat.le_refl _) _
  have x1 : w1.heap[w.heap.size]? = some (.cells #[.pointer (some ⟨db, 0, none⟩), .pointer (some ⟨rb, 0, none⟩)] 33 (0, 0)) := by rw [hw1]; exact heap_alloc_new w _
  have z1 : w1.heap.size = w.heap.size + 1 := by rw [hw1]; simp
  have HB1 := hideR b1
  have HX1 := hideR x1
  have HZ1 := hideR z1
  obtain ⟨i8, hi8, hz0, hz1', hz2⟩ := info_parts info_i64
  have hsz : (Try.prog.info? 3).map (·.size) = some 1 := by kernel_rfl
  rw [← hN] at hkl ⊢
  have wN2 : IntKind.i64.wrap ((N : Int) + 2) = ((N + 2 : Nat) : Int) := by rw [IntKind.wrap_i64]; omega
  have HW1 := hideR hw1
  clear h hk hkb hN b1 x1 z1 hw1
  go_enter Try.func16, Try.ntmps16
  go_upto_region 2 with (rw [← HW1.out]
                         refine wpList_make_row _ rfl (.tmp 9) (.tmp 9) 40 rfl 3 i8 (.int .i64 0) Try.underlying40 hi8 hz0 hz1' rfl .i64 .i64 (N + 2) (by simp [Act.eval]) (by simp [Act.eval]) (by rw [hz2]; omega) (by omega) ?_)
  obtain ⟨w2, hw2⟩ : ∃ w2, w2 = w1.alloc (.cells (madeCells #[.int .i64 0] (N + 2)) 3) := ⟨_, rfl⟩
  rw [← hw2]
  have x2 : w2.heap[w1.heap.size]? = some (.cells (i64s (List.replicate (N + 2) 0)).toArray 3 (0, 0)) := by rw [hw2]; exact made_i64 w1 (N + 2)
  have b2 : Below w1.heap.size w1 w2 := by rw [hw2]; exact (Below.refl _ w1).alloc (Nat.le_refl _) _
  have HB2 := hideR b2
  have HX2 := hideR x2
  clear hw2 b2 x2
  go_upto_region 3 with (refine wpList_copy_splice rfl (.tmp 11) (.tmp 12) 40 40 rfl 3 Try.underlying40 hsz (some ⟨w1.heap.size, 0, none⟩) ka (N + 2) (N + 2) N kc rfl rfl w1.heap.size 0 (i64s (List.replicate (N + 2) 0)) 3 HX2.out (i64s keep) (by rw [i64s_length, ← HN.out]; exact (Nat.min_eq_left (by omega)).symm)
                           (fun h0 => ⟨rfl, srcI (HK.out w2 (((HB1.out.trans (HB2.out.mono HB1.out.size))).mono hB)) (by rw [i64s_length] at h0; exact h0)⟩) (by simp [i64s_length]; have := HN.out; omega) (i64s_one _) w1.heap.size w1 HB2.out (Nat.le_refl _) ?_
                         intro w3 h3 b3
                         have H3 : HidR (w3.heap[w1.heap.size]? = some (.cells (i64s (keep ++ [0, 0])).toArray 3 (0, 0))) := ⟨by
                           have := h3.out
                           rw [i64s_splice, HN.out, splice_ints] at this
                           exact this⟩
                         have HB3 := hideR b3
                         clear h3 b3)
  have hb3 := HB1.out.trans (HB3.out.mono HB1.out.size)
  have HBW3 := hideR hb3
  have y1 := (HB3.out.block _ (Array.getElem?_eq_some_iff.1 HX1.out).1).trans HX1.out
  have HY := hideR y1
  have P3 := hideR (HP.out.later hb3)
  have hzz := HZ1.out
  have ii3 : IsInts w3 (some ⟨w1.heap.size, 0, none⟩) (N + 2) keep := row_ints H3.out (HK.out w3 (hb3.mono hB)).2.2.1 HN.out
  have CC := hideR (crash_any w3.drew db mb q L vs (P3.out.dk.below (Below.refl _ w3).drew) (some ⟨w1.heap.size, 0, none⟩) (N + 2) keep (row_ints (show w3.drew.heap[w1.heap.size]? = _ from H3.out) (HK.out w3 (hb3.mono hB)).2.2.1 HN.out) (fun b o e _ e2 => by
    simp only [Option.some.injEq, Addr.mk.injEq, and_true] at e
    have := HP.out.dk.lt e2
    omega))
  rw [← HN.out] at CC
  have sq : (fun X : World => X.cell? ⟨w.heap.size, 0, none⟩ = some (.pointer (some ⟨db, 0, none⟩))) w3.drew := by show w3.cell? _ = _; simp [World.cell?, y1]
  have i0 : (0 : Int) ≤ (N : Int) := by omega
  have i1 : (N : Int) ≤ ((N + 2 : Nat) : Int) := by omega
  have i2 : (N : Int) ≤ (N : Int) + 2 := by omega
  clear y1 hb3 ii3
  refine wp_region_held_drew (S := fun X => X.cell? ⟨w.heap.size, 0, none⟩ = some (.pointer (some ⟨db, 0, none⟩))) (by kernel_rfl) sq (fun _ => ?_)
  refine H_take (i := 0) (v := .pointer (some ⟨w.heap.size, 0, none⟩)) (some 14) rfl rfl (by kernel_rfl) (by kernel_rfl) (by kernel_rfl) (fun _ _ _ h => h) rfl (fun X hX => ?_) sq ?_
  · go_simp
  simp only [Act.put, List.setIfInBounds_toArray, List.set_cons_zero, List.set_cons_succ]
  refine H_take (i := 1) (v := .pointer (some ⟨db, 0, none⟩)) (some 15) rfl rfl (by kernel_rfl) (by kernel_rfl) (by kernel_rfl) (fun _ _ _ h => h) rfl (fun X hX => ?_) sq ?_
  · simp [go_sem, hX]
  simp only [Act.put, List.setIfInBounds_toArray, List.set_cons_zero, List.set_cons_succ]
  refine H_take (i := 2) (v := .slice (some ⟨w1.heap.size, 0, none⟩) (N + 2) (N + 2)) (some 16) rfl rfl (by kernel_rfl) (by kernel_rfl) (by kernel_rfl) (fun _ _ _ h => h) rfl (fun X hX => ?_) sq ?_
  · go_simp
  simp only [Act.put, List.setIfInBounds_toArray, List.set_cons_zero, List.set_cons_succ]
  refine H_take (i := 3) (v := .slice ka N kc) (some 17) rfl rfl (by kernel_rfl) (by kernel_rfl) (by kernel_rfl) (fun _ _ _ h => h) rfl (fun X hX => ?_) sq ?_
  · go_simp
  simp only [Act.put, List.setIfInBounds_toArray, List.set_cons_zero, List.set_cons_succ]
  refine H_take (i := 4) (v := .int .i64 (N : Int)) (some 18) rfl rfl (by kernel_rfl) (by kernel_rfl) (by kernel_rfl) (fun _ _ _ h => h) rfl (fun X hX => ?_) sq ?_
  · go_simp
  simp only [Act.put, List.setIfInBounds_toArray, List.set_cons_zero, List.set_cons_succ]
  refine H_take (i := 5) (v := .slice (some ⟨w1.heap.size, 0, none⟩) N (N + 2)) (some 19) rfl rfl (by kernel_rfl) (by kernel_rfl) (by kernel_rfl) (fun _ _ _ h => h) rfl (fun X hX => ?_) sq ?_
  · simp [go_sem, i0, i1, i2]
  simp only [Act.put, List.setIfInBounds_toArray, List.set_cons_zero, List.set_cons_succ]
  refine wpAnyH_all (rs := [6]) (by kernel_rfl) (by decide) (fun jj hj => ?_)
  obtain rfl : jj = 6 := by simpa using hj
  refine op_call (f := 19) (args := #[.pointer (some ⟨db, 0, none⟩), .slice (some ⟨w1.heap.size, 0, none⟩) N (N + 2)]) rfl rfl (by simp [go_sem]) (CC.out.mono ?_)
  rintro e w5 ⟨rfl, vs', d5, t5'⟩
  have t5 : Turned w3 w5 db mb L vs (crash keep L) vs' := (Turned.ofBelow (Below.refl _ w3).drew).trans t5'
  have D5 := hideR d5
  have T5 := hideR t5
  have hz3 := HBW3.out.size
  have y1 := (t5.kept.block _ (Array.getElem?_eq_some_iff.1 HY.out).1 (fun e => by have := HP.out.dk.lt e; omega)).trans HY.out
  have sq5 : w5.cell? ⟨w.heap.size, 0, none⟩ = some (.pointer (some ⟨db, 0, none⟩)) := by simp [World.cell?, y1]
  have p1 : w5.cell? ⟨w.heap.size, 1, none⟩ = some (.pointer (some ⟨rb, 0, none⟩)) := by simp [World.cell?, y1]
  have H5 := hideR ((t5.kept.block _ (Array.getElem?_eq_some_iff.1 H3.out).1 (fun e => by have := HP.out.dk.lt e; omega)).trans H3.out)
  clear d5 t5 t5' y1
  refine ⟨_, rfl, sq5, ?_⟩
  refine wpAnyH_done (by kernel_rfl) ?_ _
  simp only [Act.put, List.setIfInBounds_toArray, List.set_cons_zero, List.set_cons_succ]
  have hBw : B ≤ w3.heap.size := by omega
  have pt := P3.out.turnD hBw T5.out
  have HPT := hideR pt
  have b5 : Below B w3 w5 := T5.out.kept.below hBw (fun j hj e => by have := HP.out.ge j (.inl e); omega)
  have HB5 := hideR ((HBW3.out.mono hB).trans b5)
  have CR := hideR (crash_any11 w5 B rb q fv F pt.1 (by have := HP.out.len; omega) (fun p hp => by
    have hm : p.1 ∈ L := by rw [← HP.out.eq]; exact List.mem_map_of_mem hp
    have h1 := len_le hm
    have h2 := HP.out.dk.right.fits
    have h3 := HP.out.dk.right.quota
    have h4 := (HP.out.dk.right.ok p.1 hm).1
    omega) ka kc keep (HK.out w5 HB5.out) (Nat.le_trans hBw T5.out.kept.size) (fun b o e hne e2 => by
    have := HKB.out b o e hne
    have := HP.out.ge b (.inr (.inr (.inl e2)))
    omega))
  rw [← HN.out, HP.out.eq] at CR
  have hz5 := T5.out.kept.size
  clear pt b5
  go_wp2_with (go_at_call 43
               refine CR.out.mono ?_
               rintro e w6 ⟨rfl, k6, F', r6, e6, n6⟩
               have R6 := hideR (And.intro r6 (And.intro e6 n6))
               have K6 := hideR k6
               clear r6 e6 n6 k6)
  have lt6 : ∀ j, RM rb fv F j → j < w.heap.size := fun j e => HP.out.rf.blt e
  have H6 := hideR ((K6.out.block _ (Array.getElem?_eq_some_iff.1 H5.out).1 (fun e => by have := lt6 _ (.inr (.inl e)); omega)).trans H5.out)
  have b6 : Below B w5 w6 := K6.out.below (by omega) (fun j hj e => by have := HP.out.ge j (.inr (.inr (.inl e))); omega)
  have HB6 := hideR (HB5.out.trans b6)
  have hz6 := K6.out.size
  clear b6 sq sq5 p1
  go_loopg [6] (N + 2) (fun gk s6 wr => ∃ (j m : Nat), s6 = .int .i64 (j : Int) ∧ N + 2 - j ≤ gk ∧ j ≤ N + 2 ∧ HidR (wr = w6.drewN m))
  case atStart => exact ⟨0, 0, rfl, by omega, by omega, ⟨rfl⟩⟩
  case round =>
    obtain ⟨j, m, rfl, hgk, hj, HM⟩ := hrel
    by_cases hlt : j < N + 2
    · have tlt : (j : Int) < (N : Int) + 2 := by omega
      have hcell : ∀ x, (keep ++ [0, 0])[j]? = some x → wr.cell? ⟨w1.heap.size, j, none⟩ = some (.int .i64 x) := fun x hx => by
        rw [HM.out]
        exact cell_i64 (w := w6) H6.out hx
      by_cases hjn : j < N
      · have tjn : (j : Int) < (N : Int) := by omega
        have tjg : ¬ (N : Int) ≤ (j : Int) := by omega
        obtain ⟨x, hx⟩ : ∃ x, keep[j]? = some x := ⟨_, List.getElem?_eq_getElem (by have := HN.out; omega)⟩
        have c1 := hcell x (by rw [List.getElem?_append_left (List.getElem?_eq_some_iff.1 hx).1]; exact hx)
        obtain ⟨kb, ko, ek, hc⟩ := (HK.out w6 HB6.out).cell hx
        have c2 : wr.cell? ⟨kb, ko + j, none⟩ = some (.int .i64 x) := by rw [HM.out]; exact hc
        subst ek
        have exx : (x != x) = false := by simp
        clear hcell hx hc
        go_upto_region 8 with fail
        have sq : (fun X : World => X.cell? ⟨w1.heap.size, j, none⟩ = some (.int .i64 x) ∧ X.cell? ⟨kb, ko + j, none⟩ = some (.int .i64 x)) wr.drew := ⟨c1, c2⟩
        refine wp_region_held_drew (S := fun X => X.cell? ⟨w1.heap.size, j, none⟩ = some (.int .i64 x) ∧ X.cell? ⟨kb, ko + j, none⟩ = some (.int .i64 x)) (by kernel_rfl) sq (fun _ => ?_)
        refine H_take (i := 0) (v := .int .i64 (j : Int)) (some 31) rfl rfl (by kernel_rfl) (by kernel_rfl) (by kernel_rfl) (fun _ _ _ h => h) rfl (fun X hX => ?_) sq ?_
        · go_simp
        simp only [Act.put, List.setIfInBounds_toArray, List.set_cons_zero, List.set_cons_succ]
        refine H_take (i := 1) (v := .slice (some ⟨kb, ko, none⟩) N kc) (some 32) rfl rfl (by kernel_rfl) (by kernel_rfl) (by kernel_rfl) (fun _ _ _ h => h) rfl (fun X hX => ?_) sq ?_
        · go_simp
        simp only [Act.put, List.setIfInBounds_toArray, List.set_cons_zero, List.set_cons_succ]
        refine H_take (i := 2) (v := .int .i64 (N : Int)) (some 33) rfl rfl (by kernel_rfl) (by kernel_rfl) (by kernel_rfl) (fun _ _ _ h => h) rfl (fun X hX => ?_) sq ?_
        · go_simp
        simp only [Act.put, List.setIfInBounds_toArray, List.set_cons_zero, List.set_cons_succ]
        refine H_take (i := 3) (v := .bool true) (some 34) rfl rfl (by kernel_rfl) (by kernel_rfl) (by kernel_rfl) (fun _ _ _ h => h) rfl (fun X hX => ?_) sq ?_
        · simp [go_sem, tjn]
        simp only [Act.put, List.setIfInBounds_toArray, List.set_cons_zero, List.set_cons_succ]
        refine H_take (i := 4) (v := .bool true) (some 35) rfl rfl (by kernel_rfl) (by kernel_rfl) (by kernel_rfl) (fun _ _ _ h => h) rfl (fun X hX => ?_) sq ?_
        · go_simp
        simp only [Act.put, List.setIfInBounds_toArray, List.set_cons_zero, List.set_cons_succ]
        refine H_take (i := 5) (v := .slice (some ⟨w1.heap.size, 0, none⟩) (N + 2) (N + 2)) (some 36) rfl rfl (by kernel_rfl) (by kernel_rfl) (by kernel_rfl) (fun _ _ _ h => h) rfl (fun X hX => ?_) sq ?_
        · go_simp
        simp only [Act.put, List.setIfInBounds_toArray, List.set_cons_zero, List.set_cons_succ]
        refine H_take (i := 6) (v := .int .i64 (j : Int)) (some 37) rfl rfl (by kernel_rfl) (by kernel_rfl) (by kernel_rfl) (fun _ _ _ h => h) rfl (fun X hX => ?_) sq ?_
        · go_simp
        simp only [Act.put, List.setIfInBounds_toArray, List.set_cons_zero, List.set_cons_succ]
        refine H_take (i := 7) (v := .pointer (some ⟨w1.heap.size, j, none⟩)) (some 38) rfl rfl (by kernel_rfl) (by kernel_rfl) (by kernel_rfl) (fun _ _ _ h => h) rfl (fun X hX => ?_) sq ?_
        · simp [go_sem, tlt]
        simp only [Act.put, List.setIfInBounds_toArray, List.set_cons_zero, List.set_cons_succ]
        refine H_take (i := 8) (v := .int .i64 x) (some 39) rfl rfl (by kernel_rfl) (by kernel_rfl) (by kernel_rfl) (fun _ _ _ h => h) rfl (fun X hX => ?_) sq ?_
        · simp [go_sem, hX.1]
        simp only [Act.put, List.setIfInBounds_toArray, List.set_cons_zero, List.set_cons_succ]
        refine H_take (i := 9) (v := .slice (some ⟨kb, ko, none⟩) N kc) (some 40) rfl rfl (by kernel_rfl) (by kernel_rfl) (by kernel_rfl) (fun _ _ _ h => h) rfl (fun X hX => ?_) sq ?_
        · go_simp
        simp only [Act.put, List.setIfInBounds_toArray, List.set_cons_zero, List.set_cons_succ]
        refine H_take (i := 10) (v := .int .i64 (j : Int)) (some 41) rfl rfl (by kernel_rfl) (by kernel_rfl) (by kernel_rfl) (fun _ _ _ h => h) rfl (fun X hX => ?_) sq ?_
        · go_simp
        simp only [Act.put, List.setIfInBounds_toArray, List.set_cons_zero, List.set_cons_succ]
        refine H_take (i := 11) (v := .pointer (some ⟨kb, ko + j, none⟩)) (some 42) rfl rfl (by kernel_rfl) (by kernel_rfl) (by kernel_rfl) (fun _ _ _ h => h) rfl (fun X hX => ?_) sq ?_
        · simp [go_sem, tjn]
        simp only [Act.put, List.setIfInBounds_toArray, List.set_cons_zero, List.set_cons_succ]
        refine H_take (i := 12) (v := .int .i64 x) (some 43) rfl rfl (by kernel_rfl) (by kernel_rfl) (by kernel_rfl) (fun _ _ _ h => h) rfl (fun X hX => ?_) sq ?_
        · simp [go_sem, hX.2]
        simp only [Act.put, List.setIfInBounds_toArray, List.set_cons_zero, List.set_cons_succ]
        refine H_take (i := 13) (v := .bool false) (some 44) rfl rfl (by kernel_rfl) (by kernel_rfl) (by kernel_rfl) (fun _ _ _ h => h) rfl (fun X hX => ?_) sq ?_
        · simp [go_sem]
        simp only [Act.put, List.setIfInBounds_toArray, List.set_cons_zero, List.set_cons_succ]
        refine H_take (i := 14) (v := .bool false) (some 45) rfl rfl (by kernel_rfl) (by kernel_rfl) (by kernel_rfl) (fun _ _ _ h => h) rfl (fun X hX => ?_) sq ?_
        · go_simp
        simp only [Act.put, List.setIfInBounds_toArray, List.set_cons_zero, List.set_cons_succ]
        refine H_take (i := 15) (v := .bool false) (some 46) rfl rfl (by kernel_rfl) (by kernel_rfl) (by kernel_rfl) (fun _ _ _ h => h) rfl (fun X hX => ?_) sq ?_
        · go_simp
        simp only [Act.put, List.setIfInBounds_toArray, List.set_cons_zero, List.set_cons_succ]
        refine H_take (i := 16) (v := .int .i64 (j : Int)) (some 47) rfl rfl (by kernel_rfl) (by kernel_rfl) (by kernel_rfl) (fun _ _ _ h => h) rfl (fun X hX => ?_) sq ?_
        · go_simp
        simp only [Act.put, List.setIfInBounds_toArray, List.set_cons_zero, List.set_cons_succ]
        refine H_take (i := 17) (v := .slice (some ⟨kb, ko, none⟩) N kc) (some 48) rfl rfl (by kernel_rfl) (by kernel_rfl) (by kernel_rfl) (fun _ _ _ h => h) rfl (fun X hX => ?_) sq ?_
        · go_simp
        simp only [Act.put, List.setIfInBounds_toArray, List.set_cons_zero, List.set_cons_succ]
        refine H_take (i := 18) (v := .int .i64 (N : Int)) (some 49) rfl rfl (by kernel_rfl) (by kernel_rfl) (by kernel_rfl) (fun _ _ _ h => h) rfl (fun X hX => ?_) sq ?_
        · go_simp
        simp only [Act.put, List.setIfInBounds_toArray, List.set_cons_zero, List.set_cons_succ]
        refine H_take (i := 19) (v := .bool false) (some 50) rfl rfl (by kernel_rfl) (by kernel_rfl) (by kernel_rfl) (fun _ _ _ h => h) rfl (fun X hX => ?_) sq ?_
        · simp [go_sem, tjg]
        simp only [Act.put, List.setIfInBounds_toArray, List.set_cons_zero, List.set_cons_succ]
        refine H_take (i := 20) (v := .bool false) (some 51) rfl rfl (by kernel_rfl) (by kernel_rfl) (by kernel_rfl) (fun _ _ _ h => h) rfl (fun X hX => ?_) sq ?_
        · go_simp
        simp only [Act.put, List.setIfInBounds_toArray, List.set_cons_zero, List.set_cons_succ]
        refine H_pass (i := 21) (some 52) rfl rfl (by kernel_rfl) (by kernel_rfl) (by kernel_rfl) (fun _ _ _ h => h) rfl sq ?_
        simp only [Act.put, List.setIfInBounds_toArray, List.set_cons_zero, List.set_cons_succ]
        refine H_pass (i := 22) (some 53) rfl rfl (by kernel_rfl) (by kernel_rfl) (by kernel_rfl) (fun _ _ _ h => h) rfl sq ?_
        simp only [Act.put, List.setIfInBounds_toArray, List.set_cons_zero, List.set_cons_succ]
        refine H_pass (i := 23) (some 54) rfl rfl (by kernel_rfl) (by kernel_rfl) (by kernel_rfl) (fun _ _ _ h => h) rfl sq ?_
        simp only [Act.put, List.setIfInBounds_toArray, List.set_cons_zero, List.set_cons_succ]
        refine H_pass (i := 24) (some 55) rfl rfl (by kernel_rfl) (by kernel_rfl) (by kernel_rfl) (fun _ _ _ h => h) rfl sq ?_
        simp only [Act.put, List.setIfInBounds_toArray, List.set_cons_zero, List.set_cons_succ]
        refine H_pass (i := 25) (some 56) rfl rfl (by kernel_rfl) (by kernel_rfl) (by kernel_rfl) (fun _ _ _ h => h) rfl sq ?_
        simp only [Act.put, List.setIfInBounds_toArray, List.set_cons_zero, List.set_cons_succ]
        refine H_take (i := 26) (v := .bool false) (some 57) rfl rfl (by kernel_rfl) (by kernel_rfl) (by kernel_rfl) (fun _ _ _ h => h) rfl (fun X hX => ?_) sq ?_
        · go_simp
        simp only [Act.put, List.setIfInBounds_toArray, List.set_cons_zero, List.set_cons_succ]
        refine H_take (i := 27) (v := .bool false) (some 58) rfl rfl (by kernel_rfl) (by kernel_rfl) (by kernel_rfl) (fun _ _ _ h => h) rfl (fun X hX => ?_) sq ?_
        · go_simp
        simp only [Act.put, List.setIfInBounds_toArray, List.set_cons_zero, List.set_cons_succ]
        refine wpAnyH_done (by kernel_rfl) ?_ _
        go_wp2_with fail
        go_roundg (N + 2 - (j + 1))
        case measure => omega
        case rel => exact ⟨j + 1, m + 1, by go_num, Nat.le_refl _, hlt, ⟨by rw [HM.out]; rfl⟩⟩
      · have tjn : ¬ (j : Int) < (N : Int) := by omega
        have tjg : (N : Int) ≤ (j : Int) := by omega
        have c1 := hcell 0 (by
          rw [List.getElem?_append_right (by have := HN.out; omega)]
          have h1 := HN.out
          rcases (show j - keep.length = 0 ∨ j - keep.length = 1 by omega) with e | e <;> rw [e] <;> rfl)
        clear hcell
        go_upto_region 8 with fail
        have sq : (fun X : World => X.cell? ⟨w1.heap.size, j, none⟩ = some (.int .i64 0)) wr.drew := c1
        refine wp_region_held_drew (S := fun X => X.cell? ⟨w1.heap.size, j, none⟩ = some (.int .i64 0)) (by kernel_rfl) sq (fun _ => ?_)
        refine H_take (i := 0) (v := .int .i64 (j : Int)) (some 31) rfl rfl (by kernel_rfl) (by kernel_rfl) (by kernel_rfl) (fun _ _ _ h => h) rfl (fun X hX => ?_) sq ?_
        · go_simp
        simp only [Act.put, List.setIfInBounds_toArray, List.set_cons_zero, List.set_cons_succ]
        refine H_take (i := 1) (v := .slice ka N kc) (some 32) rfl rfl (by kernel_rfl) (by kernel_rfl) (by kernel_rfl) (fun _ _ _ h => h) rfl (fun X hX => ?_) sq ?_
        · go_simp
        simp only [Act.put, List.setIfInBounds_toArray, List.set_cons_zero, List.set_cons_succ]
        refine H_take (i := 2) (v := .int .i64 (N : Int)) (some 33) rfl rfl (by kernel_rfl) (by kernel_rfl) (by kernel_rfl) (fun _ _ _ h => h) rfl (fun X hX => ?_) sq ?_
        · go_simp
        simp only [Act.put, List.setIfInBounds_toArray, List.set_cons_zero, List.set_cons_succ]
        refine H_take (i := 3) (v := .bool false) (some 34) rfl rfl (by kernel_rfl) (by kernel_rfl) (by kernel_rfl) (fun _ _ _ h => h) rfl (fun X hX => ?_) sq ?_
        · simp [go_sem, tjn]
        simp only [Act.put, List.setIfInBounds_toArray, List.set_cons_zero, List.set_cons_succ]
        refine H_take (i := 4) (v := .bool false) (some 35) rfl rfl (by kernel_rfl) (by kernel_rfl) (by kernel_rfl) (fun _ _ _ h => h) rfl (fun X hX => ?_) sq ?_
        · go_simp
        simp only [Act.put, List.setIfInBounds_toArray, List.set_cons_zero, List.set_cons_succ]
        refine H_pass (i := 5) (some 36) rfl rfl (by kernel_rfl) (by kernel_rfl) (by kernel_rfl) (fun _ _ _ h => h) rfl sq ?_
        simp only [Act.put, List.setIfInBounds_toArray, List.set_cons_zero, List.set_cons_succ]
        refine H_pass (i := 6) (some 37) rfl rfl (by kernel_rfl) (by kernel_rfl) (by kernel_rfl) (fun _ _ _ h => h) rfl sq ?_
        simp only [Act.put, List.setIfInBounds_toArray, List.set_cons_zero, List.set_cons_succ]
        refine H_pass (i := 7) (some 38) rfl rfl (by kernel_rfl) (by kernel_rfl) (by kernel_rfl) (fun _ _ _ h => h) rfl sq ?_
        simp only [Act.put, List.setIfInBounds_toArray, List.set_cons_zero, List.set_cons_succ]
        refine H_pass (i := 8) (some 39) rfl rfl (by kernel_rfl) (by kernel_rfl) (by kernel_rfl) (fun _ _ _ h => h) rfl sq ?_
        simp only [Act.put, List.setIfInBounds_toArray, List.set_cons_zero, List.set_cons_succ]
        refine H_pass (i := 9) (some 40) rfl rfl (by kernel_rfl) (by kernel_rfl) (by kernel_rfl) (fun _ _ _ h => h) rfl sq ?_
        simp only [Act.put, List.setIfInBounds_toArray, List.set_cons_zero, List.set_cons_succ]
        refine H_pass (i := 10) (some 41) rfl rfl (by kernel_rfl) (by kernel_rfl) (by kernel_rfl) (fun _ _ _ h => h) rfl sq ?_
        simp only [Act.put, List.setIfInBounds_toArray, List.set_cons_zero, List.set_cons_succ]
        refine H_pass (i := 11) (some 42) rfl rfl (by kernel_rfl) (by kernel_rfl) (by kernel_rfl) (fun _ _ _ h => h) rfl sq ?_
        simp only [Act.put, List.setIfInBounds_toArray, List.set_cons_zero, List.set_cons_succ]
        refine H_pass (i := 12) (some 43) rfl rfl (by kernel_rfl) (by kernel_rfl) (by kernel_rfl) (fun _ _ _ h => h) rfl sq ?_
        simp only [Act.put, List.setIfInBounds_toArray, List.set_cons_zero, List.set_cons_succ]
        refine H_pass (i := 13) (some 44) rfl rfl (by kernel_rfl) (by kernel_rfl) (by kernel_rfl) (fun _ _ _ h => h) rfl sq ?_
        simp only [Act.put, List.setIfInBounds_toArray, List.set_cons_zero, List.set_cons_succ]
        refine H_take (i := 14) (v := .bool false) (some 45) rfl rfl (by kernel_rfl) (by kernel_rfl) (by kernel_rfl) (fun _ _ _ h => h) rfl (fun X hX => ?_) sq ?_
        · go_simp
        simp only [Act.put, List.setIfInBounds_toArray, List.set_cons_zero, List.set_cons_succ]
        refine H_take (i := 15) (v := .bool false) (some 46) rfl rfl (by kernel_rfl) (by kernel_rfl) (by kernel_rfl) (fun _ _ _ h => h) rfl (fun X hX => ?_) sq ?_
        · go_simp
        simp only [Act.put, List.setIfInBounds_toArray, List.set_cons_zero, List.set_cons_succ]
        refine H_take (i := 16) (v := .int .i64 (j : Int)) (some 47) rfl rfl (by kernel_rfl) (by kernel_rfl) (by kernel_rfl) (fun _ _ _ h => h) rfl (fun X hX => ?_) sq ?_
        · go_simp
        simp only [Act.put, List.setIfInBounds_toArray, List.set_cons_zero, List.set_cons_succ]
        refine H_take (i := 17) (v := .slice ka N kc) (some 48) rfl rfl (by kernel_rfl) (by kernel_rfl) (by kernel_rfl) (fun _ _ _ h => h) rfl (fun X hX => ?_) sq ?_
        · go_simp
        simp only [Act.put, List.setIfInBounds_toArray, List.set_cons_zero, List.set_cons_succ]
        refine H_take (i := 18) (v := .int .i64 (N : Int)) (some 49) rfl rfl (by kernel_rfl) (by kernel_rfl) (by kernel_rfl) (fun _ _ _ h => h) rfl (fun X hX => ?_) sq ?_
        · go_simp
        simp only [Act.put, List.setIfInBounds_toArray, List.set_cons_zero, List.set_cons_succ]
        refine H_take (i := 19) (v := .bool true) (some 50) rfl rfl (by kernel_rfl) (by kernel_rfl) (by kernel_rfl) (fun _ _ _ h => h) rfl (fun X hX => ?_) sq ?_
        · simp [go_sem, tjg]
        simp only [Act.put, List.setIfInBounds_toArray, List.set_cons_zero, List.set_cons_succ]
        refine H_take (i := 20) (v := .bool true) (some 51) rfl rfl (by kernel_rfl) (by kernel_rfl) (by kernel_rfl) (fun _ _ _ h => h) rfl (fun X hX => ?_) sq ?_
        · go_simp
        simp only [Act.put, List.setIfInBounds_toArray, List.set_cons_zero, List.set_cons_succ]
        refine H_take (i := 21) (v := .slice (some ⟨w1.heap.size, 0, none⟩) (N + 2) (N + 2)) (some 52) rfl rfl (by kernel_rfl) (by kernel_rfl) (by kernel_rfl) (fun _ _ _ h => h) rfl (fun X hX => ?_) sq ?_
        · go_simp
        simp only [Act.put, List.setIfInBounds_toArray, List.set_cons_zero, List.set_cons_succ]
        refine H_take (i := 22) (v := .int .i64 (j : Int)) (some 53) rfl rfl (by kernel_rfl) (by kernel_rfl) (by kernel_rfl) (fun _ _ _ h => h) rfl (fun X hX => ?_) sq ?_
        · go_simp
        simp only [Act.put, List.setIfInBounds_toArray, List.set_cons_zero, List.set_cons_succ]
        refine H_take (i := 23) (v := .pointer (some ⟨w1.heap.size, j, none⟩)) (some 54) rfl rfl (by kernel_rfl) (by kernel_rfl) (by kernel_rfl) (fun _ _ _ h => h) rfl (fun X hX => ?_) sq ?_
        · simp [go_sem, tlt]
        simp only [Act.put, List.setIfInBounds_toArray, List.set_cons_zero, List.set_cons_succ]
        refine H_take (i := 24) (v := .int .i64 0) (some 55) rfl rfl (by kernel_rfl) (by kernel_rfl) (by kernel_rfl) (fun _ _ _ h => h) rfl (fun X hX => ?_) sq ?_
        · simp [go_sem, hX]
        simp only [Act.put, List.setIfInBounds_toArray, List.set_cons_zero, List.set_cons_succ]
        refine H_take (i := 25) (v := .bool false) (some 56) rfl rfl (by kernel_rfl) (by kernel_rfl) (by kernel_rfl) (fun _ _ _ h => h) rfl (fun X hX => ?_) sq ?_
        · simp [go_sem]
        simp only [Act.put, List.setIfInBounds_toArray, List.set_cons_zero, List.set_cons_succ]
        refine H_take (i := 26) (v := .bool false) (some 57) rfl rfl (by kernel_rfl) (by kernel_rfl) (by kernel_rfl) (fun _ _ _ h => h) rfl (fun X hX => ?_) sq ?_
        · go_simp
        simp only [Act.put, List.setIfInBounds_toArray, List.set_cons_zero, List.set_cons_succ]
        refine H_take (i := 27) (v := .bool false) (some 58) rfl rfl (by kernel_rfl) (by kernel_rfl) (by kernel_rfl) (fun _ _ _ h => h) rfl (fun X hX => ?_) sq ?_
        · go_simp
        simp only [Act.put, List.setIfInBounds_toArray, List.set_cons_zero, List.set_cons_succ]
        refine wpAnyH_done (by kernel_rfl) ?_ _
        go_wp2_with fail
        go_roundg (N + 2 - (j + 1))
        case measure => omega
        case rel => exact ⟨j + 1, m + 1, by go_num, Nat.le_refl _, hlt, ⟨by rw [HM.out]; rfl⟩⟩
    · have tlt : ¬ (j : Int) < (N : Int) + 2 := by omega
      go_wp2_with fail
      go_ret
      obtain ⟨r6, e6, n6⟩ := R6.out
      have bm : Below w6.heap.size w6 wr := by rw [HM.out]; exact below_drewN (Below.refl _ w6) m
      have d6 : DiskAt w6 db mb q (crash keep L) vs' := D5.out.kept K6.out (fun j e e2 => HPT.out.2.1 j e (.inr (.inl e2)))
      have hz3 := HBW3.out.size
      have pm : ∀ j, PM db mb (crash keep L) vs' rb fv F' j → PM db mb L vs rb fv F j ∨ w.heap.size ≤ j := fun j e => by
        rcases e with e | e | e | ⟨p, hp, e⟩
        · rcases T5.out.mine j e with e | e
          · exact .inl (.inl e)
          · exact .inr (by omega)
        · exact .inl (.inr (.inl e))
        · exact .inl (.inr (.inr (.inl e)))
        · rcases n6 p hp j e with ⟨p', hp', e⟩ | e
          · exact .inl (.inr (.inr (.inr ⟨p', hp', e⟩)))
          · exact .inr (by omega)
      have pr6 : Pr w6 B db mb q (crash keep L) vs' rb fv F' := ⟨d6, r6, e6, fun j e e2 => by
        have hj5 := D5.out.lt e
        rcases e2 with e2 | e2 | ⟨p, hp, e2⟩
        · exact HPT.out.2.1 j e (.inl e2)
        · exact HPT.out.2.1 j e (.inr (.inl e2))
        · rcases n6 p hp j e2 with ⟨p', hp', e2⟩ | e2
          · exact HPT.out.2.1 j e (.inr (.inr ⟨p', hp', e2⟩))
          · omega, fun j e => by
        rcases pm j e with e | e
        · exact HP.out.ge j e
        · omega⟩
      exact ⟨rfl, (((Kept.ofBelow HBW3.out).trans (T5.out.kept.mono (fun j _ e => .inl e))).trans (K6.out.mono (fun j _ e => .inr (.inr (.inl e))))).trans (Kept.ofBelow bm), vs', fv, F', pr6.later bm, pm⟩
end Go.Proofs.Ytnpofjeiamjioaa
