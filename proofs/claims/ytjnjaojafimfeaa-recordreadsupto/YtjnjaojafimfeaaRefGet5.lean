/-
  RefGet4, RefGet5.
-/
import Derived.Test.YtjnjaojafimfeaaRefGet3
import Derived.Test.YtjnjaojafimfeaaGetAny
namespace Go.Proofs.Ytjnjaojafimfeaa
open Go.RowKit

theorem manyL (k : Int) (h : 1 ≤ k ∧ k ≤ 4) : (if k = 1 then (2 : Int) else if k = 2 then 13 else if k = 3 then 11 else 1) = ((fieldsL k).length : Int) := by
  have : k = 1 ∨ k = 2 ∨ k = 3 ∨ k = 4 := by omega
  rcases this with rfl | rfl | rfl | rfl <;> rfl
set_option maxHeartbeats 1000000 in
set_option maxRecDepth 1000000 in
theorem refget_empty (a : Option Addr) (c : Nat) (w : World) :
    Calls Try.prog 23 #[.slice a 0 c] w fun e w' => Below w.heap.size w w' ∧ e = .returned (getV zeroR (.slice none 0 0) 102) := by
  go_enter Try.func23, Try.ntmps23
  go_wp2_with (refine wpList_store_row rfl 34 (.tmp 2) (.tmp 25) rfl w.heap.size (recA zeroR (.slice none 0 0)) rfl rfl 34 (recA zeroR (.slice none 0 0)) (heap_alloc_last _ _) info_rec rfl (rec_one _ _ _ _) ?_)
  refine bodyPost_ret (results_ct_row rfl _ _ w.heap.size 34 _ (0, 0) _ rfl (setRow_heap _ _ _ _ _ _ (heap_alloc_last _ _)) under_rec rfl info_rec) rfl ?_
  exact ⟨below_setRow ((Below.refl _ w).alloc (Nat.le_refl _) _) (Nat.le_refl _), rfl⟩
set_option maxHeartbeats 1000000 in
set_option maxRecDepth 1000000 in
theorem refget_kindless (g o c : Nat) (x : UInt8) (l : List UInt8) (w : World) (hb : IsBytes w (some ⟨g, o, none⟩) c (x :: l)) (hx : x.toNat < 1 ∨ 4 < x.toNat) :
    Calls Try.prog 23 #[.slice (some ⟨g, o, none⟩) (l.length + 1) c] w fun e w' => Below w.heap.size w w' ∧ e = .returned (getV zeroR (.slice none 0 0) 102) := by
  have hc0 : w.cell? ⟨g, o, none⟩ = some (.int .u8 (x.toNat : Int)) := hb.cell 0 x rfl
  have hg : g < w.heap.size := by have := cell_lt hc0; simpa using this
  have hne : ((l.length : Int) + 1 == 0) = false := by simp; omega
  clear hb
  rcases hx with hx | hx
  · have hx1 : (x.toNat : Int) < 1 := by omega
    clear hx
    go_enter Try.func23, Try.ntmps23
    go_wp2_with (refine wpList_store_row rfl 34 (.tmp 2) (.tmp 25) rfl w.heap.size (recA zeroR (.slice none 0 0)) rfl rfl 34 (recA zeroR (.slice none 0 0)) (heap_alloc_last _ _) info_rec rfl (rec_one _ _ _ _) ?_)
    refine bodyPost_ret (results_ct_row rfl _ _ w.heap.size 34 _ (0, 0) _ rfl (setRow_heap _ _ _ _ _ _ (heap_alloc_last _ _)) under_rec rfl info_rec) rfl ?_
    exact ⟨below_setRow ((Below.refl _ w).alloc (Nat.le_refl _) _) (Nat.le_refl _), rfl⟩
  · have hx1 : ¬ (x.toNat : Int) < 1 := by omega
    have hx4 : (4 : Int) < (x.toNat : Int) := by omega
    clear hx
    go_enter Try.func23, Try.ntmps23
    go_wp2_with (refine wpList_store_row rfl 34 (.tmp 2) (.tmp 25) rfl w.heap.size (recA zeroR (.slice none 0 0)) rfl rfl 34 (recA zeroR (.slice none 0 0)) (heap_alloc_last _ _) info_rec rfl (rec_one _ _ _ _) ?_)
    refine bodyPost_ret (results_ct_row rfl _ _ w.heap.size 34 _ (0, 0) _ rfl (setRow_heap _ _ _ _ _ _ (heap_alloc_last _ _)) under_rec rfl info_rec) rfl ?_
    exact ⟨below_setRow ((Below.refl _ w).alloc (Nat.le_refl _) _) (Nat.le_refl _), rfl⟩
set_option maxHeartbeats 1000000 in
set_option maxRecDepth 1000000 in
theorem refget_numless (g o c : Nat) (x : UInt8) (l : List UInt8) (w : World) (hb : IsBytes w (some ⟨g, o, none⟩) c (x :: l)) (hx : 1 ≤ x.toNat ∧ x.toNat ≤ 4) (hn : ∃ j, j < (fieldsL (x.toNat : Int)).length ∧ numO l j = none) :
    Calls Try.prog 23 #[.slice (some ⟨g, o, none⟩) (l.length + 1) c] w fun e w' => Below w.heap.size w w' ∧ e = .returned (getV zeroR (.slice none 0 0) 102) := by
  have hc0 : w.cell? ⟨g, o, none⟩ = some (.int .u8 (x.toNat : Int)) := hb.cell 0 x rfl
  have hg : g < w.heap.size := by have := cell_lt hc0; simpa using this
  have hne : ((l.length : Int) + 1 == 0) = false := by simp; omega
  have hx1 : ¬ (x.toNat : Int) < 1 := by omega
  have hx4 : ¬ (4 : Int) < (x.toNat : Int) := by omega
  have hx64 : wrap64 (x.toNat : Int) = (x.toNat : Int) := wrap64_u8 x
  obtain ⟨M, hM⟩ : ∃ M, M = (fieldsL (x.toNat : Int)).length := ⟨_, rfl⟩
  have hM13 : M ≤ 13 := by rw [hM]; exact fields_len _
  have CM : Hid (∀ W, Calls Try.prog 42 #[.int .i64 (x.toNat : Int)] W fun e w' => e = .returned (.int .i64 (M : Int)) ∧ w' = W) := fun W => by
    have := many_any (x.toNat : Int) W
    rw [manyL (x.toNat : Int) (by omega), ← hM] at this
    exact this
  rw [← hM] at hn
  have CN : Hid (∀ W, Below w.heap.size w W → Calls Try.prog 43 #[.slice (some ⟨g, o, none⟩) (l.length + 1) c, .int .i64 (M : Int)] W fun e w' => e = .returned (.tuple #[.slice none 0 0, .bool false]) ∧ Below W.heap.size W w') := fun W hW => by
    refine (numbers_get g o c x l M W (hb.below hW) hM13).mono ?_
    rintro e w' ⟨hB, ⟨_, rfl⟩ | ⟨L, v, hL, hall, rfl, _⟩⟩
    · exact ⟨rfl, hB⟩
    · obtain ⟨j, hj, hjn⟩ := hn
      obtain ⟨y, hy⟩ : ∃ y, L[j]? = some y := ⟨_, List.getElem?_eq_getElem (by omega)⟩
      rw [hall j y hy] at hjn
      cases hjn
  obtain ⟨C, hC⟩ : ∃ C, recA ⟨(x.toNat : Int), fun _ => 0, []⟩ (.slice none 0 0) = C := ⟨_, rfl⟩
  have HC1 : Hid (C.all (·.oneCell') = true ∧ C.size = 19) := ⟨by rw [← hC]; exact rec_one _ _ _ _, by rw [← hC]; rfl⟩
  obtain ⟨w1, hw1⟩ : ∃ w1, w1 = (w.alloc (.cells #[.int .i64 0, .int .i64 0, .int .i64 0, .int .i64 0, .int .i64 0, .int .i64 0, .int .i64 0, .int .i64 0, .int .i64 0, .int .i64 0, .int .i64 0, .int .i64 0, .int .i64 0, .int .i64 0, .int .i64 0, .int .i64 0, .int .i64 0, .string ⟨#[]⟩, .slice none 0 0] 34)).alloc (.cells C 34) := ⟨_, rfl⟩
  have R1 : Hid (RecAt w1 w.heap.size zeroR (.slice none 0 0) ∧ Below w.heap.size w w1) := ⟨by rw [hw1]; exact heap_alloc2_old w _ _, by rw [hw1]; exact ((Below.refl _ w).alloc (Nat.le_refl _) _).alloc (by simp) _⟩
  have x0 : w1.cell? ⟨w.heap.size + 1, 0, none⟩ = some (.int .i64 (x.toNat : Int)) := by
    have : RecAt w1 (w.heap.size + 1) ⟨(x.toNat : Int), fun _ => 0, []⟩ (.slice none 0 0) := by rw [hw1, ← hC]; exact heap_alloc2_new w _ _
    exact this.cell 0
  have HW1 := hideN hw1
  have hCl : (#[.int .i64 (x.toNat : Int), .int .i64 0, .int .i64 0, .int .i64 0, .int .i64 0, .int .i64 0, .int .i64 0, .int .i64 0, .int .i64 0, .int .i64 0, .int .i64 0, .int .i64 0, .int .i64 0, .int .i64 0, .int .i64 0, .int .i64 0, .int .i64 0, .string ⟨#[]⟩, .slice none 0 0] : Array Value) = C := hC
  clear hb hx hM hn hw1 hC
  go_enter Try.func23, Try.ntmps23
  go_upto_region 4 with (refine wpList_store_new rfl 34 (.tmp 4) (.tmp 30) rfl C (by rw [World.size_alloc]; rfl) (by rfl) 34 _ (by rw [HC1.out.2]; exact info_rec) (by rw [HC1.out.2]; rfl) HC1.out.1 ?_)
  clear hCl
  rw [← HW1.out]
  clear HW1
  go_wp2_with (first
    | (go_at_call 42; refine (CM.out _).mono ?_; rintro e w3 ⟨rfl, hw3⟩; obtain rfl := hw3.symm)
    | (go_at_call 43; refine (CN.out _ R1.out.2).mono ?_; rintro e w2 ⟨rfl, B2⟩
       have BX2 : Hid (Below w.heap.size w w2) := R1.out.2.trans (B2.mono R1.out.2.size)
       have R2 : Hid (RecAt w2 w.heap.size zeroR (.slice none 0 0)) := R1.out.1.below B2
       clear B2)
    | (refine wpList_store_row rfl 34 (.tmp 2) (.tmp 42) rfl w.heap.size (recA zeroR (.slice none 0 0)) rfl rfl 34 (recA zeroR (.slice none 0 0)) R2.out info_rec rfl (rec_one _ _ _ _) ?_))
  refine bodyPost_ret (results_ct_row rfl _ _ w.heap.size 34 _ (0, 0) _ rfl (setRow_heap _ _ _ _ _ _ R2.out) under_rec rfl info_rec) rfl ?_
  exact ⟨below_setRow BX2.out (Nat.le_refl _), rfl⟩
end Go.Proofs.Ytjnjaojafimfeaa

namespace Go.Proofs.Ytjnjaojafimfeaa
open Go.RowKit

theorem numbers_yes (g o c : Nat) (x : UInt8) (l : List UInt8) (L : List Int) (w : World) (hb : IsBytes w (some ⟨g, o, none⟩) c (x :: l)) (h0 : 0 < L.length) (h13 : L.length ≤ 13) (hall : ∀ (j : Nat) y, L[j]? = some y → numO l j = some y) :
    Calls Try.prog 43 #[.slice (some ⟨g, o, none⟩) (l.length + 1) c, .int .i64 (L.length : Int)] w fun e w' => ∃ gb cap, e = .returned (.tuple #[.slice (some ⟨gb, 0, none⟩) L.length cap, .bool true]) ∧ (w.heap.size ≤ gb ∧ gb < w'.heap.size ∧ L.length ≤ cap ∧ cap ≤ 9223372036854775807) ∧ (∀ (j : Nat) y, L[j]? = some y → w'.cell? ⟨gb, j, none⟩ = some (.int .i64 y)) ∧ Below w.heap.size w w' := by
  refine (numbers_get g o c x l L.length w hb h13).mono ?_
  rintro e w' ⟨hB, ⟨⟨j, hj, hn⟩, _⟩ | ⟨L', v, hL, hall', rfl, hrow⟩⟩
  · obtain ⟨y, hy⟩ : ∃ y, L[j]? = some y := ⟨_, List.getElem?_eq_getElem hj⟩
    rw [hall j y hy] at hn
    cases hn
  · have hLL : L' = L := by
      apply List.ext_getElem?
      intro j
      by_cases hj : j < L.length
      · obtain ⟨y, hy⟩ : ∃ y, L[j]? = some y := ⟨_, List.getElem?_eq_getElem hj⟩
        obtain ⟨y', hy'⟩ : ∃ y, L'[j]? = some y := ⟨_, List.getElem?_eq_getElem (by omega)⟩
        have h1 := hall j y hy
        have h2 := hall' j y' hy'
        rw [h1] at h2
        rw [hy, hy', h2]
      · rw [List.getElem?_eq_none_iff.2 (by omega), List.getElem?_eq_none_iff.2 (by omega)]
    subst hLL
    obtain ⟨gb, cap, rfl, a1, a2, a3, a4, a5⟩ := ints_row hrow h0
    exact ⟨gb, cap, rfl, ⟨a1, a2, a3, by unfold maxLen at a4; omega⟩, a5, hB⟩
theorem setCells_other (b k : Nat) : ∀ (vs : List Value) (w : World) (_ : k ≠ b) (o : Nat), (w.setCells b o vs).heap[k]? = w.heap[k]?
  | [], _, _, _ => rfl
  | v :: r, w, h, o => (setCells_other b k r (w.setCell ⟨b, o, none⟩ v) h (o + 1)).trans (heap_setCell_other w ⟨b, o, none⟩ k v h)
theorem below_setCells {w : World} {B b : Nat} (hb : B ≤ b) : ∀ (vs : List Value) {w1 : World} (_ : Below B w w1) (o : Nat), Below B w (w1.setCells b o vs)
  | [], _, h, _ => h
  | v :: r, _, h, o => below_setCells hb r (below_setCell (i := o) (v := v) h hb) (o + 1)
theorem RecAt.there4 {w : World} {b : Nat} {r : Rec} {v : Value} (h : RecAt w b r v) : w.there b 4 15 := fun j hj => ⟨by
  rw [h.cell (4 + j), Array.getElem?_eq_getElem (show 4 + j < (recA r v).size by rw [recA_size]; omega)]
  rfl, h.frozen (4 + j)⟩
theorem heap_setCells19 (w : World) (b : Nat) (t : TypeId) (cs : Array Value) (v0 : Value) (v1 : Value) (v2 : Value) (v3 : Value) (v4 : Value) (v5 : Value) (v6 : Value) (v7 : Value) (v8 : Value) (v9 : Value) (v10 : Value) (v11 : Value) (v12 : Value) (v13 : Value) (v14 : Value) (h : w.heap[b]? = some (.cells cs t (0, 0))) : (w.setCells b 4 [v0, v1, v2, v3, v4, v5, v6, v7, v8, v9, v10, v11, v12, v13, v14]).heap[b]? = some (.cells ((((((((((((((((cs).setIfInBounds 4 v0).setIfInBounds 5 v1).setIfInBounds 6 v2).setIfInBounds 7 v3).setIfInBounds 8 v4).setIfInBounds 9 v5).setIfInBounds 10 v6).setIfInBounds 11 v7).setIfInBounds 12 v8).setIfInBounds 13 v9).setIfInBounds 14 v10).setIfInBounds 15 v11).setIfInBounds 16 v12).setIfInBounds 17 v13).setIfInBounds 18 v14) t (0, 0)) := by
  simp only [World.setCells]
  exact (heap_setCell_same _ b 18 _ _ _ (heap_setCell_same _ b 17 _ _ _ (heap_setCell_same _ b 16 _ _ _ (heap_setCell_same _ b 15 _ _ _ (heap_setCell_same _ b 14 _ _ _ (heap_setCell_same _ b 13 _ _ _ (heap_setCell_same _ b 12 _ _ _ (heap_setCell_same _ b 11 _ _ _ (heap_setCell_same _ b 10 _ _ _ (heap_setCell_same _ b 9 _ _ _ (heap_setCell_same _ b 8 _ _ _ (heap_setCell_same _ b 7 _ _ _ (heap_setCell_same _ b 6 _ _ _ (heap_setCell_same _ b 5 _ _ _ (heap_setCell_same _ b 4 _ _ _ h)))))))))))))))
theorem RecAt.job_short {w : World} {b : Nat} (y0 y1 y2 y3 y4 y5 y6 y7 y8 y9 y10 : Int) (h : RecAt w b ⟨3, fun _ => 0, []⟩ (.slice none 0 0)) : RecAt (w.setCells b 4 (#[.int .i64 y0, .int .i64 y1, .int .i64 y2, .int .i64 0, .int .i64 0, .int .i64 y3, .int .i64 y4, .int .i64 y5, .int .i64 y6, .int .i64 y7, .int .i64 y8, .int .i64 y9, .int .i64 y10, .string ⟨#[]⟩, .slice none 0 0] : Array Value).toList) b ⟨3, setAll [3, 4, 5, 8, 9, 10, 11, 12, 13, 14, 15] [y0, y1, y2, y3, y4, y5, y6, y7, y8, y9, y10] (fun _ => 0), []⟩ (.slice none 0 0) :=
  (heap_setCells19 w b 34 (recA ⟨3, fun _ => 0, []⟩ (.slice none 0 0)) (.int .i64 y0) (.int .i64 y1) (.int .i64 y2) (.int .i64 0) (.int .i64 0) (.int .i64 y3) (.int .i64 y4) (.int .i64 y5) (.int .i64 y6) (.int .i64 y7) (.int .i64 y8) (.int .i64 y9) (.int .i64 y10) (.string ⟨#[]⟩) (.slice none 0 0) h).trans (by kernel_rfl)
theorem RecAt.job_whole {w : World} {b : Nat} (y0 y1 y2 y3 y4 y5 y6 y7 y8 y9 y10 y11 y12 : Int) (h : RecAt w b ⟨2, fun _ => 0, []⟩ (.slice none 0 0)) : RecAt (w.setCells b 4 (#[.int .i64 y0, .int .i64 y1, .int .i64 y2, .int .i64 y3, .int .i64 y4, .int .i64 y5, .int .i64 y6, .int .i64 y7, .int .i64 y8, .int .i64 y9, .int .i64 y10, .int .i64 y11, .int .i64 y12, .string ⟨#[]⟩, .slice none 0 0] : Array Value).toList) b ⟨2, setAll [3, 4, 5, 6, 7, 8, 9, 10, 11, 12, 13, 14, 15] [y0, y1, y2, y3, y4, y5, y6, y7, y8, y9, y10, y11, y12] (fun _ => 0), []⟩ (.slice none 0 0) :=
  (heap_setCells19 w b 34 (recA ⟨2, fun _ => 0, []⟩ (.slice none 0 0)) (.int .i64 y0) (.int .i64 y1) (.int .i64 y2) (.int .i64 y3) (.int .i64 y4) (.int .i64 y5) (.int .i64 y6) (.int .i64 y7) (.int .i64 y8) (.int .i64 y9) (.int .i64 y10) (.int .i64 y11) (.int .i64 y12) (.string ⟨#[]⟩) (.slice none 0 0) h).trans (by kernel_rfl)
set_option maxHeartbeats 4000000 in
set_option maxRecDepth 1000000 in
theorem refget_1_rest (g o c : Nat) (x : UInt8) (l : List UInt8) (RL : Nat) (y0 y1 : Int) (w : World) (hb : IsBytes w (some ⟨g, o, none⟩) c (x :: l)) (hx : x.toNat = 1) (hlen : l.length = RL + 16) (hRL : 0 < RL) (hall : ∀ (j : Nat) y, [y0, y1][j]? = some y → numO l j = some y) :
    Calls Try.prog 23 #[.slice (some ⟨g, o, none⟩) (RL + 17) c] w fun e w' => Below w.heap.size w w' ∧ e = .returned (getV zeroR (.slice none 0 0) 102) := by
  have hc0 : w.cell? ⟨g, o, none⟩ = some (.int .u8 1) := by
    have := hb.cell 0 x rfl
    rw [hx] at this
    exact this
  have hg : g < w.heap.size := by have := cell_lt hc0; simpa using this
  have hcc : (RL + 17) ≤ c := by have := hb.1; rw [List.length_cons] at this; omega
  have hcm : c ≤ 9223372036854775807 := by have := hb.2.1; unfold maxLen at this; omega
  have CM : Hid (∀ W, Calls Try.prog 42 #[.int .i64 1] W fun e w' => e = .returned (.int .i64 2) ∧ w' = W) := fun W => many_any 1 W
  have CN : Hid (∀ W, Below w.heap.size w W → Calls Try.prog 43 #[.slice (some ⟨g, o, none⟩) (RL + 17) c, .int .i64 2] W fun e w' => ∃ gb cap, e = .returned (.tuple #[.slice (some ⟨gb, 0, none⟩) 2 cap, .bool true]) ∧ (W.heap.size ≤ gb ∧ gb < w'.heap.size ∧ 2 ≤ cap ∧ cap ≤ 9223372036854775807) ∧ (∀ (j : Nat) y, [y0, y1][j]? = some y → w'.cell? ⟨gb, j, none⟩ = some (.int .i64 y)) ∧ Below W.heap.size W w') := fun W hW => by
    have := numbers_yes g o c x l [y0, y1] W (hb.below hW) (by simp) (by simp) hall
    rw [hlen] at this
    exact this
  obtain ⟨C, hC⟩ : ∃ C, recA ⟨1, fun _ => 0, []⟩ (.slice none 0 0) = C := ⟨_, rfl⟩
  have HC1 : Hid (C.all (·.oneCell') = true ∧ C.size = 19) := ⟨by rw [← hC]; exact rec_one _ _ _ _, by rw [← hC]; rfl⟩
  obtain ⟨w1, hw1⟩ : ∃ w1, w1 = (w.alloc (.cells #[.int .i64 0, .int .i64 0, .int .i64 0, .int .i64 0, .int .i64 0, .int .i64 0, .int .i64 0, .int .i64 0, .int .i64 0, .int .i64 0, .int .i64 0, .int .i64 0, .int .i64 0, .int .i64 0, .int .i64 0, .int .i64 0, .int .i64 0, .string ⟨#[]⟩, .slice none 0 0] 34)).alloc (.cells C 34) := ⟨_, rfl⟩
  have R1 : Hid (RecAt w1 w.heap.size zeroR (.slice none 0 0) ∧ Below w.heap.size w w1 ∧ RecAt w1 (w.heap.size + 1) ⟨1, fun _ => 0, []⟩ (.slice none 0 0) ∧ w1.heap.size = w.heap.size + 2) := ⟨by rw [hw1]; exact heap_alloc2_old w _ _, by rw [hw1]; exact ((Below.refl _ w).alloc (Nat.le_refl _) _).alloc (by simp) _, by rw [hw1, ← hC]; exact heap_alloc2_new w _ _, by rw [hw1]; simp⟩
  have x0 : w1.cell? ⟨w.heap.size + 1, 0, none⟩ = some (.int .i64 1) := R1.out.2.2.1.cell 0
  have HW1 := hideN hw1
  have hCl : (#[.int .i64 1, .int .i64 0, .int .i64 0, .int .i64 0, .int .i64 0, .int .i64 0, .int .i64 0, .int .i64 0, .int .i64 0, .int .i64 0, .int .i64 0, .int .i64 0, .int .i64 0, .int .i64 0, .int .i64 0, .int .i64 0, .int .i64 0, .string ⟨#[]⟩, .slice none 0 0] : Array Value) = C := hC
  obtain ⟨a1, ha1⟩ : ∃ a1, (if c = 17 then some ⟨g, o, none⟩ else some ⟨g, o + 17, none⟩ : Option Addr) = a1 := ⟨_, rfl⟩
  clear hb hx hw1 hC hall hlen
  go_enter Try.func23, Try.ntmps23
  go_upto_region 4 with (refine wpList_store_new rfl 34 (.tmp 4) (.tmp 30) rfl C (by rw [World.size_alloc]; rfl) (by rfl) 34 _ (by rw [HC1.out.2]; exact info_rec) (by rw [HC1.out.2]; rfl) HC1.out.1 ?_)
  clear hCl
  rw [← HW1.out]
  clear HW1 hc0 hg
  go_upto_region 8 with (first
    | (go_at_call 42; refine (CM.out _).mono ?_; rintro e w3 ⟨rfl, hw3⟩; obtain rfl := hw3.symm)
    | (go_at_call 43; refine (CN.out _ R1.out.2.1).mono ?_; rintro e w2 ⟨gb, cap, rfl, hgb, hcells, B2⟩
       have R2 : Hid (RecAt w2 w.heap.size zeroR (.slice none 0 0) ∧ Below w.heap.size w w2 ∧ RecAt w2 (w.heap.size + 1) ⟨1, fun _ => 0, []⟩ (.slice none 0 0) ∧ w.heap.size + 2 ≤ gb ∧ gb < w2.heap.size) := ⟨R1.out.1.below B2, R1.out.2.1.trans (B2.mono R1.out.2.1.size), R1.out.2.2.1.below B2, by rw [← R1.out.2.2.2]; exact hgb.1, hgb.2.1⟩
       have HCE := hideN hcells
       have hcap1 := hgb.2.2.1
       have hcap2 := hgb.2.2.2
       clear B2 hgb hcells))
  have z0 : w2.cell? ⟨w.heap.size + 1, 0, none⟩ = some (.int .i64 1) := R2.out.2.2.1.cell 0
  have q0 : w2.cell? ⟨gb, 0, none⟩ = some (.int .i64 y0) := HCE.out 0 y0 rfl
  have z1 : w2.cell? ⟨w.heap.size + 1, 1, none⟩ = some (.int .i64 0) := R2.out.2.2.1.cell 1
  have f1 : w2.frozen? ⟨w.heap.size + 1, 1, none⟩ = false := R2.out.2.2.1.frozen 1
  obtain ⟨w3, hw3⟩ : ∃ w3, w3 = w2.setCell ⟨w.heap.size + 1, 1, none⟩ (.int .i64 y0) := ⟨_, rfl⟩
  obtain ⟨w4, hw4⟩ : ∃ w4, w4 = w3.setCell ⟨w.heap.size + 1, 2, none⟩ (.int .i64 y1) := ⟨_, rfl⟩
  have R3 : Hid (RecAt w3 (w.heap.size + 1) ⟨1, setAll [0] [y0] (fun _ => 0), []⟩ (.slice none 0 0)) := by show RecAt _ _ _ _; rw [hw3]; exact heap_setCell_same w2 _ 1 _ _ _ R2.out.2.2.1
  have q1 : w3.cell? ⟨gb, 1, none⟩ = some (.int .i64 y1) := by
    rw [hw3]
    have hh : (w2.setCell ⟨w.heap.size + 1, 1, none⟩ (.int .i64 y0)).heap[gb]? = w2.heap[gb]? := heap_setCell_other w2 ⟨w.heap.size + 1, 1, none⟩ gb _ (by show gb ≠ w.heap.size + 1; have := R2.out.2.2.2; omega)
    exact (World.cell?_of_block hh).trans (HCE.out 1 y1 rfl)
  have z2 : w3.cell? ⟨w.heap.size + 1, 2, none⟩ = some (.int .i64 0) := R3.out.cell 2
  have f2 : w3.frozen? ⟨w.heap.size + 1, 2, none⟩ = false := R3.out.frozen 2
  have R4 : Hid (RecAt w4 (w.heap.size + 1) ⟨1, setAll [0, 1] [y0, y1] (fun _ => 0), []⟩ (.slice none 0 0) ∧ RecAt w4 w.heap.size zeroR (.slice none 0 0) ∧ Below w.heap.size w w4) := by
    refine ⟨?_, ?_, ?_⟩
    · rw [hw4]; exact heap_setCell_same w3 _ 2 _ _ _ R3.out
    · rw [hw4, hw3]
      exact (heap_setCell_other _ ⟨w.heap.size + 1, 2, none⟩ w.heap.size _ (by show w.heap.size ≠ w.heap.size + 1; omega)).trans ((heap_setCell_other w2 ⟨w.heap.size + 1, 1, none⟩ w.heap.size _ (by show w.heap.size ≠ w.heap.size + 1; omega)).trans R2.out.1)
    · rw [hw4, hw3]; exact below_setCell (below_setCell R2.out.2.1 (Nat.le_succ _)) (Nat.le_succ _)
  have HW3 := hideN (And.intro hw3 hw4)
  clear hw3 hw4
  go_upto_region 12 with fail
  rw [← HW3.out.1]
  clear z0 z1 f1 q0
  go_upto_region 25 with fail
  rw [← HW3.out.2]
  clear HW3 z2 f2 q1
  go_wp2_with (refine wpList_store_row rfl 34 (.tmp 2) (.tmp 118) rfl w.heap.size (recA zeroR (.slice none 0 0)) rfl rfl 34 (recA zeroR (.slice none 0 0)) R4.out.2.1 info_rec rfl (rec_one _ _ _ _) ?_)
  refine bodyPost_ret (results_ct_row rfl _ _ w.heap.size 34 _ (0, 0) _ rfl (setRow_heap _ _ _ _ _ _ R4.out.2.1) under_rec rfl info_rec) rfl ?_
  exact ⟨below_setRow R4.out.2.2 (Nat.le_refl _), rfl⟩
set_option maxHeartbeats 4000000 in
set_option maxRecDepth 1000000 in
theorem refget_1_bad (g o c : Nat) (x : UInt8) (l : List UInt8) (y0 y1 : Int) (w : World) (hb : IsBytes w (some ⟨g, o, none⟩) c (x :: l)) (hx : x.toNat = 1) (hlen : l.length = 16) (hall : ∀ (j : Nat) y, [y0, y1][j]? = some y → numO l j = some y) (hck : checkE ⟨1, setAll [0, 1] [y0, y1] (fun _ => 0), []⟩ 0 ≠ 0) :
    Calls Try.prog 23 #[.slice (some ⟨g, o, none⟩) 17 c] w fun e w' => Below w.heap.size w w' ∧ e = .returned (getV zeroR (.slice none 0 0) 102) := by
  have hc0 : w.cell? ⟨g, o, none⟩ = some (.int .u8 1) := by
    have := hb.cell 0 x rfl
    rw [hx] at this
    exact this
  have hg : g < w.heap.size := by have := cell_lt hc0; simpa using this
  have hcc : 17 ≤ c := by have := hb.1; rw [List.length_cons] at this; omega
  have hcm : c ≤ 9223372036854775807 := by have := hb.2.1; unfold maxLen at this; omega
  have CM : Hid (∀ W, Calls Try.prog 42 #[.int .i64 1] W fun e w' => e = .returned (.int .i64 2) ∧ w' = W) := fun W => many_any 1 W
  have CN : Hid (∀ W, Below w.heap.size w W → Calls Try.prog 43 #[.slice (some ⟨g, o, none⟩) 17 c, .int .i64 2] W fun e w' => ∃ gb cap, e = .returned (.tuple #[.slice (some ⟨gb, 0, none⟩) 2 cap, .bool true]) ∧ (W.heap.size ≤ gb ∧ gb < w'.heap.size ∧ 2 ≤ cap ∧ cap ≤ 9223372036854775807) ∧ (∀ (j : Nat) y, [y0, y1][j]? = some y → w'.cell? ⟨gb, j, none⟩ = some (.int .i64 y)) ∧ Below W.heap.size W w') := fun W hW => by
    have := numbers_yes g o c x l [y0, y1] W (hb.below hW) (by simp) (by simp) hall
    rw [hlen] at this
    exact this
  obtain ⟨C, hC⟩ : ∃ C, recA ⟨1, fun _ => 0, []⟩ (.slice none 0 0) = C := ⟨_, rfl⟩
  have HC1 : Hid (C.all (·.oneCell') = true ∧ C.size = 19) := ⟨by rw [← hC]; exact rec_one _ _ _ _, by rw [← hC]; rfl⟩
  obtain ⟨w1, hw1⟩ : ∃ w1, w1 = (w.alloc (.cells #[.int .i64 0, .int .i64 0, .int .i64 0, .int .i64 0, .int .i64 0, .int .i64 0, .int .i64 0, .int .i64 0, .int .i64 0, .int .i64 0, .int .i64 0, .int .i64 0, .int .i64 0, .int .i64 0, .int .i64 0, .int .i64 0, .int .i64 0, .string ⟨#[]⟩, .slice none 0 0] 34)).alloc (.cells C 34) := ⟨_, rfl⟩
  have R1 : Hid (RecAt w1 w.heap.size zeroR (.slice none 0 0) ∧ Below w.heap.size w w1 ∧ RecAt w1 (w.heap.size + 1) ⟨1, fun _ => 0, []⟩ (.slice none 0 0) ∧ w1.heap.size = w.heap.size + 2) := ⟨by rw [hw1]; exact heap_alloc2_old w _ _, by rw [hw1]; exact ((Below.refl _ w).alloc (Nat.le_refl _) _).alloc (by simp) _, by rw [hw1, ← hC]; exact heap_alloc2_new w _ _, by rw [hw1]; simp⟩
  have x0 : w1.cell? ⟨w.heap.size + 1, 0, none⟩ = some (.int .i64 1) := R1.out.2.2.1.cell 0
  have HW1 := hideN hw1
  have hCl : (#[.int .i64 1, .int .i64 0, .int .i64 0, .int .i64 0, .int .i64 0, .int .i64 0, .int .i64 0, .int .i64 0, .int .i64 0, .int .i64 0, .int .i64 0, .int .i64 0, .int .i64 0, .int .i64 0, .int .i64 0, .int .i64 0, .int .i64 0, .string ⟨#[]⟩, .slice none 0 0] : Array Value) = C := hC
  have CC : Hid (∀ W, Calls Try.prog 16 #[.agg (recA ⟨1, setAll [0, 1] [y0, y1] (fun _ => 0), []⟩ (.slice none 0 0))] W fun e w' => e = .returned (.int .i64 (checkE ⟨1, setAll [0, 1] [y0, y1] (fun _ => 0), []⟩ 0)) ∧ Below W.heap.size W w') := fun W => by
    have := refCheck_any ⟨1, setAll [0, 1] [y0, y1] (fun _ => 0), []⟩ none 0 0 W
    rw [ref_check] at this
    exact this
  obtain ⟨z, hz⟩ : ∃ z, z = checkE ⟨1, setAll [0, 1] [y0, y1] (fun _ => 0), []⟩ 0 := ⟨_, rfl⟩
  rw [← hz] at CC hck
  have hzb : (z != 0) = true := by simp [hck]
  obtain ⟨D, hD⟩ : ∃ D, D = recA ⟨1, setAll [0, 1] [y0, y1] (fun _ => 0), []⟩ (.slice none 0 0) := ⟨_, rfl⟩
  have HD : Hid (D = recA ⟨1, setAll [0, 1] [y0, y1] (fun _ => 0), []⟩ (.slice none 0 0) ∧ D.size = 19 ∧ D.all (·.oneCell') = true) := ⟨hD, by rw [hD]; rfl, by rw [hD]; exact rec_one _ _ _ _⟩
  rw [← hD] at CC
  clear hz hck hD
  obtain ⟨a1, ha1⟩ : ∃ a1, (if c = 17 then some ⟨g, o, none⟩ else some ⟨g, o + 17, none⟩ : Option Addr) = a1 := ⟨_, rfl⟩
  clear hb hx hw1 hC hall hlen
  go_enter Try.func23, Try.ntmps23
  go_upto_region 4 with (refine wpList_store_new rfl 34 (.tmp 4) (.tmp 30) rfl C (by rw [World.size_alloc]; rfl) (by rfl) 34 _ (by rw [HC1.out.2]; exact info_rec) (by rw [HC1.out.2]; rfl) HC1.out.1 ?_)
  clear hCl
  rw [← HW1.out]
  clear HW1 hc0 hg
  go_upto_region 8 with (first
    | (go_at_call 42; refine (CM.out _).mono ?_; rintro e w3 ⟨rfl, hw3⟩; obtain rfl := hw3.symm)
    | (go_at_call 43; refine (CN.out _ R1.out.2.1).mono ?_; rintro e w2 ⟨gb, cap, rfl, hgb, hcells, B2⟩
       have R2 : Hid (RecAt w2 w.heap.size zeroR (.slice none 0 0) ∧ Below w.heap.size w w2 ∧ RecAt w2 (w.heap.size + 1) ⟨1, fun _ => 0, []⟩ (.slice none 0 0) ∧ w.heap.size + 2 ≤ gb ∧ gb < w2.heap.size) := ⟨R1.out.1.below B2, R1.out.2.1.trans (B2.mono R1.out.2.1.size), R1.out.2.2.1.below B2, by rw [← R1.out.2.2.2]; exact hgb.1, hgb.2.1⟩
       have HCE := hideN hcells
       have hcap1 := hgb.2.2.1
       have hcap2 := hgb.2.2.2
       clear B2 hgb hcells))
  have z0 : w2.cell? ⟨w.heap.size + 1, 0, none⟩ = some (.int .i64 1) := R2.out.2.2.1.cell 0
  have q0 : w2.cell? ⟨gb, 0, none⟩ = some (.int .i64 y0) := HCE.out 0 y0 rfl
  have z1 : w2.cell? ⟨w.heap.size + 1, 1, none⟩ = some (.int .i64 0) := R2.out.2.2.1.cell 1
  have f1 : w2.frozen? ⟨w.heap.size + 1, 1, none⟩ = false := R2.out.2.2.1.frozen 1
  obtain ⟨w3, hw3⟩ : ∃ w3, w3 = w2.setCell ⟨w.heap.size + 1, 1, none⟩ (.int .i64 y0) := ⟨_, rfl⟩
  obtain ⟨w4, hw4⟩ : ∃ w4, w4 = w3.setCell ⟨w.heap.size + 1, 2, none⟩ (.int .i64 y1) := ⟨_, rfl⟩
  have R3 : Hid (RecAt w3 (w.heap.size + 1) ⟨1, setAll [0] [y0] (fun _ => 0), []⟩ (.slice none 0 0)) := by show RecAt _ _ _ _; rw [hw3]; exact heap_setCell_same w2 _ 1 _ _ _ R2.out.2.2.1
  have q1 : w3.cell? ⟨gb, 1, none⟩ = some (.int .i64 y1) := by
    rw [hw3]
    have hh : (w2.setCell ⟨w.heap.size + 1, 1, none⟩ (.int .i64 y0)).heap[gb]? = w2.heap[gb]? := heap_setCell_other w2 ⟨w.heap.size + 1, 1, none⟩ gb _ (by show gb ≠ w.heap.size + 1; have := R2.out.2.2.2; omega)
    exact (World.cell?_of_block hh).trans (HCE.out 1 y1 rfl)
  have z2 : w3.cell? ⟨w.heap.size + 1, 2, none⟩ = some (.int .i64 0) := R3.out.cell 2
  have f2 : w3.frozen? ⟨w.heap.size + 1, 2, none⟩ = false := R3.out.frozen 2
  have R4 : Hid (RecAt w4 (w.heap.size + 1) ⟨1, setAll [0, 1] [y0, y1] (fun _ => 0), []⟩ (.slice none 0 0) ∧ RecAt w4 w.heap.size zeroR (.slice none 0 0) ∧ Below w.heap.size w w4) := by
    refine ⟨?_, ?_, ?_⟩
    · rw [hw4]; exact heap_setCell_same w3 _ 2 _ _ _ R3.out
    · rw [hw4, hw3]
      exact (heap_setCell_other _ ⟨w.heap.size + 1, 2, none⟩ w.heap.size _ (by show w.heap.size ≠ w.heap.size + 1; omega)).trans ((heap_setCell_other w2 ⟨w.heap.size + 1, 1, none⟩ w.heap.size _ (by show w.heap.size ≠ w.heap.size + 1; omega)).trans R2.out.1)
    · rw [hw4, hw3]; exact below_setCell (below_setCell R2.out.2.1 (Nat.le_succ _)) (Nat.le_succ _)
  have HW3 := hideN (And.intro hw3 hw4)
  clear hw3 hw4
  go_upto_region 12 with fail
  rw [← HW3.out.1]
  clear z0 z1 f1 q0
  go_upto_region 25 with fail
  rw [← HW3.out.2]
  clear HW3 z2 f2 q1
  go_upto_region 26 with (first
    | (refine wpList_load_wanted (by rfl) 34 (.tmp 4) rfl (w.heap.size + 1) rfl 34 D (0, 0) _ (by rw [HD.out.1]; exact R4.out.1) under_rec rfl (by rw [HD.out.2.1]; exact info_rec) ?_)
    | (go_at_call 16; refine (CC.out _).mono ?_; rintro e w5 ⟨rfl, B5⟩
       have R5 : Hid (RecAt w5 (w.heap.size + 1) ⟨1, setAll [0, 1] [y0, y1] (fun _ => 0), []⟩ (.slice none 0 0) ∧ RecAt w5 w.heap.size zeroR (.slice none 0 0) ∧ Below w.heap.size w w5) := ⟨R4.out.1.below B5, R4.out.2.1.below B5, R4.out.2.2.trans (B5.mono R4.out.2.2.size)⟩
       clear B5))
  go_wp2_with (refine wpList_store_row rfl 34 (.tmp 2) (.tmp 118) rfl w.heap.size (recA zeroR (.slice none 0 0)) rfl rfl 34 (recA zeroR (.slice none 0 0)) R5.out.2.1 info_rec rfl (rec_one _ _ _ _) ?_)
  refine bodyPost_ret (results_ct_row rfl _ _ w.heap.size 34 _ (0, 0) _ rfl (setRow_heap _ _ _ _ _ _ R5.out.2.1) under_rec rfl info_rec) rfl ?_
  exact ⟨below_setRow R5.out.2.2 (Nat.le_refl _), rfl⟩
set_option maxHeartbeats 4000000 in
set_option maxRecDepth 1000000 in
theorem refget_1_good (g o c : Nat) (x : UInt8) (l : List UInt8) (y0 y1 : Int) (w : World) (hb : IsBytes w (some ⟨g, o, none⟩) c (x :: l)) (hx : x.toNat = 1) (hlen : l.length = 16) (hall : ∀ (j : Nat) y, [y0, y1][j]? = some y → numO l j = some y) (hck : checkE ⟨1, setAll [0, 1] [y0, y1] (fun _ => 0), []⟩ 0 = 0) :
    Calls Try.prog 23 #[.slice (some ⟨g, o, none⟩) 17 c] w fun e w' => Below w.heap.size w w' ∧ e = .returned (getV ⟨1, setAll [0, 1] [y0, y1] (fun _ => 0), []⟩ (.slice none 0 0) 0) := by
  have hc0 : w.cell? ⟨g, o, none⟩ = some (.int .u8 1) := by
    have := hb.cell 0 x rfl
    rw [hx] at this
    exact this
  have hg : g < w.heap.size := by have := cell_lt hc0; simpa using this
  have hcc : 17 ≤ c := by have := hb.1; rw [List.length_cons] at this; omega
  have hcm : c ≤ 9223372036854775807 := by have := hb.2.1; unfold maxLen at this; omega
  have CM : Hid (∀ W, Calls Try.prog 42 #[.int .i64 1] W fun e w' => e = .returned (.int .i64 2) ∧ w' = W) := fun W => many_any 1 W
  have CN : Hid (∀ W, Below w.heap.size w W → Calls Try.prog 43 #[.slice (some ⟨g, o, none⟩) 17 c, .int .i64 2] W fun e w' => ∃ gb cap, e = .returned (.tuple #[.slice (some ⟨gb, 0, none⟩) 2 cap, .bool true]) ∧ (W.heap.size ≤ gb ∧ gb < w'.heap.size ∧ 2 ≤ cap ∧ cap ≤ 9223372036854775807) ∧ (∀ (j : Nat) y, [y0, y1][j]? = some y → w'.cell? ⟨gb, j, none⟩ = some (.int .i64 y)) ∧ Below W.heap.size W w') := fun W hW => by
    have := numbers_yes g o c x l [y0, y1] W (hb.below hW) (by simp) (by simp) hall
    rw [hlen] at this
    exact this
  obtain ⟨C, hC⟩ : ∃ C, recA ⟨1, fun _ => 0, []⟩ (.slice none 0 0) = C := ⟨_, rfl⟩
  have HC1 : Hid (C.all (·.oneCell') = true ∧ C.size = 19) := ⟨by rw [← hC]; exact rec_one _ _ _ _, by rw [← hC]; rfl⟩
  obtain ⟨w1, hw1⟩ : ∃ w1, w1 = (w.alloc (.cells #[.int .i64 0, .int .i64 0, .int .i64 0, .int .i64 0, .int .i64 0, .int .i64 0, .int .i64 0, .int .i64 0, .int .i64 0, .int .i64 0, .int .i64 0, .int .i64 0, .int .i64 0, .int .i64 0, .int .i64 0, .int .i64 0, .int .i64 0, .string ⟨#[]⟩, .slice none 0 0] 34)).alloc (.cells C 34) := ⟨_, rfl⟩
  have R1 : Hid (RecAt w1 w.heap.size zeroR (.slice none 0 0) ∧ Below w.heap.size w w1 ∧ RecAt w1 (w.heap.size + 1) ⟨1, fun _ => 0, []⟩ (.slice none 0 0) ∧ w1.heap.size = w.heap.size + 2) := ⟨by rw [hw1]; exact heap_alloc2_old w _ _, by rw [hw1]; exact ((Below.refl _ w).alloc (Nat.le_refl _) _).alloc (by simp) _, by rw [hw1, ← hC]; exact heap_alloc2_new w _ _, by rw [hw1]; simp⟩
  have x0 : w1.cell? ⟨w.heap.size + 1, 0, none⟩ = some (.int .i64 1) := R1.out.2.2.1.cell 0
  have HW1 := hideN hw1
  have hCl : (#[.int .i64 1, .int .i64 0, .int .i64 0, .int .i64 0, .int .i64 0, .int .i64 0, .int .i64 0, .int .i64 0, .int .i64 0, .int .i64 0, .int .i64 0, .int .i64 0, .int .i64 0, .int .i64 0, .int .i64 0, .int .i64 0, .int .i64 0, .string ⟨#[]⟩, .slice none 0 0] : Array Value) = C := hC
  have CC : Hid (∀ W, Calls Try.prog 16 #[.agg (recA ⟨1, setAll [0, 1] [y0, y1] (fun _ => 0), []⟩ (.slice none 0 0))] W fun e w' => e = .returned (.int .i64 (checkE ⟨1, setAll [0, 1] [y0, y1] (fun _ => 0), []⟩ 0)) ∧ Below W.heap.size W w') := fun W => by
    have := refCheck_any ⟨1, setAll [0, 1] [y0, y1] (fun _ => 0), []⟩ none 0 0 W
    rw [ref_check] at this
    exact this
  obtain ⟨z, hz⟩ : ∃ z, z = checkE ⟨1, setAll [0, 1] [y0, y1] (fun _ => 0), []⟩ 0 := ⟨_, rfl⟩
  rw [← hz] at CC hck
  have hzb : (z != 0) = false := by simp [hck]
  obtain ⟨D, hD⟩ : ∃ D, D = recA ⟨1, setAll [0, 1] [y0, y1] (fun _ => 0), []⟩ (.slice none 0 0) := ⟨_, rfl⟩
  have HD : Hid (D = recA ⟨1, setAll [0, 1] [y0, y1] (fun _ => 0), []⟩ (.slice none 0 0) ∧ D.size = 19 ∧ D.all (·.oneCell') = true) := ⟨hD, by rw [hD]; rfl, by rw [hD]; exact rec_one _ _ _ _⟩
  rw [← hD] at CC
  clear hz hck hD
  obtain ⟨a1, ha1⟩ : ∃ a1, (if c = 17 then some ⟨g, o, none⟩ else some ⟨g, o + 17, none⟩ : Option Addr) = a1 := ⟨_, rfl⟩
  clear hb hx hw1 hC hall hlen
  go_enter Try.func23, Try.ntmps23
  go_upto_region 4 with (refine wpList_store_new rfl 34 (.tmp 4) (.tmp 30) rfl C (by rw [World.size_alloc]; rfl) (by rfl) 34 _ (by rw [HC1.out.2]; exact info_rec) (by rw [HC1.out.2]; rfl) HC1.out.1 ?_)
  clear hCl
  rw [← HW1.out]
  clear HW1 hc0 hg
  go_upto_region 8 with (first
    | (go_at_call 42; refine (CM.out _).mono ?_; rintro e w3 ⟨rfl, hw3⟩; obtain rfl := hw3.symm)
    | (go_at_call 43; refine (CN.out _ R1.out.2.1).mono ?_; rintro e w2 ⟨gb, cap, rfl, hgb, hcells, B2⟩
       have R2 : Hid (RecAt w2 w.heap.size zeroR (.slice none 0 0) ∧ Below w.heap.size w w2 ∧ RecAt w2 (w.heap.size + 1) ⟨1, fun _ => 0, []⟩ (.slice none 0 0) ∧ w.heap.size + 2 ≤ gb ∧ gb < w2.heap.size) := ⟨R1.out.1.below B2, R1.out.2.1.trans (B2.mono R1.out.2.1.size), R1.out.2.2.1.below B2, by rw [← R1.out.2.2.2]; exact hgb.1, hgb.2.1⟩
       have HCE := hideN hcells
       have hcap1 := hgb.2.2.1
       have hcap2 := hgb.2.2.2
       clear B2 hgb hcells))
  have z0 : w2.cell? ⟨w.heap.size + 1, 0, none⟩ = some (.int .i64 1) := R2.out.2.2.1.cell 0
  have q0 : w2.cell? ⟨gb, 0, none⟩ = some (.int .i64 y0) := HCE.out 0 y0 rfl
  have z1 : w2.cell? ⟨w.heap.size + 1, 1, none⟩ = some (.int .i64 0) := R2.out.2.2.1.cell 1
  have f1 : w2.frozen? ⟨w.heap.size + 1, 1, none⟩ = false := R2.out.2.2.1.frozen 1
  obtain ⟨w3, hw3⟩ : ∃ w3, w3 = w2.setCell ⟨w.heap.size + 1, 1, none⟩ (.int .i64 y0) := ⟨_, rfl⟩
  obtain ⟨w4, hw4⟩ : ∃ w4, w4 = w3.setCell ⟨w.heap.size + 1, 2, none⟩ (.int .i64 y1) := ⟨_, rfl⟩
  have R3 : Hid (RecAt w3 (w.heap.size + 1) ⟨1, setAll [0] [y0] (fun _ => 0), []⟩ (.slice none 0 0)) := by show RecAt _ _ _ _; rw [hw3]; exact heap_setCell_same w2 _ 1 _ _ _ R2.out.2.2.1
  have q1 : w3.cell? ⟨gb, 1, none⟩ = some (.int .i64 y1) := by
    rw [hw3]
    have hh : (w2.setCell ⟨w.heap.size + 1, 1, none⟩ (.int .i64 y0)).heap[gb]? = w2.heap[gb]? := heap_setCell_other w2 ⟨w.heap.size + 1, 1, none⟩ gb _ (by show gb ≠ w.heap.size + 1; have := R2.out.2.2.2; omega)
    exact (World.cell?_of_block hh).trans (HCE.out 1 y1 rfl)
  have z2 : w3.cell? ⟨w.heap.size + 1, 2, none⟩ = some (.int .i64 0) := R3.out.cell 2
  have f2 : w3.frozen? ⟨w.heap.size + 1, 2, none⟩ = false := R3.out.frozen 2
  have R4 : Hid (RecAt w4 (w.heap.size + 1) ⟨1, setAll [0, 1] [y0, y1] (fun _ => 0), []⟩ (.slice none 0 0) ∧ RecAt w4 w.heap.size zeroR (.slice none 0 0) ∧ Below w.heap.size w w4) := by
    refine ⟨?_, ?_, ?_⟩
    · rw [hw4]; exact heap_setCell_same w3 _ 2 _ _ _ R3.out
    · rw [hw4, hw3]
      exact (heap_setCell_other _ ⟨w.heap.size + 1, 2, none⟩ w.heap.size _ (by show w.heap.size ≠ w.heap.size + 1; omega)).trans ((heap_setCell_other w2 ⟨w.heap.size + 1, 1, none⟩ w.heap.size _ (by show w.heap.size ≠ w.heap.size + 1; omega)).trans R2.out.1)
    · rw [hw4, hw3]; exact below_setCell (below_setCell R2.out.2.1 (Nat.le_succ _)) (Nat.le_succ _)
  have HW3 := hideN (And.intro hw3 hw4)
  clear hw3 hw4
  go_upto_region 12 with fail
  rw [← HW3.out.1]
  clear z0 z1 f1 q0
  go_upto_region 25 with fail
  rw [← HW3.out.2]
  clear HW3 z2 f2 q1
  go_upto_region 27 with (first
    | (refine wpList_load_wanted (by rfl) 34 (.tmp 4) rfl (w.heap.size + 1) rfl 34 D (0, 0) _ (by rw [HD.out.1]; exact R4.out.1) under_rec rfl (by rw [HD.out.2.1]; exact info_rec) ?_)
    | (go_at_call 16; refine (CC.out _).mono ?_; rintro e w5 ⟨rfl, B5⟩
       have R5 : Hid (RecAt w5 (w.heap.size + 1) ⟨1, setAll [0, 1] [y0, y1] (fun _ => 0), []⟩ (.slice none 0 0) ∧ RecAt w5 w.heap.size zeroR (.slice none 0 0) ∧ Below w.heap.size w w5) := ⟨R4.out.1.below B5, R4.out.2.1.below B5, R4.out.2.2.trans (B5.mono R4.out.2.2.size)⟩
       clear B5))
  go_wp2_with (first
    | (refine wpList_load_row rfl 34 (.tmp 4) rfl (w.heap.size + 1) rfl 34 D (0, 0) _ (by rw [HD.out.1]; exact R5.out.1) under_rec rfl (by rw [HD.out.2.1]; exact info_rec) ?_)
    | (refine wpList_store_row rfl 34 (.tmp 2) (.tmp 119) rfl w.heap.size D rfl rfl 34 (recA zeroR (.slice none 0 0)) R5.out.2.1 (by rw [HD.out.2.1]; exact info_rec) (by rw [HD.out.2.1]; rfl) HD.out.2.2 ?_))
  refine bodyPost_ret (results_ct_row rfl _ _ w.heap.size 34 _ (0, 0) _ rfl (setRow_heap _ _ _ _ _ _ R5.out.2.1) under_rec rfl (by rw [HD.out.2.1]; exact info_rec)) rfl ?_
  refine ⟨below_setRow R5.out.2.2 (Nat.le_refl _), ?_⟩
  rw [HD.out.1]
  rfl
set_option maxHeartbeats 4000000 in
set_option maxRecDepth 1000000 in
theorem refget_4_rest (g o c : Nat) (x : UInt8) (l : List UInt8) (RL : Nat) (y0 : Int) (w : World) (hb : IsBytes w (some ⟨g, o, none⟩) c (x :: l)) (hx : x.toNat = 4) (hlen : l.length = RL + 8) (hRL : 0 < RL) (hall : ∀ (j : Nat) y, [y0][j]? = some y → numO l j = some y) :
    Calls Try.prog 23 #[.slice (some ⟨g, o, none⟩) (RL + 9) c] w fun e w' => Below w.heap.size w w' ∧ e = .returned (getV zeroR (.slice none 0 0) 102) := by
  have hc0 : w.cell? ⟨g, o, none⟩ = some (.int .u8 4) := by
    have := hb.cell 0 x rfl
    rw [hx] at this
    exact this
  have hg : g < w.heap.size := by have := cell_lt hc0; simpa using this
  have hcc : (RL + 9) ≤ c := by have := hb.1; rw [List.length_cons] at this; omega
  have hcm : c ≤ 9223372036854775807 := by have := hb.2.1; unfold maxLen at this; omega
  have CM : Hid (∀ W, Calls Try.prog 42 #[.int .i64 4] W fun e w' => e = .returned (.int .i64 1) ∧ w' = W) := fun W => many_any 4 W
  have CN : Hid (∀ W, Below w.heap.size w W → Calls Try.prog 43 #[.slice (some ⟨g, o, none⟩) (RL + 9) c, .int .i64 1] W fun e w' => ∃ gb cap, e = .returned (.tuple #[.slice (some ⟨gb, 0, none⟩) 1 cap, .bool true]) ∧ (W.heap.size ≤ gb ∧ gb < w'.heap.size ∧ 1 ≤ cap ∧ cap ≤ 9223372036854775807) ∧ (∀ (j : Nat) y, [y0][j]? = some y → w'.cell? ⟨gb, j, none⟩ = some (.int .i64 y)) ∧ Below W.heap.size W w') := fun W hW => by
    have := numbers_yes g o c x l [y0] W (hb.below hW) (by simp) (by simp) hall
    rw [hlen] at this
    exact this
  obtain ⟨C, hC⟩ : ∃ C, recA ⟨4, fun _ => 0, []⟩ (.slice none 0 0) = C := ⟨_, rfl⟩
  have HC1 : Hid (C.all (·.oneCell') = true ∧ C.size = 19) := ⟨by rw [← hC]; exact rec_one _ _ _ _, by rw [← hC]; rfl⟩
  obtain ⟨w1, hw1⟩ : ∃ w1, w1 = (w.alloc (.cells #[.int .i64 0, .int .i64 0, .int .i64 0, .int .i64 0, .int .i64 0, .int .i64 0, .int .i64 0, .int .i64 0, .int .i64 0, .int .i64 0, .int .i64 0, .int .i64 0, .int .i64 0, .int .i64 0, .int .i64 0, .int .i64 0, .int .i64 0, .string ⟨#[]⟩, .slice none 0 0] 34)).alloc (.cells C 34) := ⟨_, rfl⟩
  have R1 : Hid (RecAt w1 w.heap.size zeroR (.slice none 0 0) ∧ Below w.heap.size w w1 ∧ RecAt w1 (w.heap.size + 1) ⟨4, fun _ => 0, []⟩ (.slice none 0 0) ∧ w1.heap.size = w.heap.size + 2) := ⟨by rw [hw1]; exact heap_alloc2_old w _ _, by rw [hw1]; exact ((Below.refl _ w).alloc (Nat.le_refl _) _).alloc (by simp) _, by rw [hw1, ← hC]; exact heap_alloc2_new w _ _, by rw [hw1]; simp⟩
  have x0 : w1.cell? ⟨w.heap.size + 1, 0, none⟩ = some (.int .i64 4) := R1.out.2.2.1.cell 0
  have HW1 := hideN hw1
  have hCl : (#[.int .i64 4, .int .i64 0, .int .i64 0, .int .i64 0, .int .i64 0, .int .i64 0, .int .i64 0, .int .i64 0, .int .i64 0, .int .i64 0, .int .i64 0, .int .i64 0, .int .i64 0, .int .i64 0, .int .i64 0, .int .i64 0, .int .i64 0, .string ⟨#[]⟩, .slice none 0 0] : Array Value) = C := hC
  obtain ⟨a1, ha1⟩ : ∃ a1, (if c = 9 then some ⟨g, o, none⟩ else some ⟨g, o + 9, none⟩ : Option Addr) = a1 := ⟨_, rfl⟩
  clear hb hx hw1 hC hall hlen
  go_enter Try.func23, Try.ntmps23
  go_upto_region 4 with (refine wpList_store_new rfl 34 (.tmp 4) (.tmp 30) rfl C (by rw [World.size_alloc]; rfl) (by rfl) 34 _ (by rw [HC1.out.2]; exact info_rec) (by rw [HC1.out.2]; rfl) HC1.out.1 ?_)
  clear hCl
  rw [← HW1.out]
  clear HW1 hc0 hg
  go_upto_region 8 with (first
    | (go_at_call 42; refine (CM.out _).mono ?_; rintro e w3 ⟨rfl, hw3⟩; obtain rfl := hw3.symm)
    | (go_at_call 43; refine (CN.out _ R1.out.2.1).mono ?_; rintro e w2 ⟨gb, cap, rfl, hgb, hcells, B2⟩
       have R2 : Hid (RecAt w2 w.heap.size zeroR (.slice none 0 0) ∧ Below w.heap.size w w2 ∧ RecAt w2 (w.heap.size + 1) ⟨4, fun _ => 0, []⟩ (.slice none 0 0) ∧ w.heap.size + 2 ≤ gb ∧ gb < w2.heap.size) := ⟨R1.out.1.below B2, R1.out.2.1.trans (B2.mono R1.out.2.1.size), R1.out.2.2.1.below B2, by rw [← R1.out.2.2.2]; exact hgb.1, hgb.2.1⟩
       have HCE := hideN hcells
       have hcap1 := hgb.2.2.1
       have hcap2 := hgb.2.2.2
       clear B2 hgb hcells))
  have z0 : w2.cell? ⟨w.heap.size + 1, 0, none⟩ = some (.int .i64 4) := R2.out.2.2.1.cell 0
  have q0 : w2.cell? ⟨gb, 0, none⟩ = some (.int .i64 y0) := HCE.out 0 y0 rfl
  have z3 : w2.cell? ⟨w.heap.size + 1, 3, none⟩ = some (.int .i64 0) := R2.out.2.2.1.cell 3
  have f3 : w2.frozen? ⟨w.heap.size + 1, 3, none⟩ = false := R2.out.2.2.1.frozen 3
  obtain ⟨w4, hw4⟩ : ∃ w4, w4 = w2.setCell ⟨w.heap.size + 1, 3, none⟩ (.int .i64 y0) := ⟨_, rfl⟩
  have R4 : Hid (RecAt w4 (w.heap.size + 1) ⟨4, setAll [2] [y0] (fun _ => 0), []⟩ (.slice none 0 0) ∧ RecAt w4 w.heap.size zeroR (.slice none 0 0) ∧ Below w.heap.size w w4) := by
    refine ⟨?_, ?_, ?_⟩
    · rw [hw4]; exact heap_setCell_same w2 _ 3 _ _ _ R2.out.2.2.1
    · rw [hw4]
      exact (heap_setCell_other w2 ⟨w.heap.size + 1, 3, none⟩ w.heap.size _ (by show w.heap.size ≠ w.heap.size + 1; omega)).trans R2.out.1
    · rw [hw4]; exact below_setCell R2.out.2.1 (Nat.le_succ _)
  have HW4 := hideN hw4
  clear hw4
  go_upto_region 25 with fail
  rw [← HW4.out]
  clear HW4 z0 z3 f3 q0
  go_wp2_with (refine wpList_store_row rfl 34 (.tmp 2) (.tmp 118) rfl w.heap.size (recA zeroR (.slice none 0 0)) rfl rfl 34 (recA zeroR (.slice none 0 0)) R4.out.2.1 info_rec rfl (rec_one _ _ _ _) ?_)
  refine bodyPost_ret (results_ct_row rfl _ _ w.heap.size 34 _ (0, 0) _ rfl (setRow_heap _ _ _ _ _ _ R4.out.2.1) under_rec rfl info_rec) rfl ?_
  exact ⟨below_setRow R4.out.2.2 (Nat.le_refl _), rfl⟩
set_option maxHeartbeats 4000000 in
set_option maxRecDepth 1000000 in
theorem refget_4_bad (g o c : Nat) (x : UInt8) (l : List UInt8) (y0 : Int) (w : World) (hb : IsBytes w (some ⟨g, o, none⟩) c (x :: l)) (hx : x.toNat = 4) (hlen : l.length = 8) (hall : ∀ (j : Nat) y, [y0][j]? = some y → numO l j = some y) (hck : checkE ⟨4, setAll [2] [y0] (fun _ => 0), []⟩ 0 ≠ 0) :
    Calls Try.prog 23 #[.slice (some ⟨g, o, none⟩) 9 c] w fun e w' => Below w.heap.size w w' ∧ e = .returned (getV zeroR (.slice none 0 0) 102) := by
  have hc0 : w.cell? ⟨g, o, none⟩ = some (.int .u8 4) := by
    have := hb.cell 0 x rfl
    rw [hx] at this
    exact this
  have hg : g < w.heap.size := by have := cell_lt hc0; simpa using this
  have hcc : 9 ≤ c := by have := hb.1; rw [List.length_cons] at this; omega
  have hcm : c ≤ 9223372036854775807 := by have := hb.2.1; unfold maxLen at this; omega
  have CM : Hid (∀ W, Calls Try.prog 42 #[.int .i64 4] W fun e w' => e = .returned (.int .i64 1) ∧ w' = W) := fun W => many_any 4 W
  have CN : Hid (∀ W, Below w.heap.size w W → Calls Try.prog 43 #[.slice (some ⟨g, o, none⟩) 9 c, .int .i64 1] W fun e w' => ∃ gb cap, e = .returned (.tuple #[.slice (some ⟨gb, 0, none⟩) 1 cap, .bool true]) ∧ (W.heap.size ≤ gb ∧ gb < w'.heap.size ∧ 1 ≤ cap ∧ cap ≤ 9223372036854775807) ∧ (∀ (j : Nat) y, [y0][j]? = some y → w'.cell? ⟨gb, j, none⟩ = some (.int .i64 y)) ∧ Below W.heap.size W w') := fun W hW => by
    have := numbers_yes g o c x l [y0] W (hb.below hW) (by simp) (by simp) hall
    rw [hlen] at this
    exact this
  obtain ⟨C, hC⟩ : ∃ C, recA ⟨4, fun _ => 0, []⟩ (.slice none 0 0) = C := ⟨_, rfl⟩
  have HC1 : Hid (C.all (·.oneCell') = true ∧ C.size = 19) := ⟨by rw [← hC]; exact rec_one _ _ _ _, by rw [← hC]; rfl⟩
  obtain ⟨w1, hw1⟩ : ∃ w1, w1 = (w.alloc (.cells #[.int .i64 0, .int .i64 0, .int .i64 0, .int .i64 0, .int .i64 0, .int .i64 0, .int .i64 0, .int .i64 0, .int .i64 0, .int .i64 0, .int .i64 0, .int .i64 0, .int .i64 0, .int .i64 0, .int .i64 0, .int .i64 0, .int .i64 0, .string ⟨#[]⟩, .slice none 0 0] 34)).alloc (.cells C 34) := ⟨_, rfl⟩
  have R1 : Hid (RecAt w1 w.heap.size zeroR (.slice none 0 0) ∧ Below w.heap.size w w1 ∧ RecAt w1 (w.heap.size + 1) ⟨4, fun _ => 0, []⟩ (.slice none 0 0) ∧ w1.heap.size = w.heap.size + 2) := ⟨by rw [hw1]; exact heap_alloc2_old w _ _, by rw [hw1]; exact ((Below.refl _ w).alloc (Nat.le_refl _) _).alloc (by simp) _, by rw [hw1, ← hC]; exact heap_alloc2_new w _ _, by rw [hw1]; simp⟩
  have x0 : w1.cell? ⟨w.heap.size + 1, 0, none⟩ = some (.int .i64 4) := R1.out.2.2.1.cell 0
  have HW1 := hideN hw1
  have hCl : (#[.int .i64 4, .int .i64 0, .int .i64 0, .int .i64 0, .int .i64 0, .int .i64 0, .int .i64 0, .int .i64 0, .int .i64 0, .int .i64 0, .int .i64 0, .int .i64 0, .int .i64 0, .int .i64 0, .int .i64 0, .int .i64 0, .int .i64 0, .string ⟨#[]⟩, .slice none 0 0] : Array Value) = C := hC
  have CC : Hid (∀ W, Calls Try.prog 16 #[.agg (recA ⟨4, setAll [2] [y0] (fun _ => 0), []⟩ (.slice none 0 0))] W fun e w' => e = .returned (.int .i64 (checkE ⟨4, setAll [2] [y0] (fun _ => 0), []⟩ 0)) ∧ Below W.heap.size W w') := fun W => by
    have := refCheck_any ⟨4, setAll [2] [y0] (fun _ => 0), []⟩ none 0 0 W
    rw [ref_check] at this
    exact this
  obtain ⟨z, hz⟩ : ∃ z, z = checkE ⟨4, setAll [2] [y0] (fun _ => 0), []⟩ 0 := ⟨_, rfl⟩
  rw [← hz] at CC hck
  have hzb : (z != 0) = true := by simp [hck]
  obtain ⟨D, hD⟩ : ∃ D, D = recA ⟨4, setAll [2] [y0] (fun _ => 0), []⟩ (.slice none 0 0) := ⟨_, rfl⟩
  have HD : Hid (D = recA ⟨4, setAll [2] [y0] (fun _ => 0), []⟩ (.slice none 0 0) ∧ D.size = 19 ∧ D.all (·.oneCell') = true) := ⟨hD, by rw [hD]; rfl, by rw [hD]; exact rec_one _ _ _ _⟩
  rw [← hD] at CC
  clear hz hck hD
  obtain ⟨a1, ha1⟩ : ∃ a1, (if c = 9 then some ⟨g, o, none⟩ else some ⟨g, o + 9, none⟩ : Option Addr) = a1 := ⟨_, rfl⟩
  clear hb hx hw1 hC hall hlen
  go_enter Try.func23, Try.ntmps23
  go_upto_region 4 with (refine wpList_store_new rfl 34 (.tmp 4) (.tmp 30) rfl C (by rw [World.size_alloc]; rfl) (by rfl) 34 _ (by rw [HC1.out.2]; exact info_rec) (by rw [HC1.out.2]; rfl) HC1.out.1 ?_)
  clear hCl
  rw [← HW1.out]
  clear HW1 hc0 hg
  go_upto_region 8 with (first
    | (go_at_call 42; refine (CM.out _).mono ?_; rintro e w3 ⟨rfl, hw3⟩; obtain rfl := hw3.symm)
    | (go_at_call 43; refine (CN.out _ R1.out.2.1).mono ?_; rintro e w2 ⟨gb, cap, rfl, hgb, hcells, B2⟩
       have R2 : Hid (RecAt w2 w.heap.size zeroR (.slice none 0 0) ∧ Below w.heap.size w w2 ∧ RecAt w2 (w.heap.size + 1) ⟨4, fun _ => 0, []⟩ (.slice none 0 0) ∧ w.heap.size + 2 ≤ gb ∧ gb < w2.heap.size) := ⟨R1.out.1.below B2, R1.out.2.1.trans (B2.mono R1.out.2.1.size), R1.out.2.2.1.below B2, by rw [← R1.out.2.2.2]; exact hgb.1, hgb.2.1⟩
       have HCE := hideN hcells
       have hcap1 := hgb.2.2.1
       have hcap2 := hgb.2.2.2
       clear B2 hgb hcells))
  have z0 : w2.cell? ⟨w.heap.size + 1, 0, none⟩ = some (.int .i64 4) := R2.out.2.2.1.cell 0
  have q0 : w2.cell? ⟨gb, 0, none⟩ = some (.int .i64 y0) := HCE.out 0 y0 rfl
  have z3 : w2.cell? ⟨w.heap.size + 1, 3, none⟩ = some (.int .i64 0) := R2.out.2.2.1.cell 3
  have f3 : w2.frozen? ⟨w.heap.size + 1, 3, none⟩ = false := R2.out.2.2.1.frozen 3
  obtain ⟨w4, hw4⟩ : ∃ w4, w4 = w2.setCell ⟨w.heap.size + 1, 3, none⟩ (.int .i64 y0) := ⟨_, rfl⟩
  have R4 : Hid (RecAt w4 (w.heap.size + 1) ⟨4, setAll [2] [y0] (fun _ => 0), []⟩ (.slice none 0 0) ∧ RecAt w4 w.heap.size zeroR (.slice none 0 0) ∧ Below w.heap.size w w4) := by
    refine ⟨?_, ?_, ?_⟩
    · rw [hw4]; exact heap_setCell_same w2 _ 3 _ _ _ R2.out.2.2.1
    · rw [hw4]
      exact (heap_setCell_other w2 ⟨w.heap.size + 1, 3, none⟩ w.heap.size _ (by show w.heap.size ≠ w.heap.size + 1; omega)).trans R2.out.1
    · rw [hw4]; exact below_setCell R2.out.2.1 (Nat.le_succ _)
  have HW4 := hideN hw4
  clear hw4
  go_upto_region 25 with fail
  rw [← HW4.out]
  clear HW4 z0 z3 f3 q0
  go_upto_region 26 with (first
    | (refine wpList_load_wanted (by rfl) 34 (.tmp 4) rfl (w.heap.size + 1) rfl 34 D (0, 0) _ (by rw [HD.out.1]; exact R4.out.1) under_rec rfl (by rw [HD.out.2.1]; exact info_rec) ?_)
    | (go_at_call 16; refine (CC.out _).mono ?_; rintro e w5 ⟨rfl, B5⟩
       have R5 : Hid (RecAt w5 (w.heap.size + 1) ⟨4, setAll [2] [y0] (fun _ => 0), []⟩ (.slice none 0 0) ∧ RecAt w5 w.heap.size zeroR (.slice none 0 0) ∧ Below w.heap.size w w5) := ⟨R4.out.1.below B5, R4.out.2.1.below B5, R4.out.2.2.trans (B5.mono R4.out.2.2.size)⟩
       clear B5))
  go_wp2_with (refine wpList_store_row rfl 34 (.tmp 2) (.tmp 118) rfl w.heap.size (recA zeroR (.slice none 0 0)) rfl rfl 34 (recA zeroR (.slice none 0 0)) R5.out.2.1 info_rec rfl (rec_one _ _ _ _) ?_)
  refine bodyPost_ret (results_ct_row rfl _ _ w.heap.size 34 _ (0, 0) _ rfl (setRow_heap _ _ _ _ _ _ R5.out.2.1) under_rec rfl info_rec) rfl ?_
  exact ⟨below_setRow R5.out.2.2 (Nat.le_refl _), rfl⟩
set_option maxHeartbeats 4000000 in
set_option maxRecDepth 1000000 in
theorem refget_4_good (g o c : Nat) (x : UInt8) (l : List UInt8) (y0 : Int) (w : World) (hb : IsBytes w (some ⟨g, o, none⟩) c (x :: l)) (hx : x.toNat = 4) (hlen : l.length = 8) (hall : ∀ (j : Nat) y, [y0][j]? = some y → numO l j = some y) (hck : checkE ⟨4, setAll [2] [y0] (fun _ => 0), []⟩ 0 = 0) :
    Calls Try.prog 23 #[.slice (some ⟨g, o, none⟩) 9 c] w fun e w' => Below w.heap.size w w' ∧ e = .returned (getV ⟨4, setAll [2] [y0] (fun _ => 0), []⟩ (.slice none 0 0) 0) := by
  have hc0 : w.cell? ⟨g, o, none⟩ = some (.int .u8 4) := by
    have := hb.cell 0 x rfl
    rw [hx] at this
    exact this
  have hg : g < w.heap.size := by have := cell_lt hc0; simpa using this
  have hcc : 9 ≤ c := by have := hb.1; rw [List.length_cons] at this; omega
  have hcm : c ≤ 9223372036854775807 := by have := hb.2.1; unfold maxLen at this; omega
  have CM : Hid (∀ W, Calls Try.prog 42 #[.int .i64 4] W fun e w' => e = .returned (.int .i64 1) ∧ w' = W) := fun W => many_any 4 W
  have CN : Hid (∀ W, Below w.heap.size w W → Calls Try.prog 43 #[.slice (some ⟨g, o, none⟩) 9 c, .int .i64 1] W fun e w' => ∃ gb cap, e = .returned (.tuple #[.slice (some ⟨gb, 0, none⟩) 1 cap, .bool true]) ∧ (W.heap.size ≤ gb ∧ gb < w'.heap.size ∧ 1 ≤ cap ∧ cap ≤ 9223372036854775807) ∧ (∀ (j : Nat) y, [y0][j]? = some y → w'.cell? ⟨gb, j, none⟩ = some (.int .i64 y)) ∧ Below W.heap.size W w') := fun W hW => by
    have := numbers_yes g o c x l [y0] W (hb.below hW) (by simp) (by simp) hall
    rw [hlen] at this
    exact this
  obtain ⟨C, hC⟩ : ∃ C, recA ⟨4, fun _ => 0, []⟩ (.slice none 0 0) = C := ⟨_, rfl⟩
  have HC1 : Hid (C.all (·.oneCell') = true ∧ C.size = 19) := ⟨by rw [← hC]; exact rec_one _ _ _ _, by rw [← hC]; rfl⟩
  obtain ⟨w1, hw1⟩ : ∃ w1, w1 = (w.alloc (.cells #[.int .i64 0, .int .i64 0, .int .i64 0, .int .i64 0, .int .i64 0, .int .i64 0, .int .i64 0, .int .i64 0, .int .i64 0, .int .i64 0, .int .i64 0, .int .i64 0, .int .i64 0, .int .i64 0, .int .i64 0, .int .i64 0, .int .i64 0, .string ⟨#[]⟩, .slice none 0 0] 34)).alloc (.cells C 34) := ⟨_, rfl⟩
  have R1 : Hid (RecAt w1 w.heap.size zeroR (.slice none 0 0) ∧ Below w.heap.size w w1 ∧ RecAt w1 (w.heap.size + 1) ⟨4, fun _ => 0, []⟩ (.slice none 0 0) ∧ w1.heap.size = w.heap.size + 2) := ⟨by rw [hw1]; exact heap_alloc2_old w _ _, by rw [hw1]; exact ((Below.refl _ w).alloc (Nat.le_refl _) _).alloc (by simp) _, by rw [hw1, ← hC]; exact heap_alloc2_new w _ _, by rw [hw1]; simp⟩
  have x0 : w1.cell? ⟨w.heap.size + 1, 0, none⟩ = some (.int .i64 4) := R1.out.2.2.1.cell 0
  have HW1 := hideN hw1
  have hCl : (#[.int .i64 4, .int .i64 0, .int .i64 0, .int .i64 0, .int .i64 0, .int .i64 0, .int .i64 0, .int .i64 0, .int .i64 0, .int .i64 0, .int .i64 0, .int .i64 0, .int .i64 0, .int .i64 0, .int .i64 0, .int .i64 0, .int .i64 0, .string ⟨#[]⟩, .slice none 0 0] : Array Value) = C := hC
  have CC : Hid (∀ W, Calls Try.prog 16 #[.agg (recA ⟨4, setAll [2] [y0] (fun _ => 0), []⟩ (.slice none 0 0))] W fun e w' => e = .returned (.int .i64 (checkE ⟨4, setAll [2] [y0] (fun _ => 0), []⟩ 0)) ∧ Below W.heap.size W w') := fun W => by
    have := refCheck_any ⟨4, setAll [2] [y0] (fun _ => 0), []⟩ none 0 0 W
    rw [ref_check] at this
    exact this
  obtain ⟨z, hz⟩ : ∃ z, z = checkE ⟨4, setAll [2] [y0] (fun _ => 0), []⟩ 0 := ⟨_, rfl⟩
  rw [← hz] at CC hck
  have hzb : (z != 0) = false := by simp [hck]
  obtain ⟨D, hD⟩ : ∃ D, D = recA ⟨4, setAll [2] [y0] (fun _ => 0), []⟩ (.slice none 0 0) := ⟨_, rfl⟩
  have HD : Hid (D = recA ⟨4, setAll [2] [y0] (fun _ => 0), []⟩ (.slice none 0 0) ∧ D.size = 19 ∧ D.all (·.oneCell') = true) := ⟨hD, by rw [hD]; rfl, by rw [hD]; exact rec_one _ _ _ _⟩
  rw [← hD] at CC
  clear hz hck hD
  obtain ⟨a1, ha1⟩ : ∃ a1, (if c = 9 then some ⟨g, o, none⟩ else some ⟨g, o + 9, none⟩ : Option Addr) = a1 := ⟨_, rfl⟩
  clear hb hx hw1 hC hall hlen
  go_enter Try.func23, Try.ntmps23
  go_upto_region 4 with (refine wpList_store_new rfl 34 (.tmp 4) (.tmp 30) rfl C (by rw [World.size_alloc]; rfl) (by rfl) 34 _ (by rw [HC1.out.2]; exact info_rec) (by rw [HC1.out.2]; rfl) HC1.out.1 ?_)
  clear hCl
  rw [← HW1.out]
  clear HW1 hc0 hg
  go_upto_region 8 with (first
    | (go_at_call 42; refine (CM.out _).mono ?_; rintro e w3 ⟨rfl, hw3⟩; obtain rfl := hw3.symm)
    | (go_at_call 43; refine (CN.out _ R1.out.2.1).mono ?_; rintro e w2 ⟨gb, cap, rfl, hgb, hcells, B2⟩
       have R2 : Hid (RecAt w2 w.heap.size zeroR (.slice none 0 0) ∧ Below w.heap.size w w2 ∧ RecAt w2 (w.heap.size + 1) ⟨4, fun _ => 0, []⟩ (.slice none 0 0) ∧ w.heap.size + 2 ≤ gb ∧ gb < w2.heap.size) := ⟨R1.out.1.below B2, R1.out.2.1.trans (B2.mono R1.out.2.1.size), R1.out.2.2.1.below B2, by rw [← R1.out.2.2.2]; exact hgb.1, hgb.2.1⟩
       have HCE := hideN hcells
       have hcap1 := hgb.2.2.1
       have hcap2 := hgb.2.2.2
       clear B2 hgb hcells))
  have z0 : w2.cell? ⟨w.heap.size + 1, 0, none⟩ = some (.int .i64 4) := R2.out.2.2.1.cell 0
  have q0 : w2.cell? ⟨gb, 0, none⟩ = some (.int .i64 y0) := HCE.out 0 y0 rfl
  have z3 : w2.cell? ⟨w.heap.size + 1, 3, none⟩ = some (.int .i64 0) := R2.out.2.2.1.cell 3
  have f3 : w2.frozen? ⟨w.heap.size + 1, 3, none⟩ = false := R2.out.2.2.1.frozen 3
  obtain ⟨w4, hw4⟩ : ∃ w4, w4 = w2.setCell ⟨w.heap.size + 1, 3, none⟩ (.int .i64 y0) := ⟨_, rfl⟩
  have R4 : Hid (RecAt w4 (w.heap.size + 1) ⟨4, setAll [2] [y0] (fun _ => 0), []⟩ (.slice none 0 0) ∧ RecAt w4 w.heap.size zeroR (.slice none 0 0) ∧ Below w.heap.size w w4) := by
    refine ⟨?_, ?_, ?_⟩
    · rw [hw4]; exact heap_setCell_same w2 _ 3 _ _ _ R2.out.2.2.1
    · rw [hw4]
      exact (heap_setCell_other w2 ⟨w.heap.size + 1, 3, none⟩ w.heap.size _ (by show w.heap.size ≠ w.heap.size + 1; omega)).trans R2.out.1
    · rw [hw4]; exact below_setCell R2.out.2.1 (Nat.le_succ _)
  have HW4 := hideN hw4
  clear hw4
  go_upto_region 25 with fail
  rw [← HW4.out]
  clear HW4 z0 z3 f3 q0
  go_upto_region 27 with (first
    | (refine wpList_load_wanted (by rfl) 34 (.tmp 4) rfl (w.heap.size + 1) rfl 34 D (0, 0) _ (by rw [HD.out.1]; exact R4.out.1) under_rec rfl (by rw [HD.out.2.1]; exact info_rec) ?_)
    | (go_at_call 16; refine (CC.out _).mono ?_; rintro e w5 ⟨rfl, B5⟩
       have R5 : Hid (RecAt w5 (w.heap.size + 1) ⟨4, setAll [2] [y0] (fun _ => 0), []⟩ (.slice none 0 0) ∧ RecAt w5 w.heap.size zeroR (.slice none 0 0) ∧ Below w.heap.size w w5) := ⟨R4.out.1.below B5, R4.out.2.1.below B5, R4.out.2.2.trans (B5.mono R4.out.2.2.size)⟩
       clear B5))
  go_wp2_with (first
    | (refine wpList_load_row rfl 34 (.tmp 4) rfl (w.heap.size + 1) rfl 34 D (0, 0) _ (by rw [HD.out.1]; exact R5.out.1) under_rec rfl (by rw [HD.out.2.1]; exact info_rec) ?_)
    | (refine wpList_store_row rfl 34 (.tmp 2) (.tmp 119) rfl w.heap.size D rfl rfl 34 (recA zeroR (.slice none 0 0)) R5.out.2.1 (by rw [HD.out.2.1]; exact info_rec) (by rw [HD.out.2.1]; rfl) HD.out.2.2 ?_))
  refine bodyPost_ret (results_ct_row rfl _ _ w.heap.size 34 _ (0, 0) _ rfl (setRow_heap _ _ _ _ _ _ R5.out.2.1) under_rec rfl (by rw [HD.out.2.1]; exact info_rec)) rfl ?_
  refine ⟨below_setRow R5.out.2.2 (Nat.le_refl _), ?_⟩
  rw [HD.out.1]
  rfl
end Go.Proofs.Ytjnjaojafimfeaa
