/-
  The walk of FiguresShops.
-/
import Derived.Test.YthapbnlcodkalaaDoorBkKit
import Derived.Test.YthapbnlcodkalaaDoorShown
import Derived.Test.YthapbnlcodkalaaDoorRefShop
import Derived.Test.YthapbnlcodkalaaDoorHand
import Derived.Deep.Cut
namespace Go.Proofs.YthapbnlcodkalaaDoor
theorem shopW (s : Sp) (W : World) (hp : PowAt W) (hv : VTab W) (h : s.ok) : Calls Tryd.prog 15 #[.agg s.cells] W fun e w' => ∃ a c, e = .returned (.slice a s.dict.length c) ∧ Own w' W.heap.size (.slice a s.dict.length c) s.dict ∧ RowKit.Below W.heap.size W w' := by
  refine (shop_any s W hp hv h).mono ?_
  rintro e w' ⟨v, rfl, o, b⟩
  obtain ⟨a, c, rfl, _⟩ := o.shape
  exact ⟨a, c, rfl, o, b⟩
end Go.Proofs.YthapbnlcodkalaaDoor
namespace Go.Proofs.YthapbnlcodkalaaDoor.figuresShops
open Go.RowKit Go.Sort

set_option maxHeartbeats 8000000 in
set_option maxRecDepth 1000000 in
theorem walk (t t1 : Sp) (w : World) (h0 : t.ok) (h1 : t1.ok) (htabs : PowAt w ∧ VTab w) :
    Calls Tryd.prog 5 #[.agg t.cells, .agg t1.cells] w fun e w' => e = .returned (.bool true) ∧ Below w.heap.size w w' := by
  obtain ⟨htab, hvt⟩ := htabs
  obtain ⟨C0, hC0⟩ : ∃ C, C = t.cells := ⟨_, rfl⟩
  obtain ⟨C1, hC1⟩ : ∃ C, C = t1.cells := ⟨_, rfl⟩
  obtain ⟨D0, hD0⟩ : ∃ D, D = t.dict := ⟨_, rfl⟩
  obtain ⟨D1, hD1⟩ : ∃ D, D = t1.dict := ⟨_, rfl⟩
  have CT0 : Hid (∀ W, Below w.heap.size w W → Calls Tryd.prog 15 #[.agg C0] W fun e w' => ∃ a c, e = .returned (.slice a D0.length c) ∧ Own w' W.heap.size (.slice a D0.length c) D0 ∧ Below W.heap.size W w') := fun W hb => by rw [hC0, hD0]; exact shopW t W (tab_below hb htab) (hvt.below (Nat.le_refl _) hb) h0
  have CT1 : Hid (∀ W, Below w.heap.size w W → Calls Tryd.prog 15 #[.agg C1] W fun e w' => ∃ a c, e = .returned (.slice a D1.length c) ∧ Own w' W.heap.size (.slice a D1.length c) D1 ∧ Below W.heap.size W w') := fun W hb => by rw [hC1, hD1]; exact shopW t1 W (tab_below hb htab) (hvt.below (Nat.le_refl _) hb) h1
  have CR0 : Hid (∀ W, Below w.heap.size w W → Calls Tryd.prog 14 #[.agg C0] W fun e w' => ∃ a c, e = .returned (.slice a D0.length c) ∧ NewB W w' a c D0 ∧ Below W.heap.size W w') := fun W _ => by rw [hC0, hD0]; exact refShop_any t W h0
  have CR1 : Hid (∀ W, Below w.heap.size w W → Calls Tryd.prog 14 #[.agg C1] W fun e w' => ∃ a c, e = .returned (.slice a D1.length c) ∧ NewB W w' a c D1 ∧ Below W.heap.size W w') := fun W _ => by rw [hC1, hD1]; exact refShop_any t1 W h1
  have CS : Hid (∀ W, Below w.heap.size w W → Calls Tryd.prog 7 #[] W fun e w' => e = .returned (.bool true) ∧ Below W.heap.size W w') := fun W hb => shown_any W (tab_below hb htab)
  have HD : Hid (D0.length ≤ 20000000 ∧ D1.length ≤ 20000000) := by rw [hD0, hD1]; exact ⟨Nat.le_trans (t.dict_le h0) (by decide), Nat.le_trans (t1.dict_le h1) (by decide)⟩
  have HC : Hid (C0.size = 49 ∧ C1.size = 49) := by rw [hC0, hC1]; exact ⟨t.size, t1.size⟩
  have i0 : Hid ((Tryd.prog.info? 43).map (·.size) = some C0.size ∧ (Tryd.prog.info? 43).map (·.size) = some C1.size) := by rw [HC.out.1, HC.out.2]; exact ⟨info_shop, info_shop⟩
  obtain ⟨wA, hwA⟩ : ∃ wA, wA = (w.alloc (.cells C0 43)).alloc (.cells C1 43) := ⟨_, rfl⟩
  obtain ⟨b0, hb0⟩ : ∃ b0, b0 = w.heap.size := ⟨_, rfl⟩
  obtain ⟨b1, hb1⟩ : ∃ b1, b1 = w.heap.size + 1 := ⟨_, rfl⟩
  have A1 : Hid (Below w.heap.size w wA ∧ wA.heap[b0]? = some (.cells C0 43 (0, 0)) ∧ wA.heap[b1]? = some (.cells C1 43 (0, 0))) := by
    refine ⟨by rw [hwA]; exact ((Below.refl _ w).alloc (Nat.le_refl _) _).alloc (by simp) _, ?_, ?_⟩
    · rw [hwA, hb0, heap_alloc_old _ _ (by simp)]
      exact heap_alloc_new _ _
    · have := heap_alloc_new (w.alloc (.cells C0 43)) (.cells C1 43)
      rw [World.size_alloc, ← hwA] at this
      rw [hb1]
      exact this
  have HWA := hide (And.intro hwA (And.intro hb0 hb1))
  rw [← hC0, ← hC1]
  clear hC0 hC1 hD0 hD1 hwA hb0 hb1 h0 h1 htab hvt
  go_enter Tryd.func5, Tryd.ntmps5
  go_upto_region 1 with fail
  rw [← HWA.out.2.2, ← HWA.out.2.1, ← HWA.out.1]
  clear HWA
  go_wp2_with fail
  refine (CS.out _ A1.out.1).mono ?_
  rintro e w1 ⟨rfl, B1⟩
  obtain ⟨Hb, hHb⟩ : ∃ Hb, Hb = w1.heap.size := ⟨_, rfl⟩
  obtain ⟨w2, hw2⟩ : ∃ w2, w2 = w1.alloc (.cells #[.slice none 0 0, .slice none 0 0, .int .i64 0] 31) := ⟨_, rfl⟩
  obtain ⟨us0, hus0⟩ : ∃ us0 : List (Nat × Obj), us0 = [(b0, .cells C0 43 (0, 0)), (b1, .cells C1 43 (0, 0))] := ⟨_, rfl⟩
  have K2 : Hid (Bk w us0 (.int .i64 0) 0 (fun k => if k = Hb then .box else .user 0) Hb [] w2) := by
    rw [hw2, hHb]
    refine Bk.start w us0 w1 _ (A1.out.1.trans (B1.mono A1.out.1.size)) (fun p hp => ?_)
    rw [hus0] at hp
    have hp2 : p = (b0, .cells C0 43 (0, 0)) ∨ p = (b1, .cells C1 43 (0, 0)) := by simpa using hp
    rcases hp2 with rfl | rfl
    · exact (B1.block b0 (blk_lt A1.out.2.1)).trans A1.out.2.1
    · exact (B1.block b1 (blk_lt A1.out.2.2)).trans A1.out.2.2
  have M0 : Hid (∀ vs : List (Nat × Obj), ((b0, .cells C0 43 (0, 0)) : Nat × Obj) ∈ vs ++ us0 ∧ ((b1, .cells C1 43 (0, 0)) : Nat × Obj) ∈ vs ++ us0) := fun vs => by rw [hus0]; simp
  have HW2 := hide (And.intro hHb hw2)
  clear hHb hw2 B1 hus0
  go_upto_region 3 with fail
  rw [← HW2.out.1, ← HW2.out.2]
  clear HW2
  go_upto_region 4 with (first
    | (refine wpList_load_row rfl 43 (.tmp 2) rfl b0 rfl 43 C0 (0, 0) _ (K2.out.usr _ (M0.out []).1).1 Tryd.underlying43 rfl i0.out.1 ?_)
    | (go_at_call 14; refine (CR0.out _ K2.out.below).mono ?_; rintro e w3 ⟨a9, c9, rfl, n3, b3⟩; have N3 := hide (And.intro n3 b3); clear n3 b3))
  obtain ⟨vs, hvs1, hvs2⟩ := Wn.ofNew N3.out.1
  obtain ⟨us, hus⟩ : ∃ us, us = vs ++ us0 := ⟨_, rfl⟩
  have M1 : Hid (((b0, .cells C0 43 (0, 0)) : Nat × Obj) ∈ us ∧ ((b1, .cells C1 43 (0, 0)) : Nat × Obj) ∈ us) := by rw [hus]; exact M0.out vs
  have WN : Hid (Wn us a9 c9 D0) := by rw [hus]; exact fun X hX => hvs1 X (fun p hp => hX p (List.mem_append_left _ hp))
  have k3 := K2.out.more N3.out.2 hvs2
  rw [← hus] at k3
  obtain ⟨lab3, hlab3⟩ : ∃ lab3 : Nat → Tag, lab3 = fun k => if k < w2.heap.size then (fun k => if k = Hb then .box else .user 0) k else .user 0 := ⟨_, rfl⟩
  rw [← hlab3] at k3
  have K3 := hide k3
  clear k3 hlab3 hus hvs1 hvs2 N3 K2 M0
  go_upto_region 5 with (first
    | (refine wpList_load_row rfl 43 (.tmp 2) rfl b0 rfl 43 C0 (0, 0) _ (K3.out.usr _ M1.out.1).1 Tryd.underlying43 rfl i0.out.1 ?_)
    | (go_at_call 15; refine (CT0.out _ K3.out.below).mono ?_; rintro e x4 ⟨a4, c4, rfl, o4, b4⟩; have O4 := hide (And.intro o4 b4); clear o4 b4)
    | (go_at_call 9; refine (K3.out.keep O4.out.2 (Below.refl _ _) O4.out.1 (.inl WN.out) (by have := HD.out.1; omega) (by simp)).mono ?_; rintro e w4 ⟨rfl, lab4, cw4, k4⟩; have K4 := hide k4; clear k4))
  have s5 : w4.drew.heap[b1]? = some (.cells C1 43 (0, 0)) := (K4.out.usr _ M1.out.2).1
  refine wp_region_held_drew (S := fun X => X.heap[b1]? = some (.cells C1 43 (0, 0))) (by kernel_rfl) s5 (fun _ => ?_)
  have K5 := hide (K4.out.later (Below.refl _ w4).drew)
  obtain ⟨x5, hx5⟩ : ∃ x5, x5 = w4.drew := ⟨_, rfl⟩
  rw [← hx5] at s5 K5 ⊢
  clear hx5 K4
  refine H_take (i := 0) (v := .pointer (some ⟨Hb, 0, none⟩)) (some 23) rfl rfl (by kernel_rfl) (by kernel_rfl) (by kernel_rfl) (fun _ _ _ h => h) rfl (fun X hX => ?_) s5 ?_
  · simp [go_sem]
  simp only [Act.put, List.setIfInBounds_toArray, List.set_cons_zero, List.set_cons_succ]
  refine H_take (i := 1) (v := .agg C1) (some 24) rfl rfl (by kernel_rfl) (by kernel_rfl) (by kernel_rfl) (fun _ _ _ h => h) rfl (fun X hX => ?_) s5 ?_
  · exact run_loadRow rfl rfl hX Tryd.underlying43 rfl i0.out.2
  simp only [Act.put, List.setIfInBounds_toArray, List.set_cons_zero, List.set_cons_succ]
  refine H_take (i := 3) (v := .agg C1) (some 26) rfl rfl (by kernel_rfl) (by kernel_rfl) (by kernel_rfl) (fun _ _ _ h => h) rfl (fun X hX => ?_) s5 ?_
  · exact run_loadRow rfl rfl hX Tryd.underlying43 rfl i0.out.2
  simp only [Act.put, List.setIfInBounds_toArray, List.set_cons_zero, List.set_cons_succ]
  refine H_call (i := 2) (f := 15) (args := #[.agg C1]) (some 25) rfl rfl (by kernel_rfl) rfl (by simp [go_sem]) ((CT1.out x5 K5.out.below).mono ?_)
  rintro e x6 ⟨a6, c6, rfl, o6, b6⟩
  have s6 : x6.heap[b1]? = some (.cells C1 43 (0, 0)) := (b6.block b1 (blk_lt s5)).trans s5
  have O6 := hide (And.intro o6 b6)
  refine ⟨_, rfl, s6, ?_⟩
  clear s5 o6 b6
  simp only [Act.put, List.setIfInBounds_toArray, List.set_cons_zero, List.set_cons_succ]
  refine H_call (i := 4) (f := 14) (args := #[.agg C1]) (some 27) rfl rfl (by kernel_rfl) rfl (by simp [go_sem]) ((CR1.out x6 (K5.out.below.trans (O6.out.2.mono K5.out.below.size))).mono ?_)
  rintro e x7 ⟨a7, c7, rfl, n7, b7⟩
  have s7 : x7.heap[b1]? = some (.cells C1 43 (0, 0)) := (b7.block b1 (blk_lt s6)).trans s6
  have N7 := hide (And.intro n7 b7)
  refine ⟨_, rfl, s7, ?_⟩
  clear s6 n7 b7
  simp only [Act.put, List.setIfInBounds_toArray, List.set_cons_zero, List.set_cons_succ]
  refine H_call (i := 5) (f := 9) (args := #[.pointer (some ⟨Hb, 0, none⟩), .slice a6 D1.length c6, .slice a7 D1.length c7]) (some 28) rfl rfl (by kernel_rfl) rfl (by simp [go_sem]) ((K5.out.keep O6.out.2 N7.out.2 O6.out.1 (.inr N7.out.1) (by have := HD.out.2; omega) (by simp)).mono ?_)
  rintro e w8 ⟨rfl, lab8, cw8, k8⟩
  have s8 : w8.heap[b1]? = some (.cells C1 43 (0, 0)) := (k8.usr _ M1.out.2).1
  have K8 := hide k8
  refine ⟨_, rfl, s8, ?_⟩
  clear s7 k8 K5 O6 N7
  simp only [Act.put, List.setIfInBounds_toArray, List.set_cons_zero, List.set_cons_succ]
  refine H_take (i := 6) (v := .bool true) (some 9) rfl rfl (by kernel_rfl) (by kernel_rfl) (by kernel_rfl) (fun _ _ _ h => h) rfl (fun X hX => ?_) s8 ?_
  · simp [go_sem]
  simp only [Act.put, List.setIfInBounds_toArray, List.set_cons_zero, List.set_cons_succ]
  refine wpAnyH_done (by kernel_rfl) ?_ _
  clear s8
  go_upto_region 7 with (first
    | (refine wpList_load_row rfl 43 (.tmp 2) rfl b0 rfl 43 C0 (0, 0) _ (K8.out.usr _ M1.out.1).1 Tryd.underlying43 rfl i0.out.1 ?_)
    | (go_at_call 15; refine (CT0.out _ K8.out.below).mono ?_; rintro e x9 ⟨a9_, c9_, rfl, o9, b9⟩; have O9 := hide (And.intro o9 b9); clear o9 b9)
    | (go_at_call 9; refine (K8.out.keep O9.out.2 (Below.refl _ _) O9.out.1 (.inl WN.out) (by have := HD.out.1; omega) (by simp)).mono ?_; rintro e w9 ⟨rfl, lab9, cw9, k9⟩; have K9 := hide k9; clear k9))
  have BL : Hid (∀ (j : Nat) e, (([] ++ [⟨.slice a4 D0.length c4, cw4, D0⟩] ++ [⟨.slice a6 D1.length c6, cw8, D1⟩] ++ [⟨.slice a9_ D0.length c9_, cw9, D0⟩] : List Ent))[j]? = some e → e.bytes.length ≤ 4294967296) := by
    intro j e he
    have hm := List.mem_of_getElem? he
    have h2 : e = ⟨.slice a4 D0.length c4, cw4, D0⟩ ∨ e = ⟨.slice a6 D1.length c6, cw8, D1⟩ ∨ e = ⟨.slice a9_ D0.length c9_, cw9, D0⟩ := by simpa using hm
    have := HD.out
    rcases h2 with rfl | rfl | rfl <;> simp only [] <;> omega
  go_upto_region 8 with (go_at_call 11; refine (K9.out.spoil (by simp) BL.out).mono ?_; rintro e w10 ⟨rfl, fv10, n10, lab10, es10, k10, l10⟩; have K10 := hide k10; clear k10)
  have L10 : Hid (es10.length ≤ 1073741824) := by show _ ≤ _; rw [l10]; simp
  clear l10 BL K9
  go_upto_region 9 with (first
    | (refine wpList_load_row rfl 43 (.tmp 2) rfl b0 rfl 43 C0 (0, 0) _ (K10.out.usr _ M1.out.1).1 Tryd.underlying43 rfl i0.out.1 ?_)
    | (go_at_call 15; refine (CT0.out _ K10.out.below).mono ?_; rintro e x11 ⟨a11, c11, rfl, o11, b11⟩; have O11 := hide (And.intro o11 b11); clear o11 b11)
    | (go_at_call 9; refine (K10.out.keep O11.out.2 (Below.refl _ _) O11.out.1 (.inl WN.out) (by have := HD.out.1; omega) L10.out).mono ?_; rintro e w11 ⟨rfl, lab11, cw11, k11⟩; have K11 := hide k11; clear k11))
  go_wp2_with fail
  go_ret
  exact ⟨rfl, K11.out.below⟩
end Go.Proofs.YthapbnlcodkalaaDoor.figuresShops
