/-
  The document's Get: kind 2, that there is one.
-/
import Derived.Test.YtjnjaojafimfeaaRefGet7
namespace Go.Proofs.Ytjnjaojafimfeaa
open Go.RowKit

set_option maxHeartbeats 4000000 in
set_option maxRecDepth 1000000 in
theorem refget_2_good (g o c : Nat) (x : UInt8) (l : List UInt8) (QL : Nat) (d : UInt8) (q : List UInt8) (y0 y1 y2 y3 y4 y5 y6 y7 y8 y9 y10 y11 y12 : Int) (w : World) (hb : IsBytes w (some ⟨g, o, none⟩) c (x :: l)) (hx : x.toNat = 2) (hlen : l.length = QL + 1 + 104) (hq : l.drop 104 = d :: q) (hql : q.length = QL) (hge : d.toNat ≤ QL) (hqb : QL ≤ 140737488300000) (hcz : ¬ c = 106) (hck : checkE ⟨2, setAll [3, 4, 5, 6, 7, 8, 9, 10, 11, 12, 13, 14, 15] [y0, y1, y2, y3, y4, y5, y6, y7, y8, y9, y10, y11, y12] (fun _ => 0), q.take d.toNat⟩ (QL - d.toNat) = 0) (hall : ∀ (j : Nat) y, [y0, y1, y2, y3, y4, y5, y6, y7, y8, y9, y10, y11, y12][j]? = some y → numO l j = some y) :
    Calls Try.prog 23 #[.slice (some ⟨g, o, none⟩) (QL + 1 + 105) c] w fun e w' => Below w.heap.size w w' ∧ ∃ v, e = .returned (getV ⟨2, setAll [3, 4, 5, 6, 7, 8, 9, 10, 11, 12, 13, 14, 15] [y0, y1, y2, y3, y4, y5, y6, y7, y8, y9, y10, y11, y12] (fun _ => 0), q.take d.toNat⟩ v 0) ∧ Own w' (w.heap.size + 1) v (q.drop d.toNat) := by
  have hc0 : w.cell? ⟨g, o, none⟩ = some (.int .u8 2) := by
    have := hb.cell 0 x rfl
    rw [hx] at this
    exact this
  have hg : g < w.heap.size := by have := cell_lt hc0; simpa using this
  have hcc : (QL + 1 + 105) ≤ c := by have := hb.1; rw [List.length_cons] at this; omega
  have hcm : c ≤ 9223372036854775807 := by have := hb.2.1; unfold maxLen at this; omega
  have CM : Hid (∀ W, Calls Try.prog 42 #[.int .i64 2] W fun e w' => e = .returned (.int .i64 13) ∧ w' = W) := fun W => many_any 2 W
  have CN : Hid (∀ W, Below w.heap.size w W → Calls Try.prog 43 #[.slice (some ⟨g, o, none⟩) (QL + 1 + 105) c, .int .i64 13] W fun e w' => ∃ gb cap, e = .returned (.tuple #[.slice (some ⟨gb, 0, none⟩) 13 cap, .bool true]) ∧ (W.heap.size ≤ gb ∧ gb < w'.heap.size ∧ 13 ≤ cap ∧ cap ≤ 9223372036854775807) ∧ (∀ (j : Nat) y, [y0, y1, y2, y3, y4, y5, y6, y7, y8, y9, y10, y11, y12][j]? = some y → w'.cell? ⟨gb, j, none⟩ = some (.int .i64 y)) ∧ Below W.heap.size W w') := fun W hW => by
    have := numbers_yes g o c x l [y0, y1, y2, y3, y4, y5, y6, y7, y8, y9, y10, y11, y12] W (hb.below hW) (by simp) (by simp) hall
    rw [hlen] at this
    exact this
  obtain ⟨C, hC⟩ : ∃ C, recA ⟨2, fun _ => 0, []⟩ (.slice none 0 0) = C := ⟨_, rfl⟩
  have HC1 : Hid (C.all (·.oneCell') = true ∧ C.size = 19) := ⟨by rw [← hC]; exact rec_one _ _ _ _, by rw [← hC]; rfl⟩
  obtain ⟨w1, hw1⟩ : ∃ w1, w1 = (w.alloc (.cells #[.int .i64 0, .int .i64 0, .int .i64 0, .int .i64 0, .int .i64 0, .int .i64 0, .int .i64 0, .int .i64 0, .int .i64 0, .int .i64 0, .int .i64 0, .int .i64 0, .int .i64 0, .int .i64 0, .int .i64 0, .int .i64 0, .int .i64 0, .string ⟨#[]⟩, .slice none 0 0] 34)).alloc (.cells C 34) := ⟨_, rfl⟩
  have R1 : Hid (RecAt w1 w.heap.size zeroR (.slice none 0 0) ∧ Below w.heap.size w w1 ∧ RecAt w1 (w.heap.size + 1) ⟨2, fun _ => 0, []⟩ (.slice none 0 0) ∧ w1.heap.size = w.heap.size + 2) := ⟨by rw [hw1]; exact heap_alloc2_old w _ _, by rw [hw1]; exact ((Below.refl _ w).alloc (Nat.le_refl _) _).alloc (by simp) _, by rw [hw1, ← hC]; exact heap_alloc2_new w _ _, by rw [hw1]; simp⟩
  have x0 : w1.cell? ⟨w.heap.size + 1, 0, none⟩ = some (.int .i64 2) := R1.out.2.2.1.cell 0
  have HW1 := hideN hw1
  have hCl : (#[.int .i64 2, .int .i64 0, .int .i64 0, .int .i64 0, .int .i64 0, .int .i64 0, .int .i64 0, .int .i64 0, .int .i64 0, .int .i64 0, .int .i64 0, .int .i64 0, .int .i64 0, .int .i64 0, .int .i64 0, .int .i64 0, .int .i64 0, .string ⟨#[]⟩, .slice none 0 0] : Array Value) = C := hC
  obtain ⟨z, hz⟩ : ∃ z, z = checkE ⟨2, setAll [3, 4, 5, 6, 7, 8, 9, 10, 11, 12, 13, 14, 15] [y0, y1, y2, y3, y4, y5, y6, y7, y8, y9, y10, y11, y12] (fun _ => 0), q.take d.toNat⟩ (QL - d.toNat) := ⟨_, rfl⟩
  rw [← hz] at hck
  have hzb : (z != 0) = false := by simp [hck]
  obtain ⟨TL, hTL⟩ : ∃ TL, TL = q.take d.toNat := ⟨_, rfl⟩
  have CC : Hid (∀ W a6 c6, Calls Try.prog 16 #[.agg (recA ⟨2, setAll [3, 4, 5, 6, 7, 8, 9, 10, 11, 12, 13, 14, 15] [y0, y1, y2, y3, y4, y5, y6, y7, y8, y9, y10, y11, y12] (fun _ => 0), TL⟩ (.slice a6 (QL - d.toNat) c6))] W fun e w' => e = .returned (.int .i64 z) ∧ Below W.heap.size W w') := fun W a6 c6 => by
    have := refCheck_any ⟨2, setAll [3, 4, 5, 6, 7, 8, 9, 10, 11, 12, 13, 14, 15] [y0, y1, y2, y3, y4, y5, y6, y7, y8, y9, y10, y11, y12] (fun _ => 0), TL⟩ a6 (QL - d.toNat) c6 W
    rw [ref_check, hTL, ← hz] at this
    rw [hTL]
    exact this
  have HTL := hideN (And.intro hTL hql)
  clear hz hck hTL
  obtain ⟨O, hO⟩ : ∃ O, o + 105 = O := ⟨_, rfl⟩
  obtain ⟨cc, hcc2⟩ : ∃ cc, c - 105 = cc := ⟨_, rfl⟩
  have hc105 : ¬ c = 105 := by omega
  have hccq : QL + 1 ≤ cc := by omega
  have hccm : cc ≤ 9223372036854775807 := by omega
  have IB : Hid (IsBytes w (some ⟨g, O, none⟩) cc (d :: q)) := by
    have := hb.drop 105 (by rw [List.length_cons]; omega)
    rw [if_neg hc105, hO, hcc2, List.drop_succ_cons, hq] at this
    exact this
  have hd255 : (d.toNat : Int) ≤ 255 := by have := d.toNat_lt; omega
  have hd64 : wrap64 (d.toNat : Int) = (d.toNat : Int) := wrap64_u8 d
  have hl0 : ((QL : Int) + 1 == 0) = false := by simp; omega
  have hcc1 : ¬ cc = 1 := cc_ne hcc2 hcz
  obtain ⟨J, hJ⟩ : ∃ J : Array Value, J = #[.int .i64 y0, .int .i64 y1, .int .i64 y2, .int .i64 y3, .int .i64 y4, .int .i64 y5, .int .i64 y6, .int .i64 y7, .int .i64 y8, .int .i64 y9, .int .i64 y10, .int .i64 y11, .int .i64 y12, .string ⟨#[]⟩, .slice none 0 0] := ⟨_, rfl⟩
  have HJ : Hid (J = #[.int .i64 y0, .int .i64 y1, .int .i64 y2, .int .i64 y3, .int .i64 y4, .int .i64 y5, .int .i64 y6, .int .i64 y7, .int .i64 y8, .int .i64 y9, .int .i64 y10, .int .i64 y11, .int .i64 y12, .string ⟨#[]⟩, .slice none 0 0] ∧ J.size = 15 ∧ J.all (·.oneCell') = true) := ⟨hJ, by rw [hJ]; rfl, by rw [hJ]; simp [Value.oneCell']⟩
  have CJ : Hid (∀ W gb cap, 13 ≤ cap ∧ cap ≤ 9223372036854775807 → (∀ (j : Nat) y, [y0, y1, y2, y3, y4, y5, y6, y7, y8, y9, y10, y11, y12][j]? = some y → W.cell? ⟨gb, j, none⟩ = some (.int .i64 y)) → gb < W.heap.size → Calls Try.prog 44 #[.slice (some ⟨gb, 0, none⟩) 13 cap, .bool true] W fun e w' => e = .returned (.agg J) ∧ Below W.heap.size W w') := fun W gb cap h1 h2 h3 => by
    rw [hJ]
    exact job_whole y0 y1 y2 y3 y4 y5 y6 y7 y8 y9 y10 y11 y12 gb cap W h1 h2 h3
  clear hJ
  clear hb hx hw1 hC hall hlen hq
  go_enter Try.func23, Try.ntmps23
  go_upto_region 4 with (refine wpList_store_new rfl 34 (.tmp 4) (.tmp 30) rfl C (by rw [World.size_alloc]; rfl) (by rfl) 34 _ (by rw [HC1.out.2]; exact info_rec) (by rw [HC1.out.2]; rfl) HC1.out.1 ?_)
  clear hCl
  rw [← HW1.out]
  clear HW1 hc0 hg
  go_upto_region 8 with (first
    | (go_at_call 42; refine (CM.out _).mono ?_; rintro e w3 ⟨rfl, hw3⟩; obtain rfl := hw3.symm)
    | (go_at_call 43; refine (CN.out _ R1.out.2.1).mono ?_; rintro e w2 ⟨gb, cap, rfl, hgb, hcells, B2⟩
       have R2 : Hid (RecAt w2 w.heap.size zeroR (.slice none 0 0) ∧ Below w.heap.size w w2 ∧ RecAt w2 (w.heap.size + 1) ⟨2, fun _ => 0, []⟩ (.slice none 0 0) ∧ w.heap.size + 2 ≤ gb ∧ gb < w2.heap.size) := ⟨R1.out.1.below B2, R1.out.2.1.trans (B2.mono R1.out.2.1.size), R1.out.2.2.1.below B2, by rw [← R1.out.2.2.2]; exact hgb.1, hgb.2.1⟩
       have HCE := hideN hcells
       have hcap1 := hgb.2.2.1
       have hcap2 := hgb.2.2.2
       clear B2 hgb hcells))
  have z0 : w2.cell? ⟨w.heap.size + 1, 0, none⟩ = some (.int .i64 2) := R2.out.2.2.1.cell 0
  go_upto_region 19 with (first
    | (go_at_call 44; refine (CJ.out _ gb cap ⟨hcap1, hcap2⟩ HCE.out R2.out.2.2.2.2).mono ?_; rintro e w3 ⟨rfl, B3⟩
       have R3 : Hid (RecAt w3 (w.heap.size + 1) ⟨2, fun _ => 0, []⟩ (.slice none 0 0) ∧ RecAt w3 w.heap.size zeroR (.slice none 0 0) ∧ Below w.heap.size w w3) := ⟨R2.out.2.2.1.below B3, R2.out.1.below B3, R2.out.2.1.trans (B3.mono R2.out.2.1.size)⟩
       clear B3)
    | (refine wpList_store_mid rfl 32 (.tmp 75) (.tmp 74) rfl (w.heap.size + 1) 4 J rfl rfl (by rw [HJ.out.2.1]; exact R3.out.1.there4) (by rw [HJ.out.2.1]; exact info_stored) HJ.out.2.2 ?_
       obtain ⟨w4, hw4⟩ : ∃ w4, w4 = w3.setCells (w.heap.size + 1) 4 J.toList := ⟨_, rfl⟩
       rw [← hw4]
       have R4 : Hid (RecAt w4 (w.heap.size + 1) ⟨2, setAll [3, 4, 5, 6, 7, 8, 9, 10, 11, 12, 13, 14, 15] [y0, y1, y2, y3, y4, y5, y6, y7, y8, y9, y10, y11, y12] (fun _ => 0), []⟩ (.slice none 0 0) ∧ RecAt w4 w.heap.size zeroR (.slice none 0 0) ∧ Below w.heap.size w w4) := by
         rw [hw4, HJ.out.1]
         exact ⟨RecAt.job_whole _ _ _ _ _ _ _ _ _ _ _ _ _ R3.out.1, (setCells_other _ _ _ _ (by omega) _).trans R3.out.2.1, below_setCells (Nat.le_succ _) _ R3.out.2.2 _⟩
       clear hw4))
  clear z0
  have e0 : w4.cell? ⟨g, O, none⟩ = some (.int .u8 (d.toNat : Int)) := (IB.out.below R4.out.2.2).cell 0 d rfl
  have hni : ¬ ((QL : Int) + 1 < 1 + (d.toNat : Int)) := by omega
  obtain ⟨T, hT⟩ : ∃ T : ByteArray, T = ⟨TL.toArray⟩ := ⟨_, rfl⟩
  have kc : (convert 30 9 (.slice (some ⟨g, O + 1, none⟩) d.toNat (cc - 1))).run Try.prog w4 = .ok (.string T) w4 := by
    rw [hT, HTL.out.1]
    have hd1 := IB.out.drop 1 (by simp)
    rw [if_neg hcc1] at hd1
    exact conv_is ((hd1.take d.toNat).below R4.out.2.2) (by show (List.take d.toNat q).length = _; rw [List.length_take]; have := HTL.out.2; omega)
  have z17 : w4.cell? ⟨w.heap.size + 1, 17, none⟩ = some (.string ⟨#[]⟩) := R4.out.1.cell 17
  have f17 : w4.frozen? ⟨w.heap.size + 1, 17, none⟩ = false := R4.out.1.frozen 17
  obtain ⟨w5, hw5⟩ : ∃ w5, w5 = w4.setCell ⟨w.heap.size + 1, 17, none⟩ (.string T) := ⟨_, rfl⟩
  have R5 : Hid (RecAt w5 (w.heap.size + 1) ⟨2, setAll [3, 4, 5, 6, 7, 8, 9, 10, 11, 12, 13, 14, 15] [y0, y1, y2, y3, y4, y5, y6, y7, y8, y9, y10, y11, y12] (fun _ => 0), TL⟩ (.slice none 0 0) ∧ RecAt w5 w.heap.size zeroR (.slice none 0 0) ∧ Below w.heap.size w w5) := by
    refine ⟨?_, ?_, ?_⟩
    · rw [hw5, hT]; exact R4.out.1.setTube TL
    · rw [hw5]
      exact (heap_setCell_other w4 ⟨w.heap.size + 1, 17, none⟩ w.heap.size _ (by show w.heap.size ≠ w.heap.size + 1; omega)).trans R4.out.2.1
    · rw [hw5]; exact below_setCell R4.out.2.2 (Nat.le_succ _)
  have HW5 := hideN hw5
  clear hw5 hT
  go_upto_region 23 with fail
  rw [← HW5.out]
  clear HW5 z17 f17 kc e0
  have p18 : w5.cell? ⟨w.heap.size + 1, 18, none⟩ = some (.slice none 0 0) := R5.out.1.cell 18
  have p18d : w5.drew.cell? ⟨w.heap.size + 1, 18, none⟩ = some (.slice none 0 0) := p18
  obtain ⟨a3, ha3⟩ : ∃ a3, a3 = (if cc = 1 + d.toNat then some ⟨g, O, none⟩ else some ⟨g, O + (1 + d.toNat), none⟩ : Option Addr) := ⟨_, rfl⟩
  obtain ⟨BL, hBL⟩ : ∃ BL, BL = QL - d.toNat := ⟨_, rfl⟩
  have HIB : Hid (IsBytes w5 a3 (cc - (1 + d.toNat)) (q.drop d.toNat) ∧ (q.drop d.toNat).length = BL) := by
    have := (IB.out.below R5.out.2.2).drop (1 + d.toNat) (by rw [List.length_cons]; have := HTL.out.2; omega)
    rw [show (d :: q).drop (1 + d.toNat) = q.drop d.toNat by rw [Nat.add_comm]; rfl, ← ha3] at this
    exact ⟨this, by rw [List.length_drop, hBL]; have := HTL.out.2; omega⟩
  obtain ⟨v3, hv3⟩ : ∃ v, v = Value.slice a3 BL (cc - (1 + d.toNat)) := ⟨_, rfl⟩
  have HV3 : Hid (v3 = .slice (if cc = 1 + d.toNat then some ⟨g, O, none⟩ else some ⟨g, O + (1 + d.toNat), none⟩) (QL + 1 - (1 + d.toNat)) (cc - (1 + d.toNat))) := by show _ = _; rw [hv3, ha3, hBL, show QL + 1 - (1 + d.toNat) = QL - d.toNat by omega]
  have HV4 := hideN hv3
  have HBLq : Hid (BL = QL - d.toNat ∧ BL ≤ QL) := ⟨hBL, by omega⟩
  clear hv3 ha3 hBL
  refine wp_region_any mixed ?_
  refine A_take (i := 0) (v := .pointer (some ⟨w.heap.size + 1, 4, none⟩)) (some 101) rfl rfl (by kernel_rfl) (by kernel_rfl) (by kernel_rfl) (fun _ _ _ h => h) (.inl ⟨rfl, fun w => ?_⟩) ?_
  · go_simp
  simp only [Act.put, List.setIfInBounds_toArray, List.set_cons_zero, List.set_cons_succ]
  refine A_take (i := 1) (v := .pointer (some ⟨w.heap.size + 1, 18, none⟩)) (some 102) rfl rfl (by kernel_rfl) (by kernel_rfl) (by kernel_rfl) (fun _ _ _ h => h) (.inl ⟨rfl, fun w => ?_⟩) ?_
  · go_simp
  simp only [Act.put, List.setIfInBounds_toArray, List.set_cons_zero, List.set_cons_succ]
  refine A_take (i := 3) (v := .slice (some ⟨g, O, none⟩) (QL + 1) cc) (some 104) rfl rfl (by kernel_rfl) (by kernel_rfl) (by kernel_rfl) (fun _ _ _ h => h) (.inl ⟨rfl, fun w => ?_⟩) ?_
  · go_simp
  simp only [Act.put, List.setIfInBounds_toArray, List.set_cons_zero, List.set_cons_succ]
  refine A_take (i := 4) (v := .int .i64 (1 + (d.toNat : Int))) (some 105) rfl rfl (by kernel_rfl) (by kernel_rfl) (by kernel_rfl) (fun _ _ _ h => h) (.inl ⟨rfl, fun w => ?_⟩) ?_
  · go_simp
  simp only [Act.put, List.setIfInBounds_toArray, List.set_cons_zero, List.set_cons_succ]
  refine A_take (i := 5) (v := v3) (some 106) rfl rfl (by kernel_rfl) (by kernel_rfl) (by kernel_rfl) (fun _ _ _ h => h) (.inl ⟨rfl, fun w => ?_⟩) ?_
  · rw [HV3.out]
    simp [go_sem]
    rw [if_pos ⟨by omega, by omega⟩, show (1 + (d.toNat : Int)).toNat = 1 + d.toNat by omega]
  simp only [Act.put, List.setIfInBounds_toArray, List.set_cons_zero, List.set_cons_succ]
  refine C_take (i := 2) (v := .slice none 0 0) (Cl := fun X => X.cell? ⟨w.heap.size + 1, 18, none⟩ = some (.slice none 0 0)) (D := [6, 7, 8, 9]) (E := []) (some 103) rfl rfl (by kernel_rfl) (fun j hj oj ho => by cases hj) (fun _ _ _ h => h) p18d ⟨rfl, fun X hX => ?_⟩ ?_
  · go_simp
  simp only [Act.put, List.setIfInBounds_toArray, List.set_cons_zero, List.set_cons_succ]
  refine wpAny_all (rs := [6]) (by kernel_rfl) (by decide) (fun i hi => ?_)
  obtain rfl : i = 6 := by simpa using hi
  refine D_append8 (some 107) rfl rfl rfl (.tmp 103) (.tmp 106) rfl w5.heap.size (.slice none 0 0) [] (by rfl) (Own.nil _ _) a3 (cc - (1 + d.toNat)) (q.drop d.toNat) (by rw [HIB.out.2]; exact HV4.out) (HIB.out.1.below (Below.refl _ _).drew) (by rw [HIB.out.2, List.length_nil]; exact bl_le HBLq.out.2 hqb) (Nat.le_refl _) ?_
  intro v6 w6 o6 g6
  obtain ⟨a6, c6, rfl, _⟩ := o6.shape
  have e6 : (([] : List UInt8) ++ q.drop d.toNat).length = BL := HIB.out.2
  rw [e6] at o6 ⊢
  clear e6
  have B6 : Below w5.heap.size w5 w6 := (Below.refl _ w5).drew.trans (below_of_none g6)
  have O6 := hideN (And.intro (show Own w6 w5.heap.size (.slice a6 BL c6) (q.drop d.toNat) from o6) (show w.heap.size + 1 < w5.heap.size from R5.out.1.lt))
  have R6 : Hid (RecAt w6 (w.heap.size + 1) ⟨2, setAll [3, 4, 5, 6, 7, 8, 9, 10, 11, 12, 13, 14, 15] [y0, y1, y2, y3, y4, y5, y6, y7, y8, y9, y10, y11, y12] (fun _ => 0), TL⟩ (.slice none 0 0) ∧ RecAt w6 w.heap.size zeroR (.slice none 0 0) ∧ Below w.heap.size w w6) := ⟨R5.out.1.below B6, R5.out.2.1.below B6, R5.out.2.2.trans (B6.mono R5.out.2.2.size)⟩
  have u18 : w6.cell? ⟨w.heap.size + 1, 18, none⟩ = some (.slice none 0 0) := R6.out.1.cell 18
  have uf18 : w6.frozen? ⟨w.heap.size + 1, 18, none⟩ = false := R6.out.1.frozen 18
  clear o6 g6 B6
  simp only [Act.put, List.setIfInBounds_toArray, List.set_cons_zero, List.set_cons_succ]
  refine A_take (i := 7) (v := .pointer (some ⟨w.heap.size + 1, 4, none⟩)) (some 108) rfl rfl (by kernel_rfl) (by kernel_rfl) (by kernel_rfl) (fun _ _ _ h => h) (.inl ⟨rfl, fun w => ?_⟩) ?_
  · go_simp
  simp only [Act.put, List.setIfInBounds_toArray, List.set_cons_zero, List.set_cons_succ]
  refine A_take (i := 8) (v := .pointer (some ⟨w.heap.size + 1, 18, none⟩)) (some 109) rfl rfl (by kernel_rfl) (by kernel_rfl) (by kernel_rfl) (fun _ _ _ h => h) (.inl ⟨rfl, fun w => ?_⟩) ?_
  · go_simp
  simp only [Act.put, List.setIfInBounds_toArray, List.set_cons_zero, List.set_cons_succ]
  refine wpAny_all (rs := [9]) (by kernel_rfl) (by decide) (fun i hi => ?_)
  obtain rfl : i = 9 := by simpa using hi
  refine D_skip (w' := w6.setCell ⟨w.heap.size + 1, 18, none⟩ (.slice a6 BL c6)) rfl rfl rfl ?_ ?_
  · simp [go_sem, u18, uf18]
  refine wpAny_done (by kernel_rfl) ?_ _
  obtain ⟨w7, hw7⟩ : ∃ w7, w7 = w6.setCell ⟨w.heap.size + 1, 18, none⟩ (.slice a6 BL c6) := ⟨_, rfl⟩
  rw [← hw7]
  have R4' : Hid (RecAt w7 (w.heap.size + 1) ⟨2, setAll [3, 4, 5, 6, 7, 8, 9, 10, 11, 12, 13, 14, 15] [y0, y1, y2, y3, y4, y5, y6, y7, y8, y9, y10, y11, y12] (fun _ => 0), TL⟩ (.slice a6 BL c6) ∧ RecAt w7 w.heap.size zeroR (.slice none 0 0) ∧ Below w.heap.size w w7 ∧ Own w7 (w.heap.size + 1) (.slice a6 BL c6) (q.drop d.toNat)) := by
    refine ⟨?_, ?_, ?_, ?_⟩
    · rw [hw7]; exact R6.out.1.setBody _
    · rw [hw7]
      exact (heap_setCell_other w6 ⟨w.heap.size + 1, 18, none⟩ w.heap.size _ (by show w.heap.size ≠ w.heap.size + 1; omega)).trans R6.out.2.1
    · rw [hw7]; exact below_setCell R6.out.2.2 (Nat.le_succ _)
    · rw [hw7]
      have := (R6.out.1.set18 (.slice a6 BL c6)).2.Own O6.out.1 (fun g hg e => by have := (O6.out.1.lt g hg).1; have := O6.out.2; omega)
      exact this.mono (by have := O6.out.2; omega)
  clear hw7 p18 p18d u18 uf18
  rw [← HBLq.out.1] at CC
  obtain ⟨D, hD⟩ : ∃ D, D = recA ⟨2, setAll [3, 4, 5, 6, 7, 8, 9, 10, 11, 12, 13, 14, 15] [y0, y1, y2, y3, y4, y5, y6, y7, y8, y9, y10, y11, y12] (fun _ => 0), TL⟩ (.slice a6 BL c6) := ⟨_, rfl⟩
  have HD : Hid (D = recA ⟨2, setAll [3, 4, 5, 6, 7, 8, 9, 10, 11, 12, 13, 14, 15] [y0, y1, y2, y3, y4, y5, y6, y7, y8, y9, y10, y11, y12] (fun _ => 0), TL⟩ (.slice a6 BL c6) ∧ D.size = 19 ∧ D.all (·.oneCell') = true) := ⟨hD, by rw [hD]; rfl, by rw [hD]; exact rec_one _ _ _ _⟩
  have CD : Hid (∀ W, Calls Try.prog 16 #[.agg D] W fun e w' => e = .returned (.int .i64 z) ∧ Below W.heap.size W w') := fun W => by
    rw [hD]
    exact CC.out W a6 c6
  clear hD CC
  go_upto_region 27 with (first
    | (refine wpList_load_wanted (by rfl) 34 (.tmp 4) rfl (w.heap.size + 1) rfl 34 D (0, 0) _ (by rw [HD.out.1]; exact R4'.out.1) under_rec rfl (by rw [HD.out.2.1]; exact info_rec) ?_)
    | (go_at_call 16; refine (CD.out _).mono ?_; rintro e w8 ⟨rfl, B8⟩
       have R8 : Hid (RecAt w8 (w.heap.size + 1) ⟨2, setAll [3, 4, 5, 6, 7, 8, 9, 10, 11, 12, 13, 14, 15] [y0, y1, y2, y3, y4, y5, y6, y7, y8, y9, y10, y11, y12] (fun _ => 0), TL⟩ (.slice a6 BL c6) ∧ RecAt w8 w.heap.size zeroR (.slice none 0 0) ∧ Below w.heap.size w w8 ∧ Own w8 (w.heap.size + 1) (.slice a6 BL c6) (q.drop d.toNat)) := ⟨R4'.out.1.below B8, R4'.out.2.1.below B8, R4'.out.2.2.1.trans (B8.mono R4'.out.2.2.1.size), R4'.out.2.2.2.below B8⟩
       clear B8))
  go_wp2_with (first
    | (refine wpList_load_row rfl 34 (.tmp 4) rfl (w.heap.size + 1) rfl 34 D (0, 0) _ (by rw [HD.out.1]; exact R8.out.1) under_rec rfl (by rw [HD.out.2.1]; exact info_rec) ?_)
    | (refine wpList_store_row rfl 34 (.tmp 2) (.tmp 119) rfl w.heap.size D rfl rfl 34 (recA zeroR (.slice none 0 0)) R8.out.2.1 (by rw [HD.out.2.1]; exact info_rec) (by rw [HD.out.2.1]; rfl) HD.out.2.2 ?_))
  refine bodyPost_ret (results_ct_row rfl _ _ w.heap.size 34 _ (0, 0) _ rfl (setRow_heap _ _ _ _ _ _ R8.out.2.1) under_rec rfl (by rw [HD.out.2.1]; exact info_rec)) rfl ?_
  refine ⟨below_setRow R8.out.2.2.1 (Nat.le_refl _), .slice a6 BL c6, ?_, ?_⟩
  · rw [HD.out.1, HTL.out.1]
    rfl
  · exact (Kept.setRow (fun k => k = w.heap.size) w8 w.heap.size D rfl).Own R8.out.2.2.2 (fun g hg e => by have := (R8.out.2.2.2.lt g hg).1; omega)
set_option maxHeartbeats 4000000 in
set_option maxRecDepth 1000000 in
theorem refget_2_z (g o c : Nat) (x : UInt8) (l : List UInt8) (d : UInt8) (y0 y1 y2 y3 y4 y5 y6 y7 y8 y9 y10 y11 y12 : Int) (w : World) (hb : IsBytes w (some ⟨g, o, none⟩) c (x :: l)) (hx : x.toNat = 2) (hlen : l.length = 105) (hq : l.drop 104 = [d]) (hd0 : d.toNat = 0) (hcz : c = 106) (hck : checkE ⟨2, setAll [3, 4, 5, 6, 7, 8, 9, 10, 11, 12, 13, 14, 15] [y0, y1, y2, y3, y4, y5, y6, y7, y8, y9, y10, y11, y12] (fun _ => 0), []⟩ 0 ≠ 0) (hall : ∀ (j : Nat) y, [y0, y1, y2, y3, y4, y5, y6, y7, y8, y9, y10, y11, y12][j]? = some y → numO l j = some y) :
    Calls Try.prog 23 #[.slice (some ⟨g, o, none⟩) 106 c] w fun e w' => Below w.heap.size w w' ∧ e = .returned (getV zeroR (.slice none 0 0) 102) := by
  subst hcz
  have hc0 : w.cell? ⟨g, o, none⟩ = some (.int .u8 2) := by
    have := hb.cell 0 x rfl
    rw [hx] at this
    exact this
  have hg : g < w.heap.size := by have := cell_lt hc0; simpa using this
  have hcc : 106 ≤ 106 := Nat.le_refl _
  have CM : Hid (∀ W, Calls Try.prog 42 #[.int .i64 2] W fun e w' => e = .returned (.int .i64 13) ∧ w' = W) := fun W => many_any 2 W
  have CN : Hid (∀ W, Below w.heap.size w W → Calls Try.prog 43 #[.slice (some ⟨g, o, none⟩) 106 106, .int .i64 13] W fun e w' => ∃ gb cap, e = .returned (.tuple #[.slice (some ⟨gb, 0, none⟩) 13 cap, .bool true]) ∧ (W.heap.size ≤ gb ∧ gb < w'.heap.size ∧ 13 ≤ cap ∧ cap ≤ 9223372036854775807) ∧ (∀ (j : Nat) y, [y0, y1, y2, y3, y4, y5, y6, y7, y8, y9, y10, y11, y12][j]? = some y → w'.cell? ⟨gb, j, none⟩ = some (.int .i64 y)) ∧ Below W.heap.size W w') := fun W hW => by
    have := numbers_yes g o 106 x l [y0, y1, y2, y3, y4, y5, y6, y7, y8, y9, y10, y11, y12] W (hb.below hW) (by simp) (by simp) hall
    rw [hlen] at this
    exact this
  obtain ⟨C, hC⟩ : ∃ C, recA ⟨2, fun _ => 0, []⟩ (.slice none 0 0) = C := ⟨_, rfl⟩
  have HC1 : Hid (C.all (·.oneCell') = true ∧ C.size = 19) := ⟨by rw [← hC]; exact rec_one _ _ _ _, by rw [← hC]; rfl⟩
  obtain ⟨w1, hw1⟩ : ∃ w1, w1 = (w.alloc (.cells #[.int .i64 0, .int .i64 0, .int .i64 0, .int .i64 0, .int .i64 0, .int .i64 0, .int .i64 0, .int .i64 0, .int .i64 0, .int .i64 0, .int .i64 0, .int .i64 0, .int .i64 0, .int .i64 0, .int .i64 0, .int .i64 0, .int .i64 0, .string ⟨#[]⟩, .slice none 0 0] 34)).alloc (.cells C 34) := ⟨_, rfl⟩
  have R1 : Hid (RecAt w1 w.heap.size zeroR (.slice none 0 0) ∧ Below w.heap.size w w1 ∧ RecAt w1 (w.heap.size + 1) ⟨2, fun _ => 0, []⟩ (.slice none 0 0) ∧ w1.heap.size = w.heap.size + 2) := ⟨by rw [hw1]; exact heap_alloc2_old w _ _, by rw [hw1]; exact ((Below.refl _ w).alloc (Nat.le_refl _) _).alloc (by simp) _, by rw [hw1, ← hC]; exact heap_alloc2_new w _ _, by rw [hw1]; simp⟩
  have x0 : w1.cell? ⟨w.heap.size + 1, 0, none⟩ = some (.int .i64 2) := R1.out.2.2.1.cell 0
  have HW1 := hideN hw1
  have hCl : (#[.int .i64 2, .int .i64 0, .int .i64 0, .int .i64 0, .int .i64 0, .int .i64 0, .int .i64 0, .int .i64 0, .int .i64 0, .int .i64 0, .int .i64 0, .int .i64 0, .int .i64 0, .int .i64 0, .int .i64 0, .int .i64 0, .int .i64 0, .string ⟨#[]⟩, .slice none 0 0] : Array Value) = C := hC
  obtain ⟨z, hz⟩ : ∃ z, z = checkE ⟨2, setAll [3, 4, 5, 6, 7, 8, 9, 10, 11, 12, 13, 14, 15] [y0, y1, y2, y3, y4, y5, y6, y7, y8, y9, y10, y11, y12] (fun _ => 0), []⟩ 0 := ⟨_, rfl⟩
  rw [← hz] at hck
  have hzb : (z != 0) = true := by simp [hck]
  obtain ⟨TL, hTL⟩ : ∃ TL, TL = [] := ⟨_, rfl⟩
  have CC : Hid (∀ W a6 c6, Calls Try.prog 16 #[.agg (recA ⟨2, setAll [3, 4, 5, 6, 7, 8, 9, 10, 11, 12, 13, 14, 15] [y0, y1, y2, y3, y4, y5, y6, y7, y8, y9, y10, y11, y12] (fun _ => 0), TL⟩ (.slice a6 0 c6))] W fun e w' => e = .returned (.int .i64 z) ∧ Below W.heap.size W w') := fun W a6 c6 => by
    have := refCheck_any ⟨2, setAll [3, 4, 5, 6, 7, 8, 9, 10, 11, 12, 13, 14, 15] [y0, y1, y2, y3, y4, y5, y6, y7, y8, y9, y10, y11, y12] (fun _ => 0), TL⟩ a6 0 c6 W
    rw [ref_check, hTL, ← hz] at this
    rw [hTL]
    exact this
  have HTL := hideN hTL
  clear hz hck hTL
  obtain ⟨O, hO⟩ : ∃ O, o + 105 = O := ⟨_, rfl⟩
  have IB : Hid (IsBytes w (some ⟨g, O, none⟩) 1 [d]) := by
    have := hb.drop 105 (by rw [List.length_cons]; omega)
    rw [if_neg (by decide), hO, List.drop_succ_cons, hq] at this
    exact this
  obtain ⟨J, hJ⟩ : ∃ J : Array Value, J = #[.int .i64 y0, .int .i64 y1, .int .i64 y2, .int .i64 y3, .int .i64 y4, .int .i64 y5, .int .i64 y6, .int .i64 y7, .int .i64 y8, .int .i64 y9, .int .i64 y10, .int .i64 y11, .int .i64 y12, .string ⟨#[]⟩, .slice none 0 0] := ⟨_, rfl⟩
  have HJ : Hid (J = #[.int .i64 y0, .int .i64 y1, .int .i64 y2, .int .i64 y3, .int .i64 y4, .int .i64 y5, .int .i64 y6, .int .i64 y7, .int .i64 y8, .int .i64 y9, .int .i64 y10, .int .i64 y11, .int .i64 y12, .string ⟨#[]⟩, .slice none 0 0] ∧ J.size = 15 ∧ J.all (·.oneCell') = true) := ⟨hJ, by rw [hJ]; rfl, by rw [hJ]; simp [Value.oneCell']⟩
  have CJ : Hid (∀ W gb cap, 13 ≤ cap ∧ cap ≤ 9223372036854775807 → (∀ (j : Nat) y, [y0, y1, y2, y3, y4, y5, y6, y7, y8, y9, y10, y11, y12][j]? = some y → W.cell? ⟨gb, j, none⟩ = some (.int .i64 y)) → gb < W.heap.size → Calls Try.prog 44 #[.slice (some ⟨gb, 0, none⟩) 13 cap, .bool true] W fun e w' => e = .returned (.agg J) ∧ Below W.heap.size W w') := fun W gb cap h1 h2 h3 => by
    rw [hJ]
    exact job_whole y0 y1 y2 y3 y4 y5 y6 y7 y8 y9 y10 y11 y12 gb cap W h1 h2 h3
  clear hJ
  clear hb hx hw1 hC hall hlen hq
  go_enter Try.func23, Try.ntmps23
  go_upto_region 4 with (refine wpList_store_new rfl 34 (.tmp 4) (.tmp 30) rfl C (by rw [World.size_alloc]; rfl) (by rfl) 34 _ (by rw [HC1.out.2]; exact info_rec) (by rw [HC1.out.2]; rfl) HC1.out.1 ?_)
  clear hCl
  rw [← HW1.out]
  clear HW1 hc0 hg
  go_upto_region 8 with (first
    | (go_at_call 42; refine (CM.out _).mono ?_; rintro e w3 ⟨rfl, hw3⟩; obtain rfl := hw3.symm)
    | (go_at_call 43; refine (CN.out _ R1.out.2.1).mono ?_; rintro e w2 ⟨gb, cap, rfl, hgb, hcells, B2⟩
       have R2 : Hid (RecAt w2 w.heap.size zeroR (.slice none 0 0) ∧ Below w.heap.size w w2 ∧ RecAt w2 (w.heap.size + 1) ⟨2, fun _ => 0, []⟩ (.slice none 0 0) ∧ w.heap.size + 2 ≤ gb ∧ gb < w2.heap.size) := ⟨R1.out.1.below B2, R1.out.2.1.trans (B2.mono R1.out.2.1.size), R1.out.2.2.1.below B2, by rw [← R1.out.2.2.2]; exact hgb.1, hgb.2.1⟩
       have HCE := hideN hcells
       have hcap1 := hgb.2.2.1
       have hcap2 := hgb.2.2.2
       clear B2 hgb hcells))
  have z0 : w2.cell? ⟨w.heap.size + 1, 0, none⟩ = some (.int .i64 2) := R2.out.2.2.1.cell 0
  go_upto_region 19 with (first
    | (go_at_call 44; refine (CJ.out _ gb cap ⟨hcap1, hcap2⟩ HCE.out R2.out.2.2.2.2).mono ?_; rintro e w3 ⟨rfl, B3⟩
       have R3 : Hid (RecAt w3 (w.heap.size + 1) ⟨2, fun _ => 0, []⟩ (.slice none 0 0) ∧ RecAt w3 w.heap.size zeroR (.slice none 0 0) ∧ Below w.heap.size w w3) := ⟨R2.out.2.2.1.below B3, R2.out.1.below B3, R2.out.2.1.trans (B3.mono R2.out.2.1.size)⟩
       clear B3)
    | (refine wpList_store_mid rfl 32 (.tmp 75) (.tmp 74) rfl (w.heap.size + 1) 4 J rfl rfl (by rw [HJ.out.2.1]; exact R3.out.1.there4) (by rw [HJ.out.2.1]; exact info_stored) HJ.out.2.2 ?_
       obtain ⟨w4, hw4⟩ : ∃ w4, w4 = w3.setCells (w.heap.size + 1) 4 J.toList := ⟨_, rfl⟩
       rw [← hw4]
       have R4 : Hid (RecAt w4 (w.heap.size + 1) ⟨2, setAll [3, 4, 5, 6, 7, 8, 9, 10, 11, 12, 13, 14, 15] [y0, y1, y2, y3, y4, y5, y6, y7, y8, y9, y10, y11, y12] (fun _ => 0), []⟩ (.slice none 0 0) ∧ RecAt w4 w.heap.size zeroR (.slice none 0 0) ∧ Below w.heap.size w w4) := by
         rw [hw4, HJ.out.1]
         exact ⟨RecAt.job_whole _ _ _ _ _ _ _ _ _ _ _ _ _ R3.out.1, (setCells_other _ _ _ _ (by omega) _).trans R3.out.2.1, below_setCells (Nat.le_succ _) _ R3.out.2.2 _⟩
       clear hw4))
  clear z0
  have e0 : w4.cell? ⟨g, O, none⟩ = some (.int .u8 0) := by
    have := (IB.out.below R4.out.2.2).cell 0 d rfl
    rw [hd0] at this
    exact this
  obtain ⟨T, hT⟩ : ∃ T : ByteArray, T = ⟨TL.toArray⟩ := ⟨_, rfl⟩
  have kc : (convert 30 9 (.slice (some ⟨g, O, none⟩) 0 0)).run Try.prog w4 = .ok (.string T) w4 := by
    rw [hT, HTL.out]
    exact conv_is (l := []) ⟨by simp, by unfold maxLen; omega, .inl rfl⟩ rfl
  have z17 : w4.cell? ⟨w.heap.size + 1, 17, none⟩ = some (.string ⟨#[]⟩) := R4.out.1.cell 17
  have f17 : w4.frozen? ⟨w.heap.size + 1, 17, none⟩ = false := R4.out.1.frozen 17
  obtain ⟨w5, hw5⟩ : ∃ w5, w5 = w4.setCell ⟨w.heap.size + 1, 17, none⟩ (.string T) := ⟨_, rfl⟩
  have R5 : Hid (RecAt w5 (w.heap.size + 1) ⟨2, setAll [3, 4, 5, 6, 7, 8, 9, 10, 11, 12, 13, 14, 15] [y0, y1, y2, y3, y4, y5, y6, y7, y8, y9, y10, y11, y12] (fun _ => 0), TL⟩ (.slice none 0 0) ∧ RecAt w5 w.heap.size zeroR (.slice none 0 0) ∧ Below w.heap.size w w5) := by
    refine ⟨?_, ?_, ?_⟩
    · rw [hw5, hT]; exact R4.out.1.setTube TL
    · rw [hw5]
      exact (heap_setCell_other w4 ⟨w.heap.size + 1, 17, none⟩ w.heap.size _ (by show w.heap.size ≠ w.heap.size + 1; omega)).trans R4.out.2.1
    · rw [hw5]; exact below_setCell R4.out.2.2 (Nat.le_succ _)
  have HW5 := hideN hw5
  clear hw5 hT
  go_upto_region 23 with fail
  rw [← HW5.out]
  clear HW5 z17 f17 kc e0
  have p18 : w5.cell? ⟨w.heap.size + 1, 18, none⟩ = some (.slice none 0 0) := R5.out.1.cell 18
  have p18d : w5.drew.cell? ⟨w.heap.size + 1, 18, none⟩ = some (.slice none 0 0) := p18
  have HIB : Hid (IsBytes w5.drew (some ⟨g, O, none⟩) 0 []) := ⟨by simp, by unfold maxLen; omega, .inl rfl⟩
  refine wp_region_any mixed ?_
  refine A_take (i := 0) (v := .pointer (some ⟨w.heap.size + 1, 4, none⟩)) (some 101) rfl rfl (by kernel_rfl) (by kernel_rfl) (by kernel_rfl) (fun _ _ _ h => h) (.inl ⟨rfl, fun w => ?_⟩) ?_
  · go_simp
  simp only [Act.put, List.setIfInBounds_toArray, List.set_cons_zero, List.set_cons_succ]
  refine A_take (i := 1) (v := .pointer (some ⟨w.heap.size + 1, 18, none⟩)) (some 102) rfl rfl (by kernel_rfl) (by kernel_rfl) (by kernel_rfl) (fun _ _ _ h => h) (.inl ⟨rfl, fun w => ?_⟩) ?_
  · go_simp
  simp only [Act.put, List.setIfInBounds_toArray, List.set_cons_zero, List.set_cons_succ]
  refine A_take (i := 3) (v := .slice (some ⟨g, O, none⟩) 1 1) (some 104) rfl rfl (by kernel_rfl) (by kernel_rfl) (by kernel_rfl) (fun _ _ _ h => h) (.inl ⟨rfl, fun w => ?_⟩) ?_
  · go_simp
  simp only [Act.put, List.setIfInBounds_toArray, List.set_cons_zero, List.set_cons_succ]
  refine A_take (i := 4) (v := .int .i64 1) (some 105) rfl rfl (by kernel_rfl) (by kernel_rfl) (by kernel_rfl) (fun _ _ _ h => h) (.inl ⟨rfl, fun w => ?_⟩) ?_
  · go_simp
  simp only [Act.put, List.setIfInBounds_toArray, List.set_cons_zero, List.set_cons_succ]
  refine A_take (i := 5) (v := .slice (some ⟨g, O, none⟩) 0 0) (some 106) rfl rfl (by kernel_rfl) (by kernel_rfl) (by kernel_rfl) (fun _ _ _ h => h) (.inl ⟨rfl, fun w => ?_⟩) ?_
  · go_simp
  simp only [Act.put, List.setIfInBounds_toArray, List.set_cons_zero, List.set_cons_succ]
  refine C_take (i := 2) (v := .slice none 0 0) (Cl := fun X => X.cell? ⟨w.heap.size + 1, 18, none⟩ = some (.slice none 0 0)) (D := [6, 7, 8, 9]) (E := []) (some 103) rfl rfl (by kernel_rfl) (fun j hj oj ho => by cases hj) (fun _ _ _ h => h) p18d ⟨rfl, fun X hX => ?_⟩ ?_
  · go_simp
  simp only [Act.put, List.setIfInBounds_toArray, List.set_cons_zero, List.set_cons_succ]
  refine wpAny_all (rs := [6]) (by kernel_rfl) (by decide) (fun i hi => ?_)
  obtain rfl : i = 6 := by simpa using hi
  refine D_append8 (some 107) rfl rfl rfl (.tmp 103) (.tmp 106) rfl w5.heap.size (.slice none 0 0) [] (by rfl) (Own.nil _ _) (some ⟨g, O, none⟩) 0 [] (by rfl) HIB.out (by simp) (Nat.le_refl _) ?_
  intro v6 w6 o6 g6
  obtain ⟨a6, c6, rfl, _⟩ := o6.shape
  have e6 : (([] : List UInt8) ++ []).length = 0 := rfl
  rw [e6] at o6 ⊢
  clear e6
  have B6 : Below w5.heap.size w5 w6 := (Below.refl _ w5).drew.trans (below_of_none g6)
  have O6 := hideN (And.intro (show Own w6 w5.heap.size (.slice a6 0 c6) [] from o6) (show w.heap.size + 1 < w5.heap.size from R5.out.1.lt))
  have R6 : Hid (RecAt w6 (w.heap.size + 1) ⟨2, setAll [3, 4, 5, 6, 7, 8, 9, 10, 11, 12, 13, 14, 15] [y0, y1, y2, y3, y4, y5, y6, y7, y8, y9, y10, y11, y12] (fun _ => 0), TL⟩ (.slice none 0 0) ∧ RecAt w6 w.heap.size zeroR (.slice none 0 0) ∧ Below w.heap.size w w6) := ⟨R5.out.1.below B6, R5.out.2.1.below B6, R5.out.2.2.trans (B6.mono R5.out.2.2.size)⟩
  have u18 : w6.cell? ⟨w.heap.size + 1, 18, none⟩ = some (.slice none 0 0) := R6.out.1.cell 18
  have uf18 : w6.frozen? ⟨w.heap.size + 1, 18, none⟩ = false := R6.out.1.frozen 18
  clear o6 g6 B6
  simp only [Act.put, List.setIfInBounds_toArray, List.set_cons_zero, List.set_cons_succ]
  refine A_take (i := 7) (v := .pointer (some ⟨w.heap.size + 1, 4, none⟩)) (some 108) rfl rfl (by kernel_rfl) (by kernel_rfl) (by kernel_rfl) (fun _ _ _ h => h) (.inl ⟨rfl, fun w => ?_⟩) ?_
  · go_simp
  simp only [Act.put, List.setIfInBounds_toArray, List.set_cons_zero, List.set_cons_succ]
  refine A_take (i := 8) (v := .pointer (some ⟨w.heap.size + 1, 18, none⟩)) (some 109) rfl rfl (by kernel_rfl) (by kernel_rfl) (by kernel_rfl) (fun _ _ _ h => h) (.inl ⟨rfl, fun w => ?_⟩) ?_
  · go_simp
  simp only [Act.put, List.setIfInBounds_toArray, List.set_cons_zero, List.set_cons_succ]
  refine wpAny_all (rs := [9]) (by kernel_rfl) (by decide) (fun i hi => ?_)
  obtain rfl : i = 9 := by simpa using hi
  refine D_skip (w' := w6.setCell ⟨w.heap.size + 1, 18, none⟩ (.slice a6 0 c6)) rfl rfl rfl ?_ ?_
  · simp [go_sem, u18, uf18]
  refine wpAny_done (by kernel_rfl) ?_ _
  obtain ⟨w7, hw7⟩ : ∃ w7, w7 = w6.setCell ⟨w.heap.size + 1, 18, none⟩ (.slice a6 0 c6) := ⟨_, rfl⟩
  rw [← hw7]
  have R4' : Hid (RecAt w7 (w.heap.size + 1) ⟨2, setAll [3, 4, 5, 6, 7, 8, 9, 10, 11, 12, 13, 14, 15] [y0, y1, y2, y3, y4, y5, y6, y7, y8, y9, y10, y11, y12] (fun _ => 0), TL⟩ (.slice a6 0 c6) ∧ RecAt w7 w.heap.size zeroR (.slice none 0 0) ∧ Below w.heap.size w w7 ∧ Own w7 (w.heap.size + 1) (.slice a6 0 c6) []) := by
    refine ⟨?_, ?_, ?_, ?_⟩
    · rw [hw7]; exact R6.out.1.setBody _
    · rw [hw7]
      exact (heap_setCell_other w6 ⟨w.heap.size + 1, 18, none⟩ w.heap.size _ (by show w.heap.size ≠ w.heap.size + 1; omega)).trans R6.out.2.1
    · rw [hw7]; exact below_setCell R6.out.2.2 (Nat.le_succ _)
    · rw [hw7]
      have := (R6.out.1.set18 (.slice a6 0 c6)).2.Own O6.out.1 (fun g hg e => by have := (O6.out.1.lt g hg).1; have := O6.out.2; omega)
      exact this.mono (by have := O6.out.2; omega)
  clear hw7 p18 p18d u18 uf18
  obtain ⟨D, hD⟩ : ∃ D, D = recA ⟨2, setAll [3, 4, 5, 6, 7, 8, 9, 10, 11, 12, 13, 14, 15] [y0, y1, y2, y3, y4, y5, y6, y7, y8, y9, y10, y11, y12] (fun _ => 0), TL⟩ (.slice a6 0 c6) := ⟨_, rfl⟩
  have HD : Hid (D = recA ⟨2, setAll [3, 4, 5, 6, 7, 8, 9, 10, 11, 12, 13, 14, 15] [y0, y1, y2, y3, y4, y5, y6, y7, y8, y9, y10, y11, y12] (fun _ => 0), TL⟩ (.slice a6 0 c6) ∧ D.size = 19 ∧ D.all (·.oneCell') = true) := ⟨hD, by rw [hD]; rfl, by rw [hD]; exact rec_one _ _ _ _⟩
  have CD : Hid (∀ W, Calls Try.prog 16 #[.agg D] W fun e w' => e = .returned (.int .i64 z) ∧ Below W.heap.size W w') := fun W => by
    rw [hD]
    exact CC.out W a6 c6
  clear hD CC
  go_upto_region 26 with (first
    | (refine wpList_load_wanted (by rfl) 34 (.tmp 4) rfl (w.heap.size + 1) rfl 34 D (0, 0) _ (by rw [HD.out.1]; exact R4'.out.1) under_rec rfl (by rw [HD.out.2.1]; exact info_rec) ?_)
    | (go_at_call 16; refine (CD.out _).mono ?_; rintro e w8 ⟨rfl, B8⟩
       have R8 : Hid (RecAt w8 (w.heap.size + 1) ⟨2, setAll [3, 4, 5, 6, 7, 8, 9, 10, 11, 12, 13, 14, 15] [y0, y1, y2, y3, y4, y5, y6, y7, y8, y9, y10, y11, y12] (fun _ => 0), TL⟩ (.slice a6 0 c6) ∧ RecAt w8 w.heap.size zeroR (.slice none 0 0) ∧ Below w.heap.size w w8 ∧ Own w8 (w.heap.size + 1) (.slice a6 0 c6) []) := ⟨R4'.out.1.below B8, R4'.out.2.1.below B8, R4'.out.2.2.1.trans (B8.mono R4'.out.2.2.1.size), R4'.out.2.2.2.below B8⟩
       clear B8))
  go_wp2_with (refine wpList_store_row rfl 34 (.tmp 2) (.tmp 118) rfl w.heap.size (recA zeroR (.slice none 0 0)) rfl rfl 34 (recA zeroR (.slice none 0 0)) R8.out.2.1 info_rec rfl (rec_one _ _ _ _) ?_)
  refine bodyPost_ret (results_ct_row rfl _ _ w.heap.size 34 _ (0, 0) _ rfl (setRow_heap _ _ _ _ _ _ R8.out.2.1) under_rec rfl info_rec) rfl ?_
  exact ⟨below_setRow R8.out.2.2.1 (Nat.le_refl _), rfl⟩
end Go.Proofs.Ytjnjaojafimfeaa
