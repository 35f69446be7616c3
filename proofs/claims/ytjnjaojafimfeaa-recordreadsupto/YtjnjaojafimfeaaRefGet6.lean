/-
  The document's Get: kind 3.
-/
import Derived.Test.YtjnjaojafimfeaaRefGet5
namespace Go.Proofs.Ytjnjaojafimfeaa
open Go.RowKit

set_option maxHeartbeats 4000000 in
set_option maxRecDepth 1000000 in
theorem refget_3_rest (g o c : Nat) (x : UInt8) (l : List UInt8) (RL : Nat) (y0 y1 y2 y3 y4 y5 y6 y7 y8 y9 y10 : Int) (w : World) (hb : IsBytes w (some ⟨g, o, none⟩) c (x :: l)) (hx : x.toNat = 3) (hlen : l.length = RL + 88) (hRL : 0 < RL) (hall : ∀ (j : Nat) y, [y0, y1, y2, y3, y4, y5, y6, y7, y8, y9, y10][j]? = some y → numO l j = some y) :
    Calls Try.prog 23 #[.slice (some ⟨g, o, none⟩) (RL + 89) c] w fun e w' => Below w.heap.size w w' ∧ e = .returned (getV zeroR (.slice none 0 0) 102) := by
  have hc0 : w.cell? ⟨g, o, none⟩ = some (.int .u8 3) := by
    have := hb.cell 0 x rfl
    rw [hx] at this
    exact this
  have hg : g < w.heap.size := by have := cell_lt hc0; simpa using this
  have hcc : (RL + 89) ≤ c := by have := hb.1; rw [List.length_cons] at this; omega
  have hcm : c ≤ 9223372036854775807 := by have := hb.2.1; unfold maxLen at this; omega
  have CM : Hid (∀ W, Calls Try.prog 42 #[.int .i64 3] W fun e w' => e = .returned (.int .i64 11) ∧ w' = W) := fun W => many_any 3 W
  have CN : Hid (∀ W, Below w.heap.size w W → Calls Try.prog 43 #[.slice (some ⟨g, o, none⟩) (RL + 89) c, .int .i64 11] W fun e w' => ∃ gb cap, e = .returned (.tuple #[.slice (some ⟨gb, 0, none⟩) 11 cap, .bool true]) ∧ (W.heap.size ≤ gb ∧ gb < w'.heap.size ∧ 11 ≤ cap ∧ cap ≤ 9223372036854775807) ∧ (∀ (j : Nat) y, [y0, y1, y2, y3, y4, y5, y6, y7, y8, y9, y10][j]? = some y → w'.cell? ⟨gb, j, none⟩ = some (.int .i64 y)) ∧ Below W.heap.size W w') := fun W hW => by
    have := numbers_yes g o c x l [y0, y1, y2, y3, y4, y5, y6, y7, y8, y9, y10] W (hb.below hW) (by simp) (by simp) hall
    rw [hlen] at this
    exact this
  obtain ⟨C, hC⟩ : ∃ C, recA ⟨3, fun _ => 0, []⟩ (.slice none 0 0) = C := ⟨_, rfl⟩
  have HC1 : Hid (C.all (·.oneCell') = true ∧ C.size = 19) := ⟨by rw [← hC]; exact rec_one _ _ _ _, by rw [← hC]; rfl⟩
  obtain ⟨w1, hw1⟩ : ∃ w1, w1 = (w.alloc (.cells #[.int .i64 0, .int .i64 0, .int .i64 0, .int .i64 0, .int .i64 0, .int .i64 0, .int .i64 0, .int .i64 0, .int .i64 0, .int .i64 0, .int .i64 0, .int .i64 0, .int .i64 0, .int .i64 0, .int .i64 0, .int .i64 0, .int .i64 0, .string ⟨#[]⟩, .slice none 0 0] 34)).alloc (.cells C 34) := ⟨_, rfl⟩
  have R1 : Hid (RecAt w1 w.heap.size zeroR (.slice none 0 0) ∧ Below w.heap.size w w1 ∧ RecAt w1 (w.heap.size + 1) ⟨3, fun _ => 0, []⟩ (.slice none 0 0) ∧ w1.heap.size = w.heap.size + 2) := ⟨by rw [hw1]; exact heap_alloc2_old w _ _, by rw [hw1]; exact ((Below.refl _ w).alloc (Nat.le_refl _) _).alloc (by simp) _, by rw [hw1, ← hC]; exact heap_alloc2_new w _ _, by rw [hw1]; simp⟩
  have x0 : w1.cell? ⟨w.heap.size + 1, 0, none⟩ = some (.int .i64 3) := R1.out.2.2.1.cell 0
  have HW1 := hideN hw1
  have hCl : (#[.int .i64 3, .int .i64 0, .int .i64 0, .int .i64 0, .int .i64 0, .int .i64 0, .int .i64 0, .int .i64 0, .int .i64 0, .int .i64 0, .int .i64 0, .int .i64 0, .int .i64 0, .int .i64 0, .int .i64 0, .int .i64 0, .int .i64 0, .string ⟨#[]⟩, .slice none 0 0] : Array Value) = C := hC
  obtain ⟨a1, ha1⟩ : ∃ a1, (if c = 89 then some ⟨g, o, none⟩ else some ⟨g, o + 89, none⟩ : Option Addr) = a1 := ⟨_, rfl⟩
  obtain ⟨J, hJ⟩ : ∃ J : Array Value, J = #[.int .i64 y0, .int .i64 y1, .int .i64 y2, .int .i64 0, .int .i64 0, .int .i64 y3, .int .i64 y4, .int .i64 y5, .int .i64 y6, .int .i64 y7, .int .i64 y8, .int .i64 y9, .int .i64 y10, .string ⟨#[]⟩, .slice none 0 0] := ⟨_, rfl⟩
  have HJ : Hid (J = #[.int .i64 y0, .int .i64 y1, .int .i64 y2, .int .i64 0, .int .i64 0, .int .i64 y3, .int .i64 y4, .int .i64 y5, .int .i64 y6, .int .i64 y7, .int .i64 y8, .int .i64 y9, .int .i64 y10, .string ⟨#[]⟩, .slice none 0 0] ∧ J.size = 15 ∧ J.all (·.oneCell') = true) := ⟨hJ, by rw [hJ]; rfl, by rw [hJ]; simp [Value.oneCell']⟩
  have CJ : Hid (∀ W gb cap, 11 ≤ cap ∧ cap ≤ 9223372036854775807 → (∀ (j : Nat) y, [y0, y1, y2, y3, y4, y5, y6, y7, y8, y9, y10][j]? = some y → W.cell? ⟨gb, j, none⟩ = some (.int .i64 y)) → gb < W.heap.size → Calls Try.prog 44 #[.slice (some ⟨gb, 0, none⟩) 11 cap, .bool false] W fun e w' => e = .returned (.agg J) ∧ Below W.heap.size W w') := fun W gb cap h1 h2 h3 => by
    rw [hJ]
    exact job_short y0 y1 y2 y3 y4 y5 y6 y7 y8 y9 y10 gb cap W h1 h2 h3
  clear hJ
  clear hb hx hw1 hC hall hlen
  go_enter Try.func23, Try.ntmps23
  go_upto_region 4 with (refine wpList_store_new rfl 34 (.tmp 4) (.tmp 30) rfl C (by rw [World.size_alloc]; rfl) (by rfl) 34 _ (by rw [HC1.out.2]; exact info_rec) (by rw [HC1.out.2]; rfl) HC1.out.1 ?_)
  clear hCl
  rw [← HW1.out]
  clear HW1 hc0 hg
  go_upto_region 8 with (first
    | (go_at_call 42; refine (CM.out _).mono ?_; rintro e w3 ⟨rfl, hw3⟩; obtain rfl := hw3.symm)
    | (go_at_call 43; refine (CN.out _ R1.out.2.1).mono ?_; rintro e w2 ⟨gb, cap, rfl, hgb, hcells, B2⟩
       have R2 : Hid (RecAt w2 w.heap.size zeroR (.slice none 0 0) ∧ Below w.heap.size w w2 ∧ RecAt w2 (w.heap.size + 1) ⟨3, fun _ => 0, []⟩ (.slice none 0 0) ∧ w.heap.size + 2 ≤ gb ∧ gb < w2.heap.size) := ⟨R1.out.1.below B2, R1.out.2.1.trans (B2.mono R1.out.2.1.size), R1.out.2.2.1.below B2, by rw [← R1.out.2.2.2]; exact hgb.1, hgb.2.1⟩
       have HCE := hideN hcells
       have hcap1 := hgb.2.2.1
       have hcap2 := hgb.2.2.2
       clear B2 hgb hcells))
  have z0 : w2.cell? ⟨w.heap.size + 1, 0, none⟩ = some (.int .i64 3) := R2.out.2.2.1.cell 0
  go_upto_region 25 with (first
    | (go_at_call 44; refine (CJ.out _ gb cap ⟨hcap1, hcap2⟩ HCE.out R2.out.2.2.2.2).mono ?_; rintro e w3 ⟨rfl, B3⟩
       have R3 : Hid (RecAt w3 (w.heap.size + 1) ⟨3, fun _ => 0, []⟩ (.slice none 0 0) ∧ RecAt w3 w.heap.size zeroR (.slice none 0 0) ∧ Below w.heap.size w w3) := ⟨R2.out.2.2.1.below B3, R2.out.1.below B3, R2.out.2.1.trans (B3.mono R2.out.2.1.size)⟩
       clear B3)
    | (refine wpList_store_mid rfl 32 (.tmp 70) (.tmp 69) rfl (w.heap.size + 1) 4 J rfl rfl (by rw [HJ.out.2.1]; exact R3.out.1.there4) (by rw [HJ.out.2.1]; exact info_stored) HJ.out.2.2 ?_
       obtain ⟨w4, hw4⟩ : ∃ w4, w4 = w3.setCells (w.heap.size + 1) 4 J.toList := ⟨_, rfl⟩
       rw [← hw4]
       have R4 : Hid (RecAt w4 (w.heap.size + 1) ⟨3, setAll [3, 4, 5, 8, 9, 10, 11, 12, 13, 14, 15] [y0, y1, y2, y3, y4, y5, y6, y7, y8, y9, y10] (fun _ => 0), []⟩ (.slice none 0 0) ∧ RecAt w4 w.heap.size zeroR (.slice none 0 0) ∧ Below w.heap.size w w4) := by
         rw [hw4, HJ.out.1]
         exact ⟨RecAt.job_short _ _ _ _ _ _ _ _ _ _ _ R3.out.1, (setCells_other _ _ _ _ (by omega) _).trans R3.out.2.1, below_setCells (Nat.le_succ _) _ R3.out.2.2 _⟩
       clear hw4))
  clear z0
  go_wp2_with (refine wpList_store_row rfl 34 (.tmp 2) (.tmp 118) rfl w.heap.size (recA zeroR (.slice none 0 0)) rfl rfl 34 (recA zeroR (.slice none 0 0)) R4.out.2.1 info_rec rfl (rec_one _ _ _ _) ?_)
  refine bodyPost_ret (results_ct_row rfl _ _ w.heap.size 34 _ (0, 0) _ rfl (setRow_heap _ _ _ _ _ _ R4.out.2.1) under_rec rfl info_rec) rfl ?_
  exact ⟨below_setRow R4.out.2.2 (Nat.le_refl _), rfl⟩
set_option maxHeartbeats 4000000 in
set_option maxRecDepth 1000000 in
theorem refget_3_bad (g o c : Nat) (x : UInt8) (l : List UInt8) (y0 y1 y2 y3 y4 y5 y6 y7 y8 y9 y10 : Int) (w : World) (hb : IsBytes w (some ⟨g, o, none⟩) c (x :: l)) (hx : x.toNat = 3) (hlen : l.length = 88) (hall : ∀ (j : Nat) y, [y0, y1, y2, y3, y4, y5, y6, y7, y8, y9, y10][j]? = some y → numO l j = some y) (hck : checkE ⟨3, setAll [3, 4, 5, 8, 9, 10, 11, 12, 13, 14, 15] [y0, y1, y2, y3, y4, y5, y6, y7, y8, y9, y10] (fun _ => 0), []⟩ 0 ≠ 0) :
    Calls Try.prog 23 #[.slice (some ⟨g, o, none⟩) 89 c] w fun e w' => Below w.heap.size w w' ∧ e = .returned (getV zeroR (.slice none 0 0) 102) := by
  have hc0 : w.cell? ⟨g, o, none⟩ = some (.int .u8 3) := by
    have := hb.cell 0 x rfl
    rw [hx] at this
    exact this
  have hg : g < w.heap.size := by have := cell_lt hc0; simpa using this
  have hcc : 89 ≤ c := by have := hb.1; rw [List.length_cons] at this; omega
  have hcm : c ≤ 9223372036854775807 := by have := hb.2.1; unfold maxLen at this; omega
  have CM : Hid (∀ W, Calls Try.prog 42 #[.int .i64 3] W fun e w' => e = .returned (.int .i64 11) ∧ w' = W) := fun W => many_any 3 W
  have CN : Hid (∀ W, Below w.heap.size w W → Calls Try.prog 43 #[.slice (some ⟨g, o, none⟩) 89 c, .int .i64 11] W fun e w' => ∃ gb cap, e = .returned (.tuple #[.slice (some ⟨gb, 0, none⟩) 11 cap, .bool true]) ∧ (W.heap.size ≤ gb ∧ gb < w'.heap.size ∧ 11 ≤ cap ∧ cap ≤ 9223372036854775807) ∧ (∀ (j : Nat) y, [y0, y1, y2, y3, y4, y5, y6, y7, y8, y9, y10][j]? = some y → w'.cell? ⟨gb, j, none⟩ = some (.int .i64 y)) ∧ Below W.heap.size W w') := fun W hW => by
    have := numbers_yes g o c x l [y0, y1, y2, y3, y4, y5, y6, y7, y8, y9, y10] W (hb.below hW) (by simp) (by simp) hall
    rw [hlen] at this
    exact this
  obtain ⟨C, hC⟩ : ∃ C, recA ⟨3, fun _ => 0, []⟩ (.slice none 0 0) = C := ⟨_, rfl⟩
  have HC1 : Hid (C.all (·.oneCell') = true ∧ C.size = 19) := ⟨by rw [← hC]; exact rec_one _ _ _ _, by rw [← hC]; rfl⟩
  obtain ⟨w1, hw1⟩ : ∃ w1, w1 = (w.alloc (.cells #[.int .i64 0, .int .i64 0, .int .i64 0, .int .i64 0, .int .i64 0, .int .i64 0, .int .i64 0, .int .i64 0, .int .i64 0, .int .i64 0, .int .i64 0, .int .i64 0, .int .i64 0, .int .i64 0, .int .i64 0, .int .i64 0, .int .i64 0, .string ⟨#[]⟩, .slice none 0 0] 34)).alloc (.cells C 34) := ⟨_, rfl⟩
  have R1 : Hid (RecAt w1 w.heap.size zeroR (.slice none 0 0) ∧ Below w.heap.size w w1 ∧ RecAt w1 (w.heap.size + 1) ⟨3, fun _ => 0, []⟩ (.slice none 0 0) ∧ w1.heap.size = w.heap.size + 2) := ⟨by rw [hw1]; exact heap_alloc2_old w _ _, by rw [hw1]; exact ((Below.refl _ w).alloc (Nat.le_refl _) _).alloc (by simp) _, by rw [hw1, ← hC]; exact heap_alloc2_new w _ _, by rw [hw1]; simp⟩
  have x0 : w1.cell? ⟨w.heap.size + 1, 0, none⟩ = some (.int .i64 3) := R1.out.2.2.1.cell 0
  have HW1 := hideN hw1
  have hCl : (#[.int .i64 3, .int .i64 0, .int .i64 0, .int .i64 0, .int .i64 0, .int .i64 0, .int .i64 0, .int .i64 0, .int .i64 0, .int .i64 0, .int .i64 0, .int .i64 0, .int .i64 0, .int .i64 0, .int .i64 0, .int .i64 0, .int .i64 0, .string ⟨#[]⟩, .slice none 0 0] : Array Value) = C := hC
  have CC : Hid (∀ W, Calls Try.prog 16 #[.agg (recA ⟨3, setAll [3, 4, 5, 8, 9, 10, 11, 12, 13, 14, 15] [y0, y1, y2, y3, y4, y5, y6, y7, y8, y9, y10] (fun _ => 0), []⟩ (.slice none 0 0))] W fun e w' => e = .returned (.int .i64 (checkE ⟨3, setAll [3, 4, 5, 8, 9, 10, 11, 12, 13, 14, 15] [y0, y1, y2, y3, y4, y5, y6, y7, y8, y9, y10] (fun _ => 0), []⟩ 0)) ∧ Below W.heap.size W w') := fun W => by
    have := refCheck_any ⟨3, setAll [3, 4, 5, 8, 9, 10, 11, 12, 13, 14, 15] [y0, y1, y2, y3, y4, y5, y6, y7, y8, y9, y10] (fun _ => 0), []⟩ none 0 0 W
    rw [ref_check] at this
    exact this
  obtain ⟨z, hz⟩ : ∃ z, z = checkE ⟨3, setAll [3, 4, 5, 8, 9, 10, 11, 12, 13, 14, 15] [y0, y1, y2, y3, y4, y5, y6, y7, y8, y9, y10] (fun _ => 0), []⟩ 0 := ⟨_, rfl⟩
  rw [← hz] at CC hck
  have hzb : (z != 0) = true := by simp [hck]
  obtain ⟨D, hD⟩ : ∃ D, D = recA ⟨3, setAll [3, 4, 5, 8, 9, 10, 11, 12, 13, 14, 15] [y0, y1, y2, y3, y4, y5, y6, y7, y8, y9, y10] (fun _ => 0), []⟩ (.slice none 0 0) := ⟨_, rfl⟩
  have HD : Hid (D = recA ⟨3, setAll [3, 4, 5, 8, 9, 10, 11, 12, 13, 14, 15] [y0, y1, y2, y3, y4, y5, y6, y7, y8, y9, y10] (fun _ => 0), []⟩ (.slice none 0 0) ∧ D.size = 19 ∧ D.all (·.oneCell') = true) := ⟨hD, by rw [hD]; rfl, by rw [hD]; exact rec_one _ _ _ _⟩
  rw [← hD] at CC
  clear hz hck hD
  obtain ⟨a1, ha1⟩ : ∃ a1, (if c = 89 then some ⟨g, o, none⟩ else some ⟨g, o + 89, none⟩ : Option Addr) = a1 := ⟨_, rfl⟩
  obtain ⟨J, hJ⟩ : ∃ J : Array Value, J = #[.int .i64 y0, .int .i64 y1, .int .i64 y2, .int .i64 0, .int .i64 0, .int .i64 y3, .int .i64 y4, .int .i64 y5, .int .i64 y6, .int .i64 y7, .int .i64 y8, .int .i64 y9, .int .i64 y10, .string ⟨#[]⟩, .slice none 0 0] := ⟨_, rfl⟩
  have HJ : Hid (J = #[.int .i64 y0, .int .i64 y1, .int .i64 y2, .int .i64 0, .int .i64 0, .int .i64 y3, .int .i64 y4, .int .i64 y5, .int .i64 y6, .int .i64 y7, .int .i64 y8, .int .i64 y9, .int .i64 y10, .string ⟨#[]⟩, .slice none 0 0] ∧ J.size = 15 ∧ J.all (·.oneCell') = true) := ⟨hJ, by rw [hJ]; rfl, by rw [hJ]; simp [Value.oneCell']⟩
  have CJ : Hid (∀ W gb cap, 11 ≤ cap ∧ cap ≤ 9223372036854775807 → (∀ (j : Nat) y, [y0, y1, y2, y3, y4, y5, y6, y7, y8, y9, y10][j]? = some y → W.cell? ⟨gb, j, none⟩ = some (.int .i64 y)) → gb < W.heap.size → Calls Try.prog 44 #[.slice (some ⟨gb, 0, none⟩) 11 cap, .bool false] W fun e w' => e = .returned (.agg J) ∧ Below W.heap.size W w') := fun W gb cap h1 h2 h3 => by
    rw [hJ]
    exact job_short y0 y1 y2 y3 y4 y5 y6 y7 y8 y9 y10 gb cap W h1 h2 h3
  clear hJ
  clear hb hx hw1 hC hall hlen
  go_enter Try.func23, Try.ntmps23
  go_upto_region 4 with (refine wpList_store_new rfl 34 (.tmp 4) (.tmp 30) rfl C (by rw [World.size_alloc]; rfl) (by rfl) 34 _ (by rw [HC1.out.2]; exact info_rec) (by rw [HC1.out.2]; rfl) HC1.out.1 ?_)
  clear hCl
  rw [← HW1.out]
  clear HW1 hc0 hg
  go_upto_region 8 with (first
    | (go_at_call 42; refine (CM.out _).mono ?_; rintro e w3 ⟨rfl, hw3⟩; obtain rfl := hw3.symm)
    | (go_at_call 43; refine (CN.out _ R1.out.2.1).mono ?_; rintro e w2 ⟨gb, cap, rfl, hgb, hcells, B2⟩
       have R2 : Hid (RecAt w2 w.heap.size zeroR (.slice none 0 0) ∧ Below w.heap.size w w2 ∧ RecAt w2 (w.heap.size + 1) ⟨3, fun _ => 0, []⟩ (.slice none 0 0) ∧ w.heap.size + 2 ≤ gb ∧ gb < w2.heap.size) := ⟨R1.out.1.below B2, R1.out.2.1.trans (B2.mono R1.out.2.1.size), R1.out.2.2.1.below B2, by rw [← R1.out.2.2.2]; exact hgb.1, hgb.2.1⟩
       have HCE := hideN hcells
       have hcap1 := hgb.2.2.1
       have hcap2 := hgb.2.2.2
       clear B2 hgb hcells))
  have z0 : w2.cell? ⟨w.heap.size + 1, 0, none⟩ = some (.int .i64 3) := R2.out.2.2.1.cell 0
  go_upto_region 25 with (first
    | (go_at_call 44; refine (CJ.out _ gb cap ⟨hcap1, hcap2⟩ HCE.out R2.out.2.2.2.2).mono ?_; rintro e w3 ⟨rfl, B3⟩
       have R3 : Hid (RecAt w3 (w.heap.size + 1) ⟨3, fun _ => 0, []⟩ (.slice none 0 0) ∧ RecAt w3 w.heap.size zeroR (.slice none 0 0) ∧ Below w.heap.size w w3) := ⟨R2.out.2.2.1.below B3, R2.out.1.below B3, R2.out.2.1.trans (B3.mono R2.out.2.1.size)⟩
       clear B3)
    | (refine wpList_store_mid rfl 32 (.tmp 70) (.tmp 69) rfl (w.heap.size + 1) 4 J rfl rfl (by rw [HJ.out.2.1]; exact R3.out.1.there4) (by rw [HJ.out.2.1]; exact info_stored) HJ.out.2.2 ?_
       obtain ⟨w4, hw4⟩ : ∃ w4, w4 = w3.setCells (w.heap.size + 1) 4 J.toList := ⟨_, rfl⟩
       rw [← hw4]
       have R4 : Hid (RecAt w4 (w.heap.size + 1) ⟨3, setAll [3, 4, 5, 8, 9, 10, 11, 12, 13, 14, 15] [y0, y1, y2, y3, y4, y5, y6, y7, y8, y9, y10] (fun _ => 0), []⟩ (.slice none 0 0) ∧ RecAt w4 w.heap.size zeroR (.slice none 0 0) ∧ Below w.heap.size w w4) := by
         rw [hw4, HJ.out.1]
         exact ⟨RecAt.job_short _ _ _ _ _ _ _ _ _ _ _ R3.out.1, (setCells_other _ _ _ _ (by omega) _).trans R3.out.2.1, below_setCells (Nat.le_succ _) _ R3.out.2.2 _⟩
       clear hw4))
  clear z0
  go_upto_region 26 with (first
    | (refine wpList_load_wanted (by rfl) 34 (.tmp 4) rfl (w.heap.size + 1) rfl 34 D (0, 0) _ (by rw [HD.out.1]; exact R4.out.1) under_rec rfl (by rw [HD.out.2.1]; exact info_rec) ?_)
    | (go_at_call 16; refine (CC.out _).mono ?_; rintro e w5 ⟨rfl, B5⟩
       have R5 : Hid (RecAt w5 (w.heap.size + 1) ⟨3, setAll [3, 4, 5, 8, 9, 10, 11, 12, 13, 14, 15] [y0, y1, y2, y3, y4, y5, y6, y7, y8, y9, y10] (fun _ => 0), []⟩ (.slice none 0 0) ∧ RecAt w5 w.heap.size zeroR (.slice none 0 0) ∧ Below w.heap.size w w5) := ⟨R4.out.1.below B5, R4.out.2.1.below B5, R4.out.2.2.trans (B5.mono R4.out.2.2.size)⟩
       clear B5))
  go_wp2_with (refine wpList_store_row rfl 34 (.tmp 2) (.tmp 118) rfl w.heap.size (recA zeroR (.slice none 0 0)) rfl rfl 34 (recA zeroR (.slice none 0 0)) R5.out.2.1 info_rec rfl (rec_one _ _ _ _) ?_)
  refine bodyPost_ret (results_ct_row rfl _ _ w.heap.size 34 _ (0, 0) _ rfl (setRow_heap _ _ _ _ _ _ R5.out.2.1) under_rec rfl info_rec) rfl ?_
  exact ⟨below_setRow R5.out.2.2 (Nat.le_refl _), rfl⟩
set_option maxHeartbeats 4000000 in
set_option maxRecDepth 1000000 in
theorem refget_3_good (g o c : Nat) (x : UInt8) (l : List UInt8) (y0 y1 y2 y3 y4 y5 y6 y7 y8 y9 y10 : Int) (w : World) (hb : IsBytes w (some ⟨g, o, none⟩) c (x :: l)) (hx : x.toNat = 3) (hlen : l.length = 88) (hall : ∀ (j : Nat) y, [y0, y1, y2, y3, y4, y5, y6, y7, y8, y9, y10][j]? = some y → numO l j = some y) (hck : checkE ⟨3, setAll [3, 4, 5, 8, 9, 10, 11, 12, 13, 14, 15] [y0, y1, y2, y3, y4, y5, y6, y7, y8, y9, y10] (fun _ => 0), []⟩ 0 = 0) :
    Calls Try.prog 23 #[.slice (some ⟨g, o, none⟩) 89 c] w fun e w' => Below w.heap.size w w' ∧ e = .returned (getV ⟨3, setAll [3, 4, 5, 8, 9, 10, 11, 12, 13, 14, 15] [y0, y1, y2, y3, y4, y5, y6, y7, y8, y9, y10] (fun _ => 0), []⟩ (.slice none 0 0) 0) := by
  have hc0 : w.cell? ⟨g, o, none⟩ = some (.int .u8 3) := by
    have := hb.cell 0 x rfl
    rw [hx] at this
    exact this
  have hg : g < w.heap.size := by have := cell_lt hc0; simpa using this
  have hcc : 89 ≤ c := by have := hb.1; rw [List.length_cons] at this; omega
  have hcm : c ≤ 9223372036854775807 := by have := hb.2.1; unfold maxLen at this; omega
  have CM : Hid (∀ W, Calls Try.prog 42 #[.int .i64 3] W fun e w' => e = .returned (.int .i64 11) ∧ w' = W) := fun W => many_any 3 W
  have CN : Hid (∀ W, Below w.heap.size w W → Calls Try.prog 43 #[.slice (some ⟨g, o, none⟩) 89 c, .int .i64 11] W fun e w' => ∃ gb cap, e = .returned (.tuple #[.slice (some ⟨gb, 0, none⟩) 11 cap, .bool true]) ∧ (W.heap.size ≤ gb ∧ gb < w'.heap.size ∧ 11 ≤ cap ∧ cap ≤ 9223372036854775807) ∧ (∀ (j : Nat) y, [y0, y1, y2, y3, y4, y5, y6, y7, y8, y9, y10][j]? = some y → w'.cell? ⟨gb, j, none⟩ = some (.int .i64 y)) ∧ Below W.heap.size W w') := fun W hW => by
    have := numbers_yes g o c x l [y0, y1, y2, y3, y4, y5, y6, y7, y8, y9, y10] W (hb.below hW) (by simp) (by simp) hall
    rw [hlen] at this
    exact this
  obtain ⟨C, hC⟩ : ∃ C, recA ⟨3, fun _ => 0, []⟩ (.slice none 0 0) = C := ⟨_, rfl⟩
  have HC1 : Hid (C.all (·.oneCell') = true ∧ C.size = 19) := ⟨by rw [← hC]; exact rec_one _ _ _ _, by rw [← hC]; rfl⟩
  obtain ⟨w1, hw1⟩ : ∃ w1, w1 = (w.alloc (.cells #[.int .i64 0, .int .i64 0, .int .i64 0, .int .i64 0, .int .i64 0, .int .i64 0, .int .i64 0, .int .i64 0, .int .i64 0, .int .i64 0, .int .i64 0, .int .i64 0, .int .i64 0, .int .i64 0, .int .i64 0, .int .i64 0, .int .i64 0, .string ⟨#[]⟩, .slice none 0 0] 34)).alloc (.cells C 34) := ⟨_, rfl⟩
  have R1 : Hid (RecAt w1 w.heap.size zeroR (.slice none 0 0) ∧ Below w.heap.size w w1 ∧ RecAt w1 (w.heap.size + 1) ⟨3, fun _ => 0, []⟩ (.slice none 0 0) ∧ w1.heap.size = w.heap.size + 2) := ⟨by rw [hw1]; exact heap_alloc2_old w _ _, by rw [hw1]; exact ((Below.refl _ w).alloc (Nat.le_refl _) _).alloc (by simp) _, by rw [hw1, ← hC]; exact heap_alloc2_new w _ _, by rw [hw1]; simp⟩
  have x0 : w1.cell? ⟨w.heap.size + 1, 0, none⟩ = some (.int .i64 3) := R1.out.2.2.1.cell 0
  have HW1 := hideN hw1
  have hCl : (#[.int .i64 3, .int .i64 0, .int .i64 0, .int .i64 0, .int .i64 0, .int .i64 0, .int .i64 0, .int .i64 0, .int .i64 0, .int .i64 0, .int .i64 0, .int .i64 0, .int .i64 0, .int .i64 0, .int .i64 0, .int .i64 0, .int .i64 0, .string ⟨#[]⟩, .slice none 0 0] : Array Value) = C := hC
  have CC : Hid (∀ W, Calls Try.prog 16 #[.agg (recA ⟨3, setAll [3, 4, 5, 8, 9, 10, 11, 12, 13, 14, 15] [y0, y1, y2, y3, y4, y5, y6, y7, y8, y9, y10] (fun _ => 0), []⟩ (.slice none 0 0))] W fun e w' => e = .returned (.int .i64 (checkE ⟨3, setAll [3, 4, 5, 8, 9, 10, 11, 12, 13, 14, 15] [y0, y1, y2, y3, y4, y5, y6, y7, y8, y9, y10] (fun _ => 0), []⟩ 0)) ∧ Below W.heap.size W w') := fun W => by
    have := refCheck_any ⟨3, setAll [3, 4, 5, 8, 9, 10, 11, 12, 13, 14, 15] [y0, y1, y2, y3, y4, y5, y6, y7, y8, y9, y10] (fun _ => 0), []⟩ none 0 0 W
    rw [ref_check] at this
    exact this
  obtain ⟨z, hz⟩ : ∃ z, z = checkE ⟨3, setAll [3, 4, 5, 8, 9, 10, 11, 12, 13, 14, 15] [y0, y1, y2, y3, y4, y5, y6, y7, y8, y9, y10] (fun _ => 0), []⟩ 0 := ⟨_, rfl⟩
  rw [← hz] at CC hck
  have hzb : (z != 0) = false := by simp [hck]
  obtain ⟨D, hD⟩ : ∃ D, D = recA ⟨3, setAll [3, 4, 5, 8, 9, 10, 11, 12, 13, 14, 15] [y0, y1, y2, y3, y4, y5, y6, y7, y8, y9, y10] (fun _ => 0), []⟩ (.slice none 0 0) := ⟨_, rfl⟩
  have HD : Hid (D = recA ⟨3, setAll [3, 4, 5, 8, 9, 10, 11, 12, 13, 14, 15] [y0, y1, y2, y3, y4, y5, y6, y7, y8, y9, y10] (fun _ => 0), []⟩ (.slice none 0 0) ∧ D.size = 19 ∧ D.all (·.oneCell') = true) := ⟨hD, by rw [hD]; rfl, by rw [hD]; exact rec_one _ _ _ _⟩
  rw [← hD] at CC
  clear hz hck hD
  obtain ⟨a1, ha1⟩ : ∃ a1, (if c = 89 then some ⟨g, o, none⟩ else some ⟨g, o + 89, none⟩ : Option Addr) = a1 := ⟨_, rfl⟩
  obtain ⟨J, hJ⟩ : ∃ J : Array Value, J = #[.int .i64 y0, .int .i64 y1, .int .i64 y2, .int .i64 0, .int .i64 0, .int .i64 y3, .int .i64 y4, .int .i64 y5, .int .i64 y6, .int .i64 y7, .int .i64 y8, .int .i64 y9, .int .i64 y10, .string ⟨#[]⟩, .slice none 0 0] := ⟨_, rfl⟩
  have HJ : Hid (J = #[.int .i64 y0, .int .i64 y1, .int .i64 y2, .int .i64 0, .int .i64 0, .int .i64 y3, .int .i64 y4, .int .i64 y5, .int .i64 y6, .int .i64 y7, .int .i64 y8, .int .i64 y9, .int .i64 y10, .string ⟨#[]⟩, .slice none 0 0] ∧ J.size = 15 ∧ J.all (·.oneCell') = true) := ⟨hJ, by rw [hJ]; rfl, by rw [hJ]; simp [Value.oneCell']⟩
  have CJ : Hid (∀ W gb cap, 11 ≤ cap ∧ cap ≤ 9223372036854775807 → (∀ (j : Nat) y, [y0, y1, y2, y3, y4, y5, y6, y7, y8, y9, y10][j]? = some y → W.cell? ⟨gb, j, none⟩ = some (.int .i64 y)) → gb < W.heap.size → Calls Try.prog 44 #[.slice (some ⟨gb, 0, none⟩) 11 cap, .bool false] W fun e w' => e = .returned (.agg J) ∧ Below W.heap.size W w') := fun W gb cap h1 h2 h3 => by
    rw [hJ]
    exact job_short y0 y1 y2 y3 y4 y5 y6 y7 y8 y9 y10 gb cap W h1 h2 h3
  clear hJ
  clear hb hx hw1 hC hall hlen
  go_enter Try.func23, Try.ntmps23
  go_upto_region 4 with (refine wpList_store_new rfl 34 (.tmp 4) (.tmp 30) rfl C (by rw [World.size_alloc]; rfl) (by rfl) 34 _ (by rw [HC1.out.2]; exact info_rec) (by rw [HC1.out.2]; rfl) HC1.out.1 ?_)
  clear hCl
  rw [← HW1.out]
  clear HW1 hc0 hg
  go_upto_region 8 with (first
    | (go_at_call 42; refine (CM.out _).mono ?_; rintro e w3 ⟨rfl, hw3⟩; obtain rfl := hw3.symm)
    | (go_at_call 43; refine (CN.out _ R1.out.2.1).mono ?_; rintro e w2 ⟨gb, cap, rfl, hgb, hcells, B2⟩
       have R2 : Hid (RecAt w2 w.heap.size zeroR (.slice none 0 0) ∧ Below w.heap.size w w2 ∧ RecAt w2 (w.heap.size + 1) ⟨3, fun _ => 0, []⟩ (.slice none 0 0) ∧ w.heap.size + 2 ≤ gb ∧ gb < w2.heap.size) := ⟨R1.out.1.below B2, R1.out.2.1.trans (B2.mono R1.out.2.1.size), R1.out.2.2.1.below B2, by rw [← R1.out.2.2.2]; exact hgb.1, hgb.2.1⟩
       have HCE := hideN hcells
       have hcap1 := hgb.2.2.1
       have hcap2 := hgb.2.2.2
       clear B2 hgb hcells))
  have z0 : w2.cell? ⟨w.heap.size + 1, 0, none⟩ = some (.int .i64 3) := R2.out.2.2.1.cell 0
  go_upto_region 25 with (first
    | (go_at_call 44; refine (CJ.out _ gb cap ⟨hcap1, hcap2⟩ HCE.out R2.out.2.2.2.2).mono ?_; rintro e w3 ⟨rfl, B3⟩
       have R3 : Hid (RecAt w3 (w.heap.size + 1) ⟨3, fun _ => 0, []⟩ (.slice none 0 0) ∧ RecAt w3 w.heap.size zeroR (.slice none 0 0) ∧ Below w.heap.size w w3) := ⟨R2.out.2.2.1.below B3, R2.out.1.below B3, R2.out.2.1.trans (B3.mono R2.out.2.1.size)⟩
       clear B3)
    | (refine wpList_store_mid rfl 32 (.tmp 70) (.tmp 69) rfl (w.heap.size + 1) 4 J rfl rfl (by rw [HJ.out.2.1]; exact R3.out.1.there4) (by rw [HJ.out.2.1]; exact info_stored) HJ.out.2.2 ?_
       obtain ⟨w4, hw4⟩ : ∃ w4, w4 = w3.setCells (w.heap.size + 1) 4 J.toList := ⟨_, rfl⟩
       rw [← hw4]
       have R4 : Hid (RecAt w4 (w.heap.size + 1) ⟨3, setAll [3, 4, 5, 8, 9, 10, 11, 12, 13, 14, 15] [y0, y1, y2, y3, y4, y5, y6, y7, y8, y9, y10] (fun _ => 0), []⟩ (.slice none 0 0) ∧ RecAt w4 w.heap.size zeroR (.slice none 0 0) ∧ Below w.heap.size w w4) := by
         rw [hw4, HJ.out.1]
         exact ⟨RecAt.job_short _ _ _ _ _ _ _ _ _ _ _ R3.out.1, (setCells_other _ _ _ _ (by omega) _).trans R3.out.2.1, below_setCells (Nat.le_succ _) _ R3.out.2.2 _⟩
       clear hw4))
  clear z0
  go_upto_region 27 with (first
    | (refine wpList_load_wanted (by rfl) 34 (.tmp 4) rfl (w.heap.size + 1) rfl 34 D (0, 0) _ (by rw [HD.out.1]; exact R4.out.1) under_rec rfl (by rw [HD.out.2.1]; exact info_rec) ?_)
    | (go_at_call 16; refine (CC.out _).mono ?_; rintro e w5 ⟨rfl, B5⟩
       have R5 : Hid (RecAt w5 (w.heap.size + 1) ⟨3, setAll [3, 4, 5, 8, 9, 10, 11, 12, 13, 14, 15] [y0, y1, y2, y3, y4, y5, y6, y7, y8, y9, y10] (fun _ => 0), []⟩ (.slice none 0 0) ∧ RecAt w5 w.heap.size zeroR (.slice none 0 0) ∧ Below w.heap.size w w5) := ⟨R4.out.1.below B5, R4.out.2.1.below B5, R4.out.2.2.trans (B5.mono R4.out.2.2.size)⟩
       clear B5))
  go_wp2_with (first
    | (refine wpList_load_row rfl 34 (.tmp 4) rfl (w.heap.size + 1) rfl 34 D (0, 0) _ (by rw [HD.out.1]; exact R5.out.1) under_rec rfl (by rw [HD.out.2.1]; exact info_rec) ?_)
    | (refine wpList_store_row rfl 34 (.tmp 2) (.tmp 119) rfl w.heap.size D rfl rfl 34 (recA zeroR (.slice none 0 0)) R5.out.2.1 (by rw [HD.out.2.1]; exact info_rec) (by rw [HD.out.2.1]; rfl) HD.out.2.2 ?_))
  refine bodyPost_ret (results_ct_row rfl _ _ w.heap.size 34 _ (0, 0) _ rfl (setRow_heap _ _ _ _ _ _ R5.out.2.1) under_rec rfl (by rw [HD.out.2.1]; exact info_rec)) rfl ?_
  refine ⟨below_setRow R5.out.2.2 (Nat.le_refl _), ?_⟩
  rw [HD.out.1]
  rfl
end Go.Proofs.Ytjnjaojafimfeaa
