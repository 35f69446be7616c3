/-
  The walk of Get: a record with a tube.
-/
import Derived.Test.YtjnjaojafimfeaaGetB
namespace Go.Proofs.Ytjnjaojafimfeaa
open Go.RowKit

set_option maxHeartbeats 8000000 in
set_option maxRecDepth 1000000 in
theorem get_whole_yes (g o c : Nat) (x : UInt8) (l : List UInt8) (n : Nat → Int) (rest : List UInt8) (t body : List UInt8) (w : World) (hb : IsBytes w (some ⟨g, o, none⟩) c (x :: l)) (hn : takeN (fieldsL 2) l (fun _ => 0) = some (n, rest)) (hk2 : (x.toNat : Int) = 2) (htt : takeT rest = some (t, body)) (hck : checkE ⟨2, n, t⟩ body.length = 0) :
    Calls Try.prog 22 #[.slice (some ⟨g, o, none⟩) (l.length + 1) c] w fun e w' => Below w.heap.size w w' ∧ ∃ v, e = .returned (getV ⟨2, n, t⟩ v 0) ∧ Own w' (w.heap.size + 1) v body := by
  have hc0 : w.cell? ⟨g, o, none⟩ = some (.int .u8 (x.toNat : Int)) := hb.cell 0 x rfl
  have hg : g < w.heap.size := by have := cell_lt hc0; simpa using this
  have hcc := hb.1
  rw [List.length_cons] at hcc
  have hcm : c ≤ 9223372036854775807 := by have := hb.2.1; unfold maxLen at this; omega
  have hx64 : wrap64 (x.toNat : Int) = 2 := by rw [wrap64_u8, hk2]
  have hd := hb.drop 1 (by simp)
  obtain ⟨a1, ha1⟩ : ∃ a1, (if c = 1 then some ⟨g, o, none⟩ else some ⟨g, o + 1, none⟩ : Option Addr) = a1 := ⟨_, rfl⟩
  rw [ha1] at hd
  have CT : Hid (∀ W, Below w.heap.size w W → Calls Try.prog 39 #[.slice a1 l.length (c - 1), .int .i64 2] W fun e w' => ∃ a2 c2, Below W.heap.size W w' ∧ e = .returned (takeV n (.slice a2 rest.length c2) true) ∧ IsBytes w' a2 c2 rest) := fun W hW => by
    refine (takeNumbers_any 2 a1 (c - 1) l W (hd.below hW)).mono ?_
    rintro e w' ⟨hB, ⟨h, _⟩ | ⟨n', rest', a2, c2, h, rfl, hi⟩⟩
    · rw [hn] at h; cases h
    · rw [hn] at h
      simp only [Option.some.injEq, Prod.mk.injEq] at h
      obtain ⟨rfl, rfl⟩ := h
      exact ⟨a2, c2, hB, rfl, hi⟩
  have CR : Hid (∀ W, Calls Try.prog 40 #[.agg (numsA n), .int .i64 2] W fun e w' => e = .returned (.agg (recA ⟨2, n, []⟩ (.slice none 0 0))) ∧ Below W.heap.size W w') := record_any 2 n
  have R0 : Hid (RecAt (w.alloc (.cells (recA zeroR (.slice none 0 0)) 34)) w.heap.size zeroR (.slice none 0 0)) := RecAt.new _ _ _
  have B0 : Hid (Below w.heap.size w (w.alloc (.cells (recA zeroR (.slice none 0 0)) 34))) := (Below.refl _ w).alloc (Nat.le_refl _) _
  have CU : Hid (∀ W a2 c2, IsBytes W a2 c2 rest → Calls Try.prog 41 #[.slice a2 rest.length c2] W fun e w' => ∃ a3 c3, Below W.heap.size W w' ∧ e = .returned (.tuple #[.string ⟨t.toArray⟩, .slice a3 body.length c3, .bool true]) ∧ ∀ wo, IsBytes wo a2 c2 rest → IsBytes wo a3 c3 body) := fun W a2 c2 hI => by
    refine (takeTube_any a2 c2 rest W hI).mono ?_
    rintro e w' ⟨hB, ⟨h, _⟩ | ⟨t', rest', a3, c3, h, rfl, hi⟩⟩
    · rw [htt] at h; cases h
    · rw [htt] at h
      simp only [Option.some.injEq, Prod.mk.injEq] at h
      obtain ⟨rfl, rfl⟩ := h
      exact ⟨a3, c3, hB, rfl, hi⟩
  clear htt
  have HR : Hid (body.length ≤ 65535) := (check_small hck).2
  have CC0 : ∀ W a2 c2, Calls Try.prog 13 #[.agg (recA ⟨2, n, t⟩ (.slice a2 body.length c2))] W fun e w' => e = .returned (.int .i64 (checkE ⟨2, n, t⟩ body.length)) ∧ Below W.heap.size W w' := fun W a2 c2 => check_any ⟨2, n, t⟩ a2 body.length c2 W
  rw [hck] at CC0
  have CC : Hid (∀ W a2 c2, Calls Try.prog 13 #[.agg (recA ⟨2, n, t⟩ (.slice a2 body.length c2))] W fun e w' => e = .returned (.int .i64 0) ∧ Below W.heap.size W w') := CC0
  clear CC0
  obtain ⟨D, hD⟩ : ∃ D, D = numsA n := ⟨_, rfl⟩
  have HD1 : Hid (D.all (·.oneCell') = true ∧ D.size = 16) := ⟨by rw [hD]; exact nums_one _, by rw [hD]; rfl⟩
  unfold takeV at CT
  rw [← hD] at CT CR
  obtain ⟨C, hC⟩ : ∃ C, C = recA ⟨2, n, []⟩ (.slice none 0 0) := ⟨_, rfl⟩
  have HC : Hid (C = recA ⟨2, n, []⟩ (.slice none 0 0)) := hC
  have HC1 : Hid (C.all (·.oneCell') = true ∧ C.size = 19) := ⟨by rw [hC]; exact rec_one _ _ _ _, by rw [hC]; rfl⟩
  rw [← hC] at CR
  have hC17 : C[17]? = some (.string ⟨#[]⟩) := by rw [hC]; rfl
  have hC18 : C[18]? = some (.slice none 0 0) := by rw [hC]; rfl
  clear hd hb hn hC hD hk2
  go_enter Try.func22, Try.ntmps22
  go_wp2_with (first
    | (go_at_call 39
       refine (CT.out _ B0.out).mono ?_
       rintro e w1 ⟨a2, c2, B1, rfl, hi2⟩
       have BX1 : Hid (Below w.heap.size w w1) := below_box B1
       have R1 : Hid (RecAt w1 w.heap.size zeroR (.slice none 0 0)) := R0.out.below B1
       have I1 : Hid (IsBytes w1 a2 c2 rest) := hi2
       clear B1 hi2)
    | (refine wpList_store_new rfl 53 (.tmp 5) (.tmp 22) rfl D rfl rfl 53 _ (by rw [HD1.out.2]; exact info_nums) (by rw [HD1.out.2]; rfl) HD1.out.1 ?_)
    | (refine wpList_load_row rfl 53 (.tmp 5) rfl w1.heap.size rfl 53 D (0, 0) _ (heap_alloc_last _ _) Try.underlying53 rfl (by rw [HD1.out.2]; exact info_nums) ?_)
    | (go_at_call 40
       refine (CR.out _).mono ?_
       rintro e w2 ⟨rfl, B2⟩
       have Bz : Below w1.heap.size w1 w2 := below_box B2
       have BX2 : Hid (Below w.heap.size w w2) := BX1.out.trans (Bz.mono BX1.out.size)
       have R2 : Hid (RecAt w2 w.heap.size zeroR (.slice none 0 0)) := R1.out.below Bz
       have I2 : Hid (IsBytes w2 a2 c2 rest ∧ w1.heap.size ≤ w2.heap.size) := ⟨I1.out.below Bz, Bz.size⟩
       clear B2 Bz)
    | (refine wpList_store_new rfl 34 (.tmp 8) (.tmp 30) rfl C rfl rfl 34 _ (by rw [HC1.out.2]; exact info_rec) (by rw [HC1.out.2]; rfl) HC1.out.1 ?_)
    | (refine wpList_load_row rfl 34 (.tmp 8) rfl w2.heap.size rfl 34 (recA ⟨2, n, t⟩ (.slice a4 body.length c4)) (0, 0) _ T5.out under_rec rfl info_rec ?_)
    | (go_at_call 41
       refine (CU.out _ a2 c2 (I2.out.1.below ((Below.refl _ w2).alloc (Nat.le_refl _) _))).mono ?_
       rintro e w3 ⟨a3, c3, B3, rfl, hi3⟩
       have Bz : Below w2.heap.size w2 w3 := below_box B3
       have BX3 : Hid (Below w.heap.size w w3) := BX2.out.trans (Bz.mono BX2.out.size)
       have R3 : Hid (RecAt w3 w.heap.size zeroR (.slice none 0 0)) := R2.out.below Bz
       have T3 : Hid (RecAt w3 w2.heap.size ⟨2, n, []⟩ (.slice none 0 0)) := (B3.block _ (by simp)).trans (by rw [HC.out]; exact heap_alloc_last _ _)
       have t17 := T3.out.tube
       have t18 := T3.out.body
       have f17 := T3.out.frozen 17
       have f18 := T3.out.frozen 18
       have hltb : w.heap.size < w2.heap.size := by have := R2.out.lt; omega
       have hl3 : w2.heap.size < w3.heap.size := T3.out.lt
       have BXS : Hid (Below w.heap.size w ((w3.setCell ⟨w2.heap.size, 17, none⟩ (.string ⟨t.toArray⟩)).setCell ⟨w2.heap.size, 18, none⟩ (.slice a3 body.length c3))) := below_setCell (below_setCell BX3.out (by omega)) (by omega)
       have RS : Hid (RecAt ((w3.setCell ⟨w2.heap.size, 17, none⟩ (.string ⟨t.toArray⟩)).setCell ⟨w2.heap.size, 18, none⟩ (.slice a3 body.length c3)) w.heap.size zeroR (.slice none 0 0)) := (heap_setCell_other _ ⟨w2.heap.size, 18, none⟩ w.heap.size _ (by show w.heap.size ≠ w2.heap.size; omega)).trans ((heap_setCell_other _ ⟨w2.heap.size, 17, none⟩ w.heap.size _ (by show w.heap.size ≠ w2.heap.size; omega)).trans R3.out)
       have TS : Hid (RecAt ((w3.setCell ⟨w2.heap.size, 17, none⟩ (.string ⟨t.toArray⟩)).setCell ⟨w2.heap.size, 18, none⟩ (.slice a3 body.length c3)) w2.heap.size ⟨2, n, t⟩ (.slice a3 body.length c3)) := (T3.out.setTube t).setBody _
       have IS : Hid (IsBytes ((w3.setCell ⟨w2.heap.size, 17, none⟩ (.string ⟨t.toArray⟩)).setCell ⟨w2.heap.size, 18, none⟩ (.slice a3 body.length c3)) a3 c3 body ∧ w2.heap.size < ((w3.setCell ⟨w2.heap.size, 17, none⟩ (.string ⟨t.toArray⟩)).setCell ⟨w2.heap.size, 18, none⟩ (.slice a3 body.length c3)).heap.size) := ⟨(hi3 w2 I2.out.1).below (below_setCell (below_setCell Bz (Nat.le_refl _)) (Nat.le_refl _)), by simpa using hl3⟩
       clear B3 Bz hltb hl3 hi3)
    | (refine wpList_load_wanted (by rfl) 34 (.tmp 8) rfl w2.heap.size rfl 34 (recA ⟨2, n, t⟩ (.slice a3 body.length c3)) (0, 0) _ TS.out under_rec rfl info_rec ?_)
    | (go_at_call 13
       refine (CC.out _ a3 c3).mono ?_
       rintro e w6 ⟨rfl, B6⟩
       have BXL : Hid (Below w.heap.size w w6) := BXS.out.trans (B6.mono BXS.out.size)
       have RL : Hid (RecAt w6 w.heap.size zeroR (.slice none 0 0)) := RS.out.below B6
       have TL : Hid (RecAt w6 w2.heap.size ⟨2, n, t⟩ (.slice a3 body.length c3)) := TS.out.below B6
       have IL : Hid (IsBytes w6 a3 c3 body ∧ w2.heap.size < w6.heap.size) := ⟨IS.out.1.below B6, by have := B6.size; have := IS.out.2; omega⟩
       clear B6)
    | (refine wpList_append8 rfl (.const (.slice none 0 0)) (.tmp 52) rfl w6.heap.size (.slice none 0 0) [] rfl (Own.nil _ _) a3 c3 body rfl IL.out.1 (by have := HR.out; simp; omega) (Nat.le_refl _) ?_
       intro v4 w4 own4 gr4 g1 g2 g3
       clear g1 g2 g3
       rw [List.nil_append] at own4
       obtain ⟨a4, c4, hv4⟩ := one_of_own own4
       subst hv4
       have Bz : Below w6.heap.size w6 w4 := (Below.refl _ w6).grown gr4 (Nat.le_refl _) (fun j hj => by cases hj)
       have BX4 : Hid (Below w.heap.size w w4) := BXL.out.trans (Bz.mono BXL.out.size)
       have R4 : Hid (RecAt w4 w.heap.size zeroR (.slice none 0 0)) := RL.out.below Bz
       have T4 : Hid (RecAt w4 w2.heap.size ⟨2, n, t⟩ (.slice a3 body.length c3)) := TL.out.below Bz
       have O4 : Hid (Own w4 w6.heap.size (.slice a4 body.length c4) body) := own4
       have t4 := T4.out.body
       have f4 := T4.out.frozen 18
       have hlt4 : w.heap.size < w2.heap.size := by have := R2.out.lt; omega
       have R5 : Hid (RecAt (w4.setCell ⟨w2.heap.size, 18, none⟩ (.slice a4 body.length c4)) w.heap.size zeroR (.slice none 0 0)) := (heap_setCell_other w4 ⟨w2.heap.size, 18, none⟩ w.heap.size _ (by show w.heap.size ≠ w2.heap.size; omega)).trans R4.out
       have T5 : Hid (RecAt (w4.setCell ⟨w2.heap.size, 18, none⟩ (.slice a4 body.length c4)) w2.heap.size ⟨2, n, t⟩ (.slice a4 body.length c4)) := T4.out.setBody _
       clear own4 gr4 Bz hlt4)
    | (refine wpList_store_row rfl 34 (.tmp 2) (.tmp 56) rfl w.heap.size (recA ⟨2, n, t⟩ (.slice a4 body.length c4)) rfl rfl 34 (recA zeroR (.slice none 0 0)) R5.out info_rec rfl (rec_one _ _ _ _) ?_))
  refine bodyPost_ret (results_ct_row rfl _ _ w.heap.size 34 (recA ⟨2, n, t⟩ (.slice a4 body.length c4)) (0, 0) _ rfl (setRow_heap _ _ _ _ _ _ R5.out) under_rec rfl info_rec) rfl ?_
  have hlt2 : w.heap.size < w2.heap.size := by have := R2.out.lt; omega
  have hlt3 := IL.out.2
  refine ⟨below_setRow (below_setCell BX4.out (by omega)) (Nat.le_refl _), _, rfl, ?_⟩
  refine Own.mono (B := w6.heap.size) ?_ (by omega)
  have k1 := (Kept.setCell (fun q => q < w6.heap.size) w4 w2.heap.size 18 (.slice a4 body.length c4) hlt3).trans (Kept.setRow (fun q => q < w6.heap.size) _ w.heap.size (recA ⟨2, n, t⟩ (.slice a4 body.length c4)) (by omega))
  exact k1.own O4.out (fun q hq => by have := (O4.out.lt q hq).1; omega)
end Go.Proofs.Ytjnjaojafimfeaa
