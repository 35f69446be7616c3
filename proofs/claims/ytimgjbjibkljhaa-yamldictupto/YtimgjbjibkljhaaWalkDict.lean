/-
  The walk of YamlDict.
-/
import Derived.Test.YtimgjbjibkljhaaYDictK
import Derived.Test.YtimgjbjibkljhaaShown
import Derived.Deep.Cut
import Derived.Deep.RegionWith
namespace Go.Proofs.Ytimgjbjibkljhaa.yamlDict
open Go.RowKit

theorem dict_len {w W : World} {us : List (Nat × Obj)} {f : Nat} {lab : Nat → Tag} {Hb : Nat} {es : List Ent} {M : Nat} (n : Nat) (ts : List BP) (hn : ts.length = n) (a1 a2 : Option Addr) (c1 c2 : Nat) (h : Bk w us f lab Hb es M W) (p1 : WnP w us a1 c1 (ts ++ [bh, bh])) (p2 : WnP w us a2 c2 ts) (hM : M ≤ 4294967296) (hsz : (dictL (ts.map un)).length ≤ M) (he : es.length ≤ 899) :
    Calls Try.prog 18 #[.pointer (some ⟨Hb, 0, none⟩), .slice a1 n c1, .slice a2 n c2] W fun e w' => e = .returned (.bool true) ∧ ∃ lab' es', Bk w us f lab' Hb es' M w' ∧ es'.length = es.length + 1 := by
  subst hn
  exact dictM_any ts a1 a2 c1 c2 h p1 p2 hM hsz he
set_option maxHeartbeats 8000000 in
set_option maxRecDepth 1000000 in
theorem walk (a : Option Addr) (c : Nat) (ts : List BP) (i0 i1 : Int) (w : World) (h : IsPairs w a c ts) (hl : ts.length ≤ 1048576) (hL : (dictL (ts.map un)).length ≤ 100000000) (hL2 : ∀ k p, p ∈ ts → (dictL ((ts.set k p).map un)).length ≤ 100000000) (hm : MaxAt w) :
    Calls Try.prog 4 #[.slice a ts.length c, .int .i64 i0, .int .i64 i1] w fun e w' => e = .returned (.bool true) ∧ Below w.heap.size w w' := by
  obtain ⟨n, hn⟩ : ∃ n, n = ts.length := ⟨_, rfl⟩
  have HI := hideY h
  have HM := hideY hm
  have HN := hideY hn
  have HL := hideY (And.intro hL hL2)
  have CS : Hid (Calls Try.prog 9 #[] w fun e w' => e = .returned (.bool true) ∧ Below w.heap.size w w') := shown_any w hm
  have CL : Hid (∀ W, Below w.heap.size w W → Calls Try.prog 17 #[.slice a n c] W fun e w' => ∃ g c', e = .returned (.slice (some ⟨g, 0, none⟩) n c') ∧ Prs w' W.heap.size (.slice (some ⟨g, 0, none⟩) (ts ++ [bh, bh]).length c') (ts ++ [bh, bh]) ∧ Below W.heap.size W w') := fun W hb => by rw [hn]; exact pairsLent_any a c ts W (h.below hb) (by omega)
  rw [← hn] at hl ⊢
  clear h hm hn hL hL2
  go_enter Try.func4, Try.ntmps4
  go_upto_region 3 with (first
    | (go_at_call 9; refine CS.out.mono ?_; rintro e w1 ⟨rfl, b1⟩; have B1 := hideY b1; clear b1))
  clear CS
  obtain ⟨Hb, hHb⟩ : ∃ Hb, Hb = w1.heap.size := ⟨_, rfl⟩
  obtain ⟨w2, hw2⟩ : ∃ w2, w2 = w1.alloc (.cells #[.slice none 0 0, .slice none 0 0, .int .i64 0] 28) := ⟨_, rfl⟩
  obtain ⟨lab2, hlab2⟩ : ∃ lab2 : Nat → Tag, lab2 = fun k => if k = Hb then .box else .user 0 := ⟨_, rfl⟩
  have K2 : Hid (Bk w [] 0 lab2 Hb [] 100000000 w2) := by
    rw [hw2, hlab2, hHb]
    exact Bk.start w [] 100000000 w1 B1.out (fun p hp => by cases hp)
  have HW2 := hideY (And.intro hHb hw2)
  clear hHb hw2 hlab2
  go_upto_region 4 with fail
  rw [← HW2.out.1, ← HW2.out.2]
  clear HW2 B1
  go_upto_region 5 with (first
    | (go_at_call 17; refine (CL.out _ K2.out.below).mono ?_; rintro e w3 ⟨g, c3, rfl, s3, b3⟩; have S3 := hideY (And.intro s3 b3); clear s3 b3))
  clear CL
  obtain ⟨o, ho1, ho2, ho3⟩ := prs_block S3.out.1
  obtain ⟨us, hus⟩ : ∃ us : List (Nat × Obj), us = [(g, o)] ++ [] := ⟨_, rfl⟩
  have k3 := K2.out.more (vs := [(g, o)]) S3.out.2 (fun p hp => by obtain rfl := List.mem_singleton.1 hp; exact ⟨ho1, ho2⟩)
  rw [← hus] at k3
  obtain ⟨lab3, hlab3⟩ : ∃ lab3 : Nat → Tag, lab3 = fun k => if k < w2.heap.size then lab2 k else .user 0 := ⟨_, rfl⟩
  rw [← hlab3] at k3
  have K3 := hideY k3
  have HU := hideY (show (g, o) ∈ us by rw [hus]; simp)
  have HO := hideY (And.intro (Nat.le_trans K2.out.below.size ho2) ho3)
  have HP := hideY (show WnP w us (some ⟨g, 0, none⟩) c3 (ts ++ [bh, bh]) from wnP_block ho3 (by have := HN.out; simp; omega) HU.out)
  have HQ := hideY (WnP.ofIs us HI.out)
  clear k3 hlab3 hus ho1 ho2 ho3 K2 S3
  go_upto_region 7 with (first
    | (go_at_call 18; refine (dict_len n ts HN.out.symm _ _ _ _ K3.out HP.out HQ.out (by omega) HL.out.1 (by simp)).mono ?_; rintro e w4 ⟨rfl, lab4, es4, k4, l4⟩; have K4 := hideY k4; have L4 := hideY l4; clear k4 l4 K3)
    | (go_at_call 18; refine (dict_len n ts HN.out.symm _ _ _ _ K4.out HP.out HQ.out (by omega) HL.out.1 (by have := L4.out; simp at this; omega)).mono ?_; rintro e w5 ⟨rfl, lab5, es5, k5, l5⟩; have K5 := hideY k5; have L5 := hideY (show es5.length = 2 by have := L4.out; simp at this; omega); clear k5 l5 K4 L4)
    | (go_at_call 12; refine (K5.out.write (by omega) (by have := L5.out; omega)).mono ?_; rintro e w6 ⟨rfl, f6, lab6, es6, k6, l6⟩; have K6 := hideY k6; have L6 := hideY (show es6.length ≤ 4 by have := L5.out; omega); clear k6 l6 K5 L5)
    | (go_at_call 18; refine (dict_len n ts HN.out.symm _ _ _ _ K6.out HP.out HQ.out (by omega) (by have := HL.out.1; omega) (by have := L6.out; omega)).mono ?_; rintro e w7 ⟨rfl, lab7, es7, k7, l7⟩; have K7 := hideY k7; have L7 := hideY (show es7.length ≤ 5 by have := L6.out; omega); clear k7 l7 K6 L6))
  clear HP HQ
  have G7 := hideY (show w7.heap[g]? = some o ∧ lab7 g = .user 0 from K7.out.usr _ HU.out)
  go_upto_if 48 with (first
    | (refine wpList_appendP rfl (.const (.slice none 0 0)) (.tmp 44) rfl w7.heap.size (.slice none 0 0) [] ts rfl (World.ownsRow_nil _ _ _ _) a c n HN.out rfl (HI.out.below K7.out.below) (by have := HN.out; simp; omega) (Nat.le_refl _) ?_; intro v8 w8 s8 g8; have S8 := hideY (And.intro s8 (below_ofN g8)); clear s8 g8))
  go_cut [9] from 48 to 61 (fun y wx => ∃ (a9 : Option Addr) (c9 : Nat) (ts9 : List BP) (lab9 : Nat → Tag) (vs9 : List (Nat × Obj)), y = .slice a9 n c9 ∧ Hid (ts9.length = n ∧ (dictL (ts9.map un)).length ≤ 100000000 ∧ IsPairs wx a9 c9 ts9 ∧ WnP w vs9 a9 c9 ts9 ∧ Bk w ((g, o) :: vs9) f6 lab9 Hb es7 (100000000 + 70) wx ∧ ∀ p ∈ vs9, p.1 ≠ g))
  case first =>
    by_cases hn0 : n = 0
    · obtain rfl : ts = [] := List.eq_nil_of_length_eq_zero (by rw [← HN.out]; exact hn0)
      obtain ⟨a9, c9, e9, i9⟩ := Prs.is S8.out.1 (by simp)
      subst e9
      have I9 := hideY i9
      clear i9
      subst hn0
      go_wp2_with fail
      go_meet
      exact ⟨a9, c9, [], lab7, [], rfl, rfl, HL.out.1, I9.out, fun X _ _ => ⟨by simp, by simp, .inl rfl⟩, (K7.out.later S8.out.2).turn (P := fun _ => False) (Kept.refl _ _) (fun _ h => h.elim) (fun p hp => by obtain rfl := List.mem_singleton.1 hp; exact ⟨(S8.out.2.block g (Array.getElem?_eq_some_iff.1 G7.out.1).1).trans G7.out.1, G7.out.2⟩), fun p hp => by cases hp⟩
    · have hpos : 0 < n := by omega
      have hposI : (0 : Int) < (n : Int) := by omega
      obtain ⟨k, hk⟩ : ∃ k, k = amK i1 n := ⟨_, rfl⟩
      obtain ⟨j, hj⟩ : ∃ j, j = amK i0 n := ⟨_, rfl⟩
      have hkl : k < n := by rw [hk]; exact amK_lt i1 n hpos
      have hjl : j < n := by rw [hj]; exact amK_lt i0 n hpos
      obtain ⟨p, hp⟩ : ∃ p, ts[j]? = some p := ⟨_, List.getElem?_eq_getElem (by rw [← HN.out]; exact hjl)⟩
      obtain ⟨q, hq⟩ : ∃ q, ts[k]? = some q := ⟨_, List.getElem?_eq_getElem (by rw [← HN.out]; exact hkl)⟩
      have s8 := S8.out.1
      rw [List.nil_append] at s8
      obtain ⟨a8, c8, e8, f8⟩ := Prs.form s8
      obtain ⟨g8, ea8⟩ := f8 (by rw [← HN.out]; exact hpos)
      subst ea8
      rw [← HN.out] at e8
      subst e8
      obtain ⟨⟨x0, x1⟩, x2⟩ := s8.cellAt hq
      obtain ⟨lb, lo, rfl, _, lc⟩ := (HI.out.below (K7.out.below.trans (S8.out.2.mono K7.out.below.size))).2.2.resolve_left (fun e => by have := HN.out; rw [e] at this; simp at this; omega)
      obtain ⟨y0, y1⟩ := lc j p hp
      have C1 : Hid (Calls Try.prog 19 #[.int .i64 i1, .int .i64 n] w8 fun e w' => e = .returned (.int .i64 (k : Nat)) ∧ w' = w8) := by rw [hk]; exact among_any i1 n _ hpos (by omega)
      have C2 : Hid (Calls Try.prog 19 #[.int .i64 i0, .int .i64 n] w8 fun e w' => e = .returned (.int .i64 (j : Nat)) ∧ w' = w8) := by rw [hj]; exact among_any i0 n _ hpos (by omega)
      have X9 := hideY (And.intro s8 (And.intro hp hq))
      have ZC := hideY (And.intro (And.intro x0 x1) (And.intro x2 (And.intro y0 y1)))
      clear s8 hp hq hk hj lc y0 y1
      have xlt := cell_lt x0
      simp only [] at xlt
      obtain ⟨w9, hw9⟩ : ∃ w9, w9 = (w8.setCell ⟨g8, k * 2, none⟩ (.string p.1)).setCell ⟨g8, k * 2 + 1, none⟩ (.string p.2) := ⟨_, rfl⟩
      have HW9 := hideY hw9
      clear hw9
      have ck0 : (0 : Int) ≤ (k : Int) := by omega
      have ck1 : (k : Int) < (n : Int) := by omega
      have cj0 : (0 : Int) ≤ (j : Int) := by omega
      have cj1 : (j : Int) < (n : Int) := by omega
      go_wp2_with (first
        | (go_at_call_of 19 i1; refine C1.out.mono ?_; rintro e wq ⟨rfl, hwq⟩; have hwq := hwq.symm; subst hwq)
        | (go_at_call_of 19 i0; refine C2.out.mono ?_; rintro e wq ⟨rfl, hwq⟩; have hwq := hwq.symm; subst hwq)
        | (refine wpList_load_mid rfl 41 (.tmp 59) rfl lb (lo + j * 2) rfl [.string p.1, .string p.2] _ (fun m v hv => ?_) Try.underlying41 rfl (by kernel_rfl) ?_; match m, hv with
            | 0, hv => exact (by simpa using hv) ▸ ZC.out.2.2.1
            | 1, hv => exact (by simpa using hv) ▸ ZC.out.2.2.2))
      rw [← HW9.out]
      clear C1 C2
      go_meet
      have r1 := row_setP X9.out.1 k p
      have r2 : Kept (fun q => q = g8) w8 ((w8.setCell ⟨g8, k * 2, none⟩ (.string p.1)).setCell ⟨g8, k * 2 + 1, none⟩ (.string p.2)) := (Kept.setCell (fun q => q = g8) w8 g8 (k * 2) _ rfl).trans (Kept.setCell (fun q => q = g8) _ g8 (k * 2 + 1) _ rfl)
      rw [← HW9.out] at r1 r2
      have hl9 : (ts.set k p).length = n := by rw [List.length_set]; exact HN.out.symm
      obtain ⟨o9, b1, b2, b3⟩ := prs_block (show Prs w9 w7.heap.size (.slice (some ⟨g8, 0, none⟩) (ts.set k p).length c8) (ts.set k p) by rw [hl9]; exact r1)
      have hg8 : g8 ≠ g := fun e => by have := (Array.getElem?_eq_some_iff.1 G7.out.1).1; omega
      have hs8 := S8.out.2.size
      have k8 := (K7.out.more (vs := []) S8.out.2 (fun p hp => by cases hp)).turn r2 (vs := [(g, o), (g8, o9)]) (fun q hq => by
        subst hq
        exact ⟨if_neg (by omega), by have := K7.out.below.size; omega⟩) (fun p hp => by
        rcases List.mem_cons.1 hp with rfl | hp
        · exact ⟨((r2.block g (by have := (Array.getElem?_eq_some_iff.1 G7.out.1).1; show g < w8.heap.size; omega) (fun e => hg8 e.symm)).trans (S8.out.2.block g (Array.getElem?_eq_some_iff.1 G7.out.1).1)).trans G7.out.1, (if_pos (Array.getElem?_eq_some_iff.1 G7.out.1).1).trans G7.out.2⟩
        · obtain rfl := List.mem_singleton.1 hp
          exact ⟨b1, if_neg (by show ¬ g8 < w7.heap.size; omega)⟩)
      have wn := wnP_block (w := w) (us := [(g8, o9)]) b3 (by rw [hl9]; omega) (by simp)
      refine ⟨some ⟨g8, 0, none⟩, c8, ts.set k p, _, [(g8, o9)], rfl, hl9, HL.out.2 k p (List.mem_of_getElem? X9.out.2.1), ?_, wn, k8, fun p hp => by obtain rfl := List.mem_singleton.1 hp; exact hg8⟩
      exact wn w9 k8.below (fun p hp => by obtain rfl := List.mem_singleton.1 hp; exact b1)
  case rest =>
    obtain ⟨a9, c9, ts9, lab9, vs9, rfl, H9⟩ := hcut
    have HB9 := hideY H9.out.2.2.2.2.1.below
    have HO9 := hideY (HO.out.2 wc (H9.out.2.2.2.2.1.usr (g, o) (by simp)).1)
    go_upto_region 11 with (first
      | (refine wpList_copyP rfl (.tmp 62) (.tmp 63) rfl w2.heap.size g c3 n ts [bh, bh] ts9 HN.out.symm rfl HO9.out a9 c9 H9.out.1 rfl H9.out.2.2.1 ?_; intro r10 w10 s10 k10; have S10 := hideY (And.intro s10 k10); clear s10 k10))
    obtain ⟨o10, p1, p2, p3⟩ := prs_block S10.out.1
    have K10 := hideY (H9.out.2.2.2.2.1.turn (vs := (g, o10) :: vs9) S10.out.2 (fun k hk => by rw [hk]; exact ⟨(H9.out.2.2.2.2.1.usr (g, o) (by simp)).2, HO.out.1⟩) (fun p hp => by
      rcases List.mem_cons.1 hp with rfl | hp
      · exact ⟨p1, (H9.out.2.2.2.2.1.usr (g, o) (by simp)).2⟩
      · have hu := H9.out.2.2.2.2.1.usr p (List.mem_cons_of_mem _ hp)
        exact ⟨(S10.out.2.block p.1 (Array.getElem?_eq_some_iff.1 hu.1).1 (H9.out.2.2.2.2.2 p hp)).trans hu.1, hu.2⟩))
    have HP10 := hideY (show WnP w ((g, o10) :: vs9) (some ⟨g, 0, none⟩) c3 (ts9 ++ [bh, bh]) from wnP_block p3 (by have := H9.out.1; simp; omega) (by simp))
    have HQ10 := hideY (show WnP w ((g, o10) :: vs9) a9 c9 ts9 from H9.out.2.2.2.1.more (fun p hp => List.mem_cons_of_mem _ hp))
    have HL9 := hideY (And.intro H9.out.1 H9.out.2.1)
    clear p1 p2 p3 S10 HO9 HO G7 K7 H9 S8 HB9
    go_upto_region 13 with (first
      | (go_at_call 18; refine (dict_len n ts9 HL9.out.1 _ _ _ _ K10.out HP10.out HQ10.out (by omega) (by have := HL9.out.2; omega) (by have := L7.out; omega)).mono ?_; rintro e w11 ⟨rfl, lab11, es11, k11, l11⟩; have K11 := hideY k11; have L11 := hideY (show es11.length ≤ 6 by have := L7.out; omega); clear k11 l11 K10 L7)
      | (go_at_call 12; refine (K11.out.write (by omega) (by have := L11.out; omega)).mono ?_; rintro e w12 ⟨rfl, f12, lab12, es12, k12, l12⟩; have B12 := hideY k12.below; clear k12 l12 K11 L11))
    clear HP10 HQ10 HL9
    obtain ⟨D, hD⟩ : ∃ D, D = (if dictE (ts.map un) = 0 then dictL (ts.map un) else []) := ⟨_, rfl⟩
    obtain ⟨er, her⟩ : ∃ er, er = dictE (ts.map un) := ⟨_, rfl⟩
    have CF : Hid (Calls Try.prog 20 #[.slice a n c] w12 (RefPost er D w12)) := by
      rw [hD, her, HN.out]
      exact refDict_any a c ts w12 (HI.out.below B12.out) (by have := HL.out.1; omega)
    have HD := hideY (And.intro hD her)
    clear hD her
    go_upto_region 14 with (first
      | (go_at_call 20; refine CF.out.mono ?_; rintro e w13 ⟨a13, c13, rfl, n13, b13⟩; have N13 := hideY (And.intro n13.1 b13); clear n13 b13))
    clear CF
    by_cases hA : er = 0
    · subst hA
      have hE : dictE (ts.map un) = 0 := HD.out.2.symm
      have hD2 : D = dictL (ts.map un) := by rw [HD.out.1, if_pos hE]
      have hDl : D.length ≤ 1073741823 := by rw [hD2]; have := HL.out.1; omega
      have HDD := hideY hD2
      have HAA := hideY hE
      have HBC := hideY (B12.out.trans (N13.out.2.mono B12.out.size))
      have CB : Hid (Calls Try.prog 21 #[.slice a13 D.length c13] w13 fun e w' => ∃ a9 c9, e = .returned (.tuple #[.slice a9 n c9, .int .i64 0]) ∧ IsPairs w' a9 c9 ts ∧ Below w13.heap.size w13 w') := by
        refine (readDict_any a13 c13 D w13 N13.out.1 hDl (HM.out.below HBC.out)).mono ?_
        rintro e w' ⟨v, er, us, rfl, hr, hs, hb⟩
        have hd := HAA.out
        unfold dictE at hd
        split at hd
        · cases hd
        · rename_i h256
          obtain ⟨rfl, rfl⟩ := readD_one hr (by simp at h256; omega) ((goE_ok _ _).1 hd) HDD.out
          obtain ⟨a9, c9, rfl, hI⟩ := hs.is (by have := HN.out; omega)
          exact ⟨a9, c9, by rw [← HN.out], hI, hb⟩
      clear HDD HAA hE hD2 hDl HD
      go_upto_region 17 with (first
        | (go_at_call 21; refine CB.out.mono ?_; rintro e w14 ⟨a14, c14, rfl, i14, b14⟩; have I14 := hideY (And.intro i14 b14); clear i14 b14))
      clear CB
      have B14 := hideY (HBC.out.trans (I14.out.2.mono HBC.out.size))
      have CT : Hid (Calls Try.prog 22 #[.slice a14 n c14, .slice a n c] w14 fun e w' => e = .returned (.bool true) ∧ ∃ m, w' = w14.drewN m) := by
        have := pairs_any a14 a c14 c ts ts w14 I14.out.1 (HI.out.below B14.out)
        rw [← HN.out] at this
        refine hideY (this.mono fun e w' hw => ⟨?_, hw.2⟩)
        rw [hw.1, decide_eq_true rfl]
      clear N13 I14 HBC
      go_wp2_with (first
        | (go_at_call 22; refine CT.out.mono ?_; rintro e w15 ⟨rfl, m, rfl⟩))
      go_ret
      exact ⟨rfl, B14.out.trans ((below_drewM _ w14 m).mono B14.out.size)⟩
    · have hAb : (er != 0) = true := by simpa using hA
      clear HD
      go_wp2_with fail
      go_ret
      exact ⟨rfl, B12.out.trans (N13.out.2.mono B12.out.size)⟩
end Go.Proofs.Ytimgjbjibkljhaa.yamlDict
