/-
  The walk of RecordReads.
-/
import Derived.Test.YtjnjaojafimfeaaReadsKit
import Derived.Test.YtjnjaojafimfeaaShown
import Derived.Deep.Cut
import Derived.Deep.CutBlock
import Derived.Deep.LoopGhost
namespace Go.Proofs.Ytjnjaojafimfeaa.recordReads
open Go.RowKit

set_option maxHeartbeats 8000000 in
set_option maxRecDepth 1000000 in
theorem walk (a : Option Addr) (c : Nat) (body : List UInt8) (a' : Option Addr) (c' : Nat) (body' : List UInt8) (w : World) (hb : IsBytes w a c body) (hb' : IsBytes w a' c' body') (hbl : body.length ≤ 1048576) (hbl' : body'.length ≤ 1048576) :
    Calls Try.prog 6 #[.slice a body.length c, .slice a' body'.length c'] w fun e w' => e = .returned (.bool true) ∧ Below w.heap.size w w' := by
  obtain ⟨m, hm⟩ : ∃ m, m = body.length := ⟨_, rfl⟩
  obtain ⟨m', hm'⟩ : ∃ m', m' = body'.length := ⟨_, rfl⟩
  have hml : m ≤ 1048576 := by omega
  have HB := hide (And.intro hb hb')
  have HM := hide (And.intro hm (And.intro hm' (And.intro hbl hbl')))
  rw [← hm, ← hm']
  obtain ⟨R1, hR1⟩ : ∃ R, R = gR body := ⟨_, rfl⟩
  obtain ⟨R2, hR2⟩ : ∃ R, R = gR body' := ⟨_, rfl⟩
  obtain ⟨L1, hL1⟩ : ∃ L, L = gB body := ⟨_, rfl⟩
  obtain ⟨L2, hL2⟩ : ∃ L, L = gB body' := ⟨_, rfl⟩
  obtain ⟨n1, hn1⟩ : ∃ n, n = L1.length := ⟨_, rfl⟩
  obtain ⟨n2, hn2⟩ : ∃ n, n = L2.length := ⟨_, rfl⟩
  obtain ⟨E1, hE1⟩ : ∃ E, E = gE body := ⟨_, rfl⟩
  obtain ⟨E2, hE2⟩ : ∃ E, E = gE body' := ⟨_, rfl⟩
  have HLL : Hid (L1.length ≤ 2000000 ∧ L2.length ≤ 2000000) := by
    rw [hL1, hL2]
    have h1 := gB_len body
    have h2 := gB_len body'
    exact ⟨by omega, by omega⟩
  have HN := hide (And.intro hn1 hn2)
  have GB : Hid (∀ W, Below w.heap.size w W → Calls Try.prog 22 #[.slice a' m' c'] W fun e w' => ∃ C a2 c2, e = .returned (.tuple #[.agg C, .int .i64 E2]) ∧ RecC C R2 (.slice a2 n2 c2) ∧ Own w' W.heap.size (.slice a2 n2 c2) L2 ∧ Below W.heap.size W w') := by
    rw [hR2, hn2, hL2, hE2, hm']
    exact fun W hW => getC a' c' body' W (hb'.below hW)
  have QA : Hid (∀ W, Below w.heap.size w W → Calls Try.prog 23 #[.slice a m c] W fun e w' => ∃ C a2 c2, e = .returned (.tuple #[.agg C, .int .i64 E1]) ∧ RecC C R1 (.slice a2 n1 c2) ∧ Own w' W.heap.size (.slice a2 n1 c2) L1 ∧ Below W.heap.size W w') := by
    rw [hR1, hn1, hL1, hE1, hm]
    exact fun W hW => refGetC a c body W (hb.below hW) (by omega)
  have QB : Hid (∀ W, Below w.heap.size w W → Calls Try.prog 23 #[.slice a' m' c'] W fun e w' => ∃ C a2 c2, e = .returned (.tuple #[.agg C, .int .i64 E2]) ∧ RecC C R2 (.slice a2 n2 c2) ∧ Own w' W.heap.size (.slice a2 n2 c2) L2 ∧ Below W.heap.size W w') := by
    rw [hR2, hn2, hL2, hE2, hm']
    exact fun W hW => refGetC a' c' body' W (hb'.below hW) (by omega)
  have GA : Hid (∀ W ob, ByteRow W 5 ob (body ++ marks 4) → Calls Try.prog 22 #[.slice (some ⟨ob, 0, none⟩) m (m + 4)] W fun e w' => ∃ C a2 c2, e = .returned (.tuple #[.agg C, .int .i64 E1]) ∧ RecC C R1 (.slice a2 n1 c2) ∧ Own w' W.heap.size (.slice a2 n1 c2) L1 ∧ Below W.heap.size W w') := by
    rw [hR1, hn1, hL1, hE1, hm]
    exact fun W ob hW => getC _ _ body W (hW.is 0 _ _ (fun j x hj => by rw [Nat.zero_add, List.getElem?_append_left (List.getElem?_eq_some_iff.1 hj).1]; exact hj) (by omega) (by unfold maxLen; omega))
  have SA : Hid (∀ W C D a1 a2 c1 c2 B1 B2, RecC C R1 (.slice a1 n1 c1) → RecC D R1 (.slice a2 n1 c2) → Own W B1 (.slice a1 n1 c1) L1 → Own W B2 (.slice a2 n1 c2) L1 → Calls Try.prog 24 #[.agg C, .agg D] W fun e w' => e = .returned (.bool true) ∧ Below W.heap.size W w') := by
    rw [hn1]
    exact fun W C D a1 a2 c1 c2 B1 B2 h1 h2 o1 o2 => sameC C D R1 a1 a2 c1 c2 B1 B2 L1 W h1 h2 o1 o2
  have SB : Hid (∀ W C D a1 a2 c1 c2 B1 B2, RecC C R2 (.slice a1 n2 c1) → RecC D R2 (.slice a2 n2 c2) → Own W B1 (.slice a1 n2 c1) L2 → Own W B2 (.slice a2 n2 c2) L2 → Calls Try.prog 24 #[.agg C, .agg D] W fun e w' => e = .returned (.bool true) ∧ Below W.heap.size W w') := by
    rw [hn2]
    exact fun W C D a1 a2 c1 c2 B1 B2 h1 h2 o1 o2 => sameC C D R2 a1 a2 c1 c2 B1 B2 L2 W h1 h2 o1 o2
  have HST : Hid (∀ W ob, ByteRow W 5 ob (body ++ marks 4) → Below w.heap.size w W → Calls Try.prog 15 #[.slice (some ⟨ob, 0, none⟩) (m + 4) (m + 4), .slice a m c] W fun e w' => e = .returned (.bool true) ∧ Below W.heap.size W w') := by
    rw [hm]
    intro W ob hbr hW
    exact still_any _ _ a c body W (hbr.is 0 _ _ (fun j x hj => by rw [Nat.zero_add]; exact hj) (by simp [marks]) (by unfold maxLen; omega)) (hb.below hW)
  have HLT : Hid (∀ W, Below w.heap.size w W → Calls Try.prog 12 #[.slice a m c] W fun e w' => e = .returned (.slice (some ⟨W.heap.size, 0, none⟩) (m + 4) (m + 4)) ∧ Hid (ByteRow w' 5 W.heap.size (body ++ marks 4)) ∧ Below W.heap.size W w') := by
    rw [hm]
    exact fun W hW => lent_any a c body W (hb.below hW) (by omega)
  clear hb hb' hbl hbl' hm hm' hR1 hR2 hL1 hL2 hn1 hn2 hE1 hE2
  go_enter Try.func6, Try.ntmps6
  go_upto_region 2 with (go_at_call 9; refine (shown_any _).mono ?_; rintro e w2 ⟨rfl, B2⟩; have K2 := hide B2; clear B2)
  obtain ⟨Hb, hHb⟩ : ∃ Hb, Hb = w2.heap.size := ⟨_, rfl⟩
  obtain ⟨w3, hw3⟩ : ∃ w3, w3 = w2.alloc (.cells #[.slice none 0 0, .slice none 0 0, .int .i64 0] 43) := ⟨_, rfl⟩
  have H3 : Hid (Below w.heap.size w w3 ∧ Held (.int .i64 0) w3 w.heap.size (fun k => if k = Hb then .box else .user 0) Hb 0 [] ∧ w.heap.size ≤ Hb ∧ Hb < w3.heap.size) := by
    have B3 : Below w2.heap.size w2 w3 := by rw [hw3]; exact (Below.refl _ w2).alloc (Nat.le_refl _) _
    refine ⟨K2.out.trans (B3.mono K2.out.size), ?_, by rw [hHb]; exact K2.out.size, by rw [hHb, hw3]; simp⟩
    rw [hw3, hHb]
    exact Held.start w2 w.heap.size _ K2.out.size (by simp)
  have HW3 := hide (And.intro hHb hw3)
  clear hHb hw3
  go_upto_region 3 with fail
  rw [← HW3.out.1, ← HW3.out.2]
  clear HW3
  go_upto_region 4 with (go_at_call 12; refine (HLT.out _ H3.out.1).mono ?_; rintro e w4 ⟨rfl, h4r, B4⟩; have H4r := hide h4r.out; have H4 := hide B4; clear h4r B4)
  obtain ⟨ob, hob⟩ : ∃ ob, ob = w3.heap.size := ⟨_, rfl⟩
  rw [← hob] at H4r ⊢
  have S4 : Hid (St w w3 ob (body ++ marks 4) w4) := ⟨H3.out.1.trans (H4.out.mono H3.out.1.size), H4.out, H4r.out⟩
  have Z4 : Hid (w.heap.size ≤ Hb ∧ Hb < ob ∧ ob < w4.heap.size) := ⟨H3.out.2.2.1, by rw [hob]; exact H3.out.2.2.2, H4r.out.lt'⟩
  clear hob H4 H4r K2
  go_upto_region 5 with (first
    | (go_at_call 22; refine (GA.out _ ob S4.out.2.2).mono ?_; rintro e w5 ⟨C5, a5, c5, rfl, r5, o5, B5⟩; have O5 := hide (And.intro r5 (And.intro o5 B5)); clear r5 o5 B5)
    | (refine wpList_store_new rfl 34 (.tmp 8) (.tmp 38) rfl C5 (by rfl) (by rfl) 34 _ (by rw [O5.out.1.2.1]; exact info_rec) (by rw [O5.out.1.2.1]; rfl) O5.out.1.2.2 ?_
       obtain ⟨w6, hw6⟩ : ∃ w6, w6 = w5.alloc (.cells C5 34) := ⟨_, rfl⟩
       have X6 := hide (box_new (w := w5) O5.out.1)
       rw [← hw6] at X6 ⊢
       clear hw6))
  have S6 := hide ((S4.out.later O5.out.2.2).later X6.out.2)
  go_upto_region 6 with (first
    | (go_at_call 22; refine (GB.out _ S6.out.1).mono ?_; rintro e w7 ⟨C7, a7, c7, rfl, r7, o7, B7⟩; have O7 := hide (And.intro r7 (And.intro o7 B7)); clear r7 o7 B7)
    | (refine wpList_store_new rfl 34 (.tmp 10) (.tmp 43) rfl C7 (by rfl) (by rfl) 34 _ (by rw [O7.out.1.2.1]; exact info_rec) (by rw [O7.out.1.2.1]; rfl) O7.out.1.2.2 ?_
       obtain ⟨w8, hw8⟩ : ∃ w8, w8 = w7.alloc (.cells C7 34) := ⟨_, rfl⟩
       have X8 := hide (box_new (w := w7) O7.out.1)
       rw [← hw8] at X8 ⊢
       clear hw8))
  have S8 := hide ((S6.out.later O7.out.2.2).later X8.out.2)
  go_upto_region 7 with (first
    | (go_at_call 22; refine (GA.out _ ob S8.out.2.2).mono ?_; rintro e w9 ⟨C9, a9, c9, rfl, r9, o9, B9⟩; have O9 := hide (And.intro r9 (And.intro o9 B9)); clear r9 o9 B9)
    | (refine wpList_store_new rfl 34 (.tmp 12) (.tmp 51) rfl C9 (by rfl) (by rfl) 34 _ (by rw [O9.out.1.2.1]; exact info_rec) (by rw [O9.out.1.2.1]; rfl) O9.out.1.2.2 ?_
       obtain ⟨w10, hw10⟩ : ∃ w10, w10 = w9.alloc (.cells C9 34) := ⟨_, rfl⟩
       have X10 := hide (box_new (w := w9) O9.out.1)
       rw [← hw10] at X10 ⊢
       clear hw10))
  have S10 := hide ((S8.out.later O9.out.2.2).later X10.out.2)
  have Z10 : Hid (w4.heap.size ≤ w5.heap.size ∧ w5.heap.size < w6.heap.size ∧ w6.heap.size ≤ w7.heap.size ∧ w7.heap.size < w8.heap.size ∧ w8.heap.size ≤ w9.heap.size ∧ w9.heap.size < w10.heap.size) := ⟨O5.out.2.2.size, X6.out.1.lt, O7.out.2.2.size, X8.out.1.lt, O9.out.2.2.size, X10.out.1.lt⟩
  have B510 : Hid (Below w6.heap.size w6 w10 ∧ Below w8.heap.size w8 w10 ∧ Below w5.heap.size w5 w10 ∧ Below w7.heap.size w7 w10 ∧ Below w9.heap.size w9 w10) := by
    have b8 : Below w8.heap.size w8 w10 := O9.out.2.2.trans (X10.out.2.mono O9.out.2.2.size)
    have b6 : Below w6.heap.size w6 w10 := by
      have h1 := O7.out.2.2.trans (X8.out.2.mono O7.out.2.2.size)
      exact h1.trans (b8.mono h1.size)
    exact ⟨b6, b8, X6.out.2.trans (b6.mono X6.out.2.size), X8.out.2.trans (b8.mono X8.out.2.size), X10.out.2⟩
  have W10 : Hid (Wr w (fun k => if k = Hb then .box else .user 0) Hb [] w5.heap.size w7.heap.size w9.heap.size ob R1 R2 (.slice a5 n1 c5) (.slice a7 n2 c7) (.slice a9 n1 c9) (body ++ marks 4) 2000000 w10) := by
    refine ⟨H3.out.2.1.below S10.out.2.1, S10.out.1, X6.out.1.below B510.out.1, X8.out.1.below B510.out.2.1, X10.out.1, S10.out.2.2, fun k hk => ?_, by simp, fun j e he => by simp at he⟩
    have h1 := Z4.out
    have h2 := Z10.out
    exact if_neg (by omega)
  have F5 := hide ((Fr.ofOwn (B := w.heap.size) (Hb := Hb) O5.out.2.1 S4.out.1.size (by have := Z4.out; omega)).later B510.out.2.2.1)
  have F7 := hide ((Fr.ofOwn (B := w.heap.size) (Hb := Hb) O7.out.2.1 S6.out.1.size (by have := Z4.out; have := Z10.out; omega)).later B510.out.2.2.2.1)
  have F9 := hide ((Fr.ofOwn (B := w.heap.size) (Hb := Hb) O9.out.2.1 S8.out.1.size (by have := Z4.out; have := Z10.out; omega)).later B510.out.2.2.2.2)
  have RC := hide (And.intro O5.out.1 (And.intro O7.out.1 O9.out.1))
  clear O5 O7 O9 X6 X8 X10 S4 S6 S8 B510 H3
  obtain ⟨xb, hxb⟩ : ∃ xb, xb = w5.heap.size := ⟨_, rfl⟩
  obtain ⟨yb, hyb⟩ : ∃ yb, yb = w7.heap.size := ⟨_, rfl⟩
  obtain ⟨zb, hzb⟩ : ∃ zb, zb = w9.heap.size := ⟨_, rfl⟩
  rw [← hxb, ← hyb, ← hzb] at W10 ⊢
  have HZB := hide (And.intro hxb (And.intro hyb hzb))
  clear hxb hyb hzb
  go_upto_region 8 with (first
    | (go_at_call 23; refine (QA.out _ W10.out.below).mono ?_; rintro e w11 ⟨C11, a11, c11, rfl, r11, o11, B11⟩; have O11 := hide (And.intro r11 (And.intro o11 B11)); clear r11 o11 B11)
    | (refine wpList_store_new rfl 34 (.tmp 14) (.tmp 56) rfl C11 (by rfl) (by rfl) 34 _ (by rw [O11.out.1.2.1]; exact info_rec) (by rw [O11.out.1.2.1]; rfl) O11.out.1.2.2 ?_
       obtain ⟨w12, hw12⟩ : ∃ w12, w12 = w11.alloc (.cells C11 34) := ⟨_, rfl⟩
       have X12 := hide (box_new (w := w11) O11.out.1)
       rw [← hw12] at X12 ⊢
       clear hw12))
  have W12 := hide ((W10.out.later O11.out.2.2).later X12.out.2)
  have BB12 := hide (O11.out.2.2.trans (X12.out.2.mono O11.out.2.2.size))
  go_upto_region 9 with (first
    | (go_at_call 23; refine (QB.out _ W12.out.below).mono ?_; rintro e w13 ⟨C13, a13, c13, rfl, r13, o13, B13⟩; have O13 := hide (And.intro r13 (And.intro o13 B13)); clear r13 o13 B13)
    | (refine wpList_store_new rfl 34 (.tmp 16) (.tmp 61) rfl C13 (by rfl) (by rfl) 34 _ (by rw [O13.out.1.2.1]; exact info_rec) (by rw [O13.out.1.2.1]; rfl) O13.out.1.2.2 ?_
       obtain ⟨w14, hw14⟩ : ∃ w14, w14 = w13.alloc (.cells C13 34) := ⟨_, rfl⟩
       have X14 := hide (box_new (w := w13) O13.out.1)
       rw [← hw14] at X14 ⊢
       clear hw14))
  have W14 := hide ((W12.out.later O13.out.2.2).later X14.out.2)
  have BB14 := hide (O13.out.2.2.trans (X14.out.2.mono O13.out.2.2.size))
  go_upto_region 10 with (go_at_call 15; refine (HST.out _ ob W14.out.hrow W14.out.below).mono ?_; rintro e w15 ⟨rfl, B15⟩; have W15 := hide (W14.out.later B15); have O15 := hide B15; clear B15)
  have B1115 : Hid (Below w12.heap.size w12 w15 ∧ Below w10.heap.size w10 w15 ∧ Below w11.heap.size w11 w15 ∧ Below w13.heap.size w13 w15) := by
    have b12 : Below w12.heap.size w12 w15 := BB14.out.trans (O15.out.mono BB14.out.size)
    exact ⟨b12, BB12.out.trans (b12.mono BB12.out.size), X12.out.2.trans (b12.mono X12.out.2.size), (X14.out.2.trans (O15.out.mono X14.out.2.size))⟩
  have Y15 : Hid (RecAt w15 w11.heap.size R1 (.slice a11 n1 c11) ∧ RecAt w15 w13.heap.size R2 (.slice a13 n2 c13) ∧ Own w15 w10.heap.size (.slice a11 n1 c11) L1 ∧ Own w15 w12.heap.size (.slice a13 n2 c13) L2) := ⟨X12.out.1.below B1115.out.1, X14.out.1.below O15.out, O11.out.2.1.below B1115.out.2.2.1, O13.out.2.1.below B1115.out.2.2.2⟩
  have G5 := hide (F5.out.later B1115.out.2.1)
  have G7 := hide (F7.out.later B1115.out.2.1)
  have G9 := hide (F9.out.later B1115.out.2.1)
  have RD := hide (And.intro O11.out.1 O13.out.1)
  clear O11 O13 X12 X14 BB12 BB14 W10 W12 W14 F5 F7 F9 B1115 O15
  go_upto_region 11 with (first
    | (refine wpList_load_row rfl 34 (.tmp 8) rfl xb rfl 34 C5 (0, 0) _ (by rw [RC.out.1.1]; exact W15.out.h2) under_rec rfl (by rw [RC.out.1.2.1]; exact info_rec) ?_)
    | (refine wpList_load_row rfl 34 (.tmp 14) rfl w11.heap.size rfl 34 C11 (0, 0) _ (by rw [RD.out.1.1]; exact Y15.out.1) under_rec rfl (by rw [RD.out.1.2.1]; exact info_rec) ?_)
    | (go_at_call 24; refine (SA.out _ C5 C11 a5 a11 c5 c11 _ _ RC.out.1 RD.out.1 G5.out.own Y15.out.2.2.1).mono ?_; rintro e w16 ⟨rfl, B16⟩; have W16 := hide (W15.out.later B16); have O16 := hide B16; clear B16))
  have Y16 : Hid (RecAt w16 w11.heap.size R1 (.slice a11 n1 c11) ∧ RecAt w16 w13.heap.size R2 (.slice a13 n2 c13) ∧ Own w16 w10.heap.size (.slice a11 n1 c11) L1 ∧ Own w16 w12.heap.size (.slice a13 n2 c13) L2) := ⟨Y15.out.1.below O16.out, Y15.out.2.1.below O16.out, Y15.out.2.2.1.below O16.out, Y15.out.2.2.2.below O16.out⟩
  have K5 := hide (G5.out.later O16.out)
  have K7 := hide (G7.out.later O16.out)
  have K9 := hide (G9.out.later O16.out)
  clear O16 Y15 W15 G5 G7 G9
  go_upto_region 12 with (first
    | (refine wpList_load_row rfl 34 (.tmp 10) rfl yb rfl 34 C7 (0, 0) _ (by rw [RC.out.2.1.1]; exact W16.out.h3) under_rec rfl (by rw [RC.out.2.1.2.1]; exact info_rec) ?_)
    | (refine wpList_load_row rfl 34 (.tmp 16) rfl w13.heap.size rfl 34 C13 (0, 0) _ (by rw [RD.out.2.1]; exact Y16.out.2.1) under_rec rfl (by rw [RD.out.2.2.1]; exact info_rec) ?_)
    | (go_at_call 24; refine (SB.out _ C7 C13 a7 a13 c7 c13 _ _ RC.out.2.1 RD.out.2 K7.out.own Y16.out.2.2.2).mono ?_; rintro e w17 ⟨rfl, B17⟩; have W17 := hide (W16.out.later B17); have O17 := hide B17; clear B17))
  have Y17 : Hid (RecAt w17 w11.heap.size R1 (.slice a11 n1 c11) ∧ Own w17 w10.heap.size (.slice a11 n1 c11) L1) := ⟨Y16.out.1.below O17.out, Y16.out.2.2.1.below O17.out⟩
  have J5 := hide (K5.out.later O17.out)
  have J7 := hide (K7.out.later O17.out)
  have J9 := hide (K9.out.later O17.out)
  clear O17 Y16 W16 K5 K7 K9
  go_upto_region 13 with (first
    | (refine wpList_load_row rfl 34 (.tmp 12) rfl zb rfl 34 C9 (0, 0) _ (by rw [RC.out.2.2.1]; exact W17.out.hi) under_rec rfl (by rw [RC.out.2.2.2.1]; exact info_rec) ?_)
    | (refine wpList_load_row rfl 34 (.tmp 14) rfl w11.heap.size rfl 34 C11 (0, 0) _ (by rw [RD.out.1.1]; exact Y17.out.1) under_rec rfl (by rw [RD.out.1.2.1]; exact info_rec) ?_)
    | (go_at_call 24; refine (SA.out _ C9 C11 a9 a11 c9 c11 _ _ RC.out.2.2 RD.out.1 J9.out.own Y17.out.2).mono ?_; rintro e w18 ⟨rfl, B18⟩; have W18 := hide (W17.out.later B18); have O18 := hide B18; clear B18))
  have F5 := hide (J5.out.later O18.out)
  have F7 := hide (J7.out.later O18.out)
  have F9 := hide (J9.out.later O18.out)
  clear O18 Y17 W17 J5 J7 J9
  have x18 : w18.cell? ⟨xb, 18, none⟩ = some (.slice a5 n1 c5) := W18.out.h2.cell 18
  go_upto_region 15 with fail
  have HSZ : Hid ((w.heap.size ≤ Hb ∧ Hb < ob ∧ ob < w4.heap.size) ∧ (w4.heap.size ≤ w5.heap.size ∧ w5.heap.size < w6.heap.size ∧ w6.heap.size ≤ w7.heap.size ∧ w7.heap.size < w8.heap.size ∧ w8.heap.size ≤ w9.heap.size ∧ w9.heap.size < w10.heap.size) ∧ xb = w5.heap.size ∧ yb = w7.heap.size ∧ zb = w9.heap.size) := ⟨Z4.out, Z10.out, HZB.out⟩
  clear Z4 Z10 HZB RC RD
  go_upto_region 16 with (go_at_call 20; refine (W18.out.keep2 a5 c5 n1 L1 HN.out.1 F5.out HLL.out.1 (by omega) (by simp) (fun k h1 h2 => by have := HSZ.out; omega)).mono ?_; rintro e w19 ⟨rfl, lab1, es1, x1, x2, x3, x4⟩; have W19 := hide x1; have E19 := hide x2; have G7 := hide (F7.out.kept x4 x3 (fun k hk => Or.inl (by have h1 := (F5.out.rng k hk).2; have := HSZ.out; omega))); have G9 := hide (F9.out.kept x4 x3 (fun k hk => Or.inl (by have h1 := (F5.out.rng k hk).2; have := HSZ.out; omega))); clear x1 x2 x3 x4)
  clear x18 W18 F7 F9
  have x18 : w19.cell? ⟨yb, 18, none⟩ = some (.slice a7 n2 c7) := W19.out.h3.cell 18
  go_upto_region 17 with (go_at_call 20; refine (W19.out.keep2 a7 c7 n2 L2 HN.out.2 G7.out HLL.out.2 (by omega) (by rw [E19.out]; simp) (fun k h1 h2 => by have := HSZ.out; omega)).mono ?_; rintro e w20 ⟨rfl, lab2, es2, x1, x2, x3, x4⟩; have W20 := hide x1; have E20 := hide (x2.trans (by rw [E19.out])); have F9 := hide (G9.out.kept x4 x3 (fun k hk => Or.inl (by have h1 := (G7.out.rng k hk).2; have := HSZ.out; omega))); clear x1 x2 x3 x4)
  clear x18 W19 G9
  have x18 : w20.cell? ⟨zb, 18, none⟩ = some (.slice a9 n1 c9) := W20.out.hi.cell 18
  go_upto_region 18 with (go_at_call 20; refine (W20.out.keep2 a9 c9 n1 L1 HN.out.1 F9.out HLL.out.1 (by omega) (by rw [E20.out]; simp) (fun k h1 h2 => by have := HSZ.out; omega)).mono ?_; rintro e w21 ⟨rfl, lab3, es3, x1, x2, x3, x4⟩; have W21 := hide x1; have E21 := hide (x2.trans (by rw [E20.out])); clear x1 x2 x3 x4)
  clear x18 W20
  obtain ⟨row, hrow⟩ : ∃ row, row = body ++ marks 4 := ⟨_, rfl⟩
  have hrl : row.length = m + 4 := by rw [hrow, HM.out.1]; simp [marks]
  have HR0 := hide (And.intro hrow hrl)
  rw [← hrow] at W21
  clear hrow hrl
  have HNE : Hid (xb ≠ ob ∧ yb ≠ ob ∧ zb ≠ ob ∧ w.heap.size ≤ ob) := by
    have := HSZ.out
    refine ⟨?_, ?_, ?_, ?_⟩ <;> omega
  go_wp2_with fail
  go_loopg [22] (m + 4) (fun gk i wx => ∃ k : Nat, i = .int .i64 (k : Int) ∧ k ≤ m + 4 ∧ m + 4 - k ≤ gk ∧ Hid (Wr w lab3 Hb es3 xb yb zb ob R1 R2 (.slice a5 n1 c5) (.slice a7 n2 c7) (.slice a9 n1 c9) (turnedOne row k) 2000000 wx))
  case atStart => exact ⟨0, rfl, by omega, by omega, by rw [turnedOne_zero]; exact W21⟩
  case round =>
    obtain ⟨k, rfl, hk, hgk, WX⟩ := hrel
    by_cases hlt : k < m + 4
    · obtain ⟨x, hx⟩ : ∃ x, row[k]? = some x := ⟨_, List.getElem?_eq_getElem (by rw [HR0.out.2]; exact hlt)⟩
      have hc := WX.out.hrow.cell k x (turnedOne_at row k x hx)
      have hf := WX.out.hrow.frozen k
      obtain ⟨y, hy⟩ : ∃ y, y = x ^^^ 1 := ⟨_, rfl⟩
      have e1 : bits .xor .u8 (x.toNat : Int) 1 = (y.toNat : Int) := by rw [hy]; exact xor1 x
      have WY := hide (WX.out.set HNE.out k y)
      rw [hy, turnedOne_set row k x hx, ← hy] at WY
      clear hy hx WX
      have i2 : (k : Int) < ((m + 4 : Nat) : Int) := by omega
      go_wp2_with fail
      go_roundg (m + 3 - k)
      case measure => omega
      case rel => exact ⟨k + 1, by go_num, by omega, by omega, WY⟩
    · obtain rfl : k = m + 4 := by omega
      clear hgk hk hlt
      obtain ⟨row2, hrow2⟩ : ∃ row2, row2 = turnedOne row (m + 4) := ⟨_, rfl⟩
      rw [← hrow2] at WX
      have hr2 : row2.length = m + 4 := by rw [hrow2, turnedOne_len, HR0.out.2]
      obtain ⟨bd, hbd⟩ : ∃ bd, bd = row2.take m := ⟨_, rfl⟩
      have hbl2 : bd.length = m := by rw [hbd, List.length_take]; omega
      have HBD : Hid (bd.length = m ∧ (∀ (j : Nat) x, bd[j]? = some x → row2[0 + j]? = some x)) := ⟨hbl2, fun j x hj => by
        rw [hbd, List.getElem?_take] at hj
        split at hj
        · rw [Nat.zero_add]; exact hj
        · cases hj⟩
      clear hrow2 hr2 hbd hbl2
      obtain ⟨lab4, hlab4⟩ : ∃ lab4 : Nat → Tag, lab4 = fun k => if k < wr.heap.size then lab3 k else .user 0 := ⟨_, rfl⟩
      have WF := hide WX.out.fresh
      rw [← hlab4] at WF
      obtain ⟨nb, hnb⟩ : ∃ nb, nb = wr.heap.size := ⟨_, rfl⟩
      have HLAB : Hid (∀ k, nb ≤ k → lab4 k = .user 0) := fun k hk => by rw [hlab4]; exact if_neg (by omega)
      have HLO : Hid ((xb < nb ∧ yb < nb ∧ zb < nb ∧ ob < nb) ∧ w.heap.size ≤ nb) := by
        rw [hnb]
        exact ⟨⟨WX.out.h2.lt, WX.out.h3.lt, WX.out.hi.lt, WX.out.hrow.lt'⟩, WX.out.below.size⟩
      clear hlab4
      obtain ⟨wt, hwt⟩ : ∃ wt, wt = wr.alloc (.cells #[] 5) := ⟨_, rfl⟩
      have BT : Hid (Below wr.heap.size wr wt ∧ nb ≤ wt.heap.size) := ⟨by rw [hwt]; exact (Below.refl _ wr).alloc (Nat.le_refl _) _, by rw [hwt, hnb]; simp⟩
      have OT : Hid (Own wt nb (.slice (some ⟨nb, 0, none⟩) 0 0) []) := by
        rw [hwt, hnb]
        exact ⟨rfl, .inr ⟨wr.heap.size, 0, #[], rfl, Nat.le_refl _, heap_alloc_last _ _, Nat.le_refl _, by unfold maxLen; omega, rfl, rfl⟩⟩
      have WT := hide (WF.out.later BT.out.1)
      have HIB : Hid (IsBytes wt (some ⟨ob, 0, none⟩) (m + 4) bd) := WT.out.hrow.is 0 (m + 4) bd HBD.out.2 (by rw [HBD.out.1]; omega) (by unfold maxLen; omega)
      have HNB := hide hnb
      have HWT := hide hwt
      clear hnb hwt WX
      go_upto_region 23 with fail
      rw [← HWT.out, ← HNB.out]
      have j1 : (m : Int) ≤ ((m + 4 : Nat) : Int) := by omega
      go_upto_region 24 with (at_builtin; refine wpList_append8 rfl (.tmp 138) (.tmp 142) rfl nb (.slice (some ⟨nb, 0, none⟩) 0 0) [] (by rfl) OT.out (some ⟨ob, 0, none⟩) (m + 4) bd (by rw [HBD.out.1]; rfl) HIB.out (by rw [HBD.out.1]; simp; omega) BT.out.2 ?_; intro v25 w25 o25 g25 p25 l25 n25; have H25 := hide (And.intro o25 g25); clear o25 g25 p25 l25 n25)
      have e25 : (([] : List UInt8) ++ bd).length = m := HBD.out.1
      obtain ⟨a25, c25, hv25, hi25⟩ := H25.out.1.shape
      rw [e25] at hv25
      subst hv25
      have T25 : Hid (IsBytes w25 a25 c25 bd) := hi25
      have B25 : Hid (Below wr.heap.size wr w25) := by
        have h1 := BT.out.1
        rw [← HNB.out] at h1 ⊢
        exact h1.grown H25.out.2 BT.out.2 (fun j hj => (World.ownsRow.lt OT.out j hj).1)
      have W25 := hide (WF.out.later B25.out)
      have Z25 : Hid (nb ≤ w25.heap.size) := by have := B25.out.size; rw [← HNB.out] at this; exact this
      clear e25 hi25 H25 B25 WT WF HIB OT BT HWT
      obtain ⟨R3, hR3⟩ : ∃ R, R = gR bd := ⟨_, rfl⟩
      obtain ⟨L3, hL3⟩ : ∃ L, L = gB bd := ⟨_, rfl⟩
      obtain ⟨n3, hn3⟩ : ∃ n, n = L3.length := ⟨_, rfl⟩
      obtain ⟨E3, hE3⟩ : ∃ E, E = gE bd := ⟨_, rfl⟩
      have GA3 : Hid (∀ W, ByteRow W 5 ob row2 → Calls Try.prog 22 #[.slice (some ⟨ob, 0, none⟩) m (m + 4)] W fun e w' => ∃ C a2 c2, e = .returned (.tuple #[.agg C, .int .i64 E3]) ∧ RecC C R3 (.slice a2 n3 c2) ∧ Own w' W.heap.size (.slice a2 n3 c2) L3 ∧ Below W.heap.size W w') := by
        rw [hR3, hn3, hL3, hE3, ← HBD.out.1]
        exact fun W hW => getC _ _ bd W (hW.is 0 _ _ HBD.out.2 (by omega) (by rw [HBD.out.1]; unfold maxLen; omega))
      have QA3 : Hid (∀ W, IsBytes W a25 c25 bd → Calls Try.prog 23 #[.slice a25 m c25] W fun e w' => ∃ C a2 c2, e = .returned (.tuple #[.agg C, .int .i64 E3]) ∧ RecC C R3 (.slice a2 n3 c2) ∧ Own w' W.heap.size (.slice a2 n3 c2) L3 ∧ Below W.heap.size W w') := by
        rw [hR3, hn3, hL3, hE3, ← HBD.out.1]
        exact fun W hW => refGetC a25 c25 bd W hW (by rw [HBD.out.1]; omega)
      have SA3 : Hid (∀ W C D a1 a2 c1 c2 B1 B2, RecC C R3 (.slice a1 n3 c1) → RecC D R3 (.slice a2 n3 c2) → Own W B1 (.slice a1 n3 c1) L3 → Own W B2 (.slice a2 n3 c2) L3 → Calls Try.prog 24 #[.agg C, .agg D] W fun e w' => e = .returned (.bool true) ∧ Below W.heap.size W w') := by
        rw [hn3]
        exact fun W C D a1 a2 c1 c2 B1 B2 h1 h2 o1 o2 => sameC C D R3 a1 a2 c1 c2 B1 B2 L3 W h1 h2 o1 o2
      have HL3 : Hid (L3.length ≤ 2000000 ∧ n3 = L3.length) := ⟨by rw [hL3]; have h1 := gB_len bd; have h2 := HBD.out.1; omega, hn3⟩
      clear hR3 hL3 hn3 hE3
      go_upto_region 25 with (first
        | (go_at_call 22; refine (GA3.out _ W25.out.hrow).mono ?_; rintro e w26 ⟨C26, a26, c26, rfl, r26, o26, B26⟩; have O26 := hide (And.intro r26 (And.intro o26 B26)); clear r26 o26 B26)
        | (refine wpList_store_new rfl 34 (.tmp 24) (.tmp 150) rfl C26 (by rfl) (by rfl) 34 _ (by rw [O26.out.1.2.1]; exact info_rec) (by rw [O26.out.1.2.1]; rfl) O26.out.1.2.2 ?_
           obtain ⟨w27, hw27⟩ : ∃ w27, w27 = w26.alloc (.cells C26 34) := ⟨_, rfl⟩
           have X27 := hide (box_new (w := w26) O26.out.1)
           rw [← hw27] at X27 ⊢
           clear hw27))
      have W27 := hide ((W25.out.later O26.out.2.2).later X27.out.2)
      have BB27 := hide (O26.out.2.2.trans (X27.out.2.mono O26.out.2.2.size))
      go_upto_region 26 with (first
        | (go_at_call 23; refine (QA3.out _ (T25.out.below BB27.out)).mono ?_; rintro e w28 ⟨C28, a28, c28, rfl, r28, o28, B28⟩; have O28 := hide (And.intro r28 (And.intro o28 B28)); clear r28 o28 B28)
        | (refine wpList_store_new rfl 34 (.tmp 25) (.tmp 155) rfl C28 (by rfl) (by rfl) 34 _ (by rw [O28.out.1.2.1]; exact info_rec) (by rw [O28.out.1.2.1]; rfl) O28.out.1.2.2 ?_
           obtain ⟨w29, hw29⟩ : ∃ w29, w29 = w28.alloc (.cells C28 34) := ⟨_, rfl⟩
           have X29 := hide (box_new (w := w28) O28.out.1)
           rw [← hw29] at X29 ⊢
           clear hw29))
      have W29 := hide ((W27.out.later O28.out.2.2).later X29.out.2)
      have BB29 := hide (O28.out.2.2.trans (X29.out.2.mono O28.out.2.2.size))
      have Y29 : Hid (RecAt w29 w26.heap.size R3 (.slice a26 n3 c26) ∧ RecAt w29 w28.heap.size R3 (.slice a28 n3 c28) ∧ Own w29 w27.heap.size (.slice a28 n3 c28) L3) := ⟨X27.out.1.below BB29.out, X29.out.1, O28.out.2.1.below X29.out.2⟩
      have F29 := hide ((Fr.new (B := w.heap.size) (lab := lab4) O26.out.2.1 (by have h1 := HLO.out; have h2 := Z25.out; omega) (fun k hk => HLAB.out k (by have h2 := Z25.out; omega))).later (X27.out.2.trans (BB29.out.mono X27.out.2.size)))
      have RC := hide (And.intro O26.out.1 O28.out.1)
      clear O26 O28 X27 X29 BB27 BB29 W25 W27
      go_upto_region 27 with (first
        | (refine wpList_load_row rfl 34 (.tmp 24) rfl w26.heap.size rfl 34 C26 (0, 0) _ (by rw [RC.out.1.1]; exact Y29.out.1) under_rec rfl (by rw [RC.out.1.2.1]; exact info_rec) ?_)
        | (refine wpList_load_row rfl 34 (.tmp 25) rfl w28.heap.size rfl 34 C28 (0, 0) _ (by rw [RC.out.2.1]; exact Y29.out.2.1) under_rec rfl (by rw [RC.out.2.2.1]; exact info_rec) ?_)
        | (go_at_call 24; refine (SA3.out _ C26 C28 a26 a28 c26 c28 _ _ RC.out.1 RC.out.2 F29.out.own Y29.out.2.2).mono ?_; rintro e w30 ⟨rfl, B30⟩; have W30 := hide (W29.out.later B30); have F30 := hide (F29.out.later B30); have Y30 := hide (Y29.out.1.below B30); clear B30))
      have x18 : w30.cell? ⟨w26.heap.size, 18, none⟩ = some (.slice a26 n3 c26) := Y30.out.cell 18
      go_upto_region 29 with fail
      go_upto_region 30 with (go_at_call 20; refine (W30.out.keep2 a26 c26 n3 L3 HL3.out.2 F30.out HL3.out.1 (by omega) (by rw [E21.out]; simp) (fun k h1 h2 => by have := HLO.out; have := Z25.out; omega)).mono ?_; rintro e w31 ⟨rfl, lab5, es5, x1, x2, x3, x4⟩; have W31 := hide x1; clear x1 x2 x3 x4)
      go_wp2_with (go_at_call 21; refine (W31.out.spoil (by omega)).mono ?_; rintro e w32 ⟨rfl, x1⟩; have B32 := hide x1; clear x1)
      go_ret
      exact ⟨rfl, B32.out⟩
end Go.Proofs.Ytjnjaojafimfeaa.recordReads
