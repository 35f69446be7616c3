/-
  The walk of RecordWrites.
-/
import Derived.Test.YtbgldkjjdmacaaaWritesKit3
import Derived.Test.YtbgldkjjdmacaaaShown
import Derived.Deep.Cut
import Derived.Deep.CutBlock
import Derived.Deep.RegionHeld3
import Derived.Deep.LoopGhost
namespace Go.Proofs.Ytbgldkjjdmacaaa.recordWrites
open Go.RowKit

set_option maxHeartbeats 8000000 in
set_option maxRecDepth 1000000 in
theorem walk (r : Rec) (a : Option Addr) (c : Nat) (body : List UInt8) (s : Rec) (a' : Option Addr) (c' : Nat) (body' : List UInt8) (w : World) (hb : IsBytes w a c body ∧ r.tube.length ≤ maxLen ∧ -9223372036854775808 ≤ r.kind ∧ r.kind ≤ 9223372036854775807) (hb' : IsBytes w a' c' body' ∧ s.tube.length ≤ maxLen ∧ -9223372036854775808 ≤ s.kind ∧ s.kind ≤ 9223372036854775807) (hbl : r.tube.length + body.length ≤ 1048576) (hbl' : s.tube.length + body'.length ≤ 1048576) :
    Calls Try.prog 5 #[.agg (recA r (.slice a body.length c)), .agg (recA s (.slice a' body'.length c'))] w fun e w' => e = .returned (.bool true) ∧ Below w.heap.size w w' := by
  obtain ⟨m, hm⟩ : ∃ m, m = body.length := ⟨_, rfl⟩
  obtain ⟨m', hm'⟩ : ∃ m', m' = body'.length := ⟨_, rfl⟩
  obtain ⟨C, hC⟩ : ∃ C, C = recA r (.slice a m c) := ⟨_, rfl⟩
  obtain ⟨C', hC'⟩ : ∃ C', C' = recA s (.slice a' m' c') := ⟨_, rfl⟩
  obtain ⟨w1, hw1⟩ : ∃ w1, w1 = (w.alloc (.cells C 34)).alloc (.cells C' 34) := ⟨_, rfl⟩
  obtain ⟨b2, hb2⟩ : ∃ b2, b2 = w.heap.size := ⟨_, rfl⟩
  obtain ⟨b3, hb3⟩ : ∃ b3, b3 = w.heap.size + 1 := ⟨_, rfl⟩
  have hml : m ≤ 1048576 := by omega
  have R1 : Hid (RecAt w1 b2 r (.slice a m c) ∧ RecAt w1 b3 s (.slice a' m' c') ∧ Below w.heap.size w w1) := by
    refine ⟨?_, ?_, by rw [hw1]; exact ((Below.refl _ w).alloc (Nat.le_refl _) _).alloc (by simp) _⟩
    · unfold RecAt
      rw [hw1, hC, hb2, heap_alloc_old _ _ (by simp)]
      exact heap_alloc_last _ _
    · unfold RecAt
      have := heap_alloc_last (w.alloc (.cells C 34)) (.cells C' 34)
      rw [World.size_alloc, ← hw1, hC'] at this
      rw [hb3]
      exact this
  have HB := hide (And.intro hb.1 hb'.1)
  have HC := hide (And.intro hC (show C.size = 19 by rw [hC]; rfl))
  have HC' := hide (And.intro hC' (show C'.size = 19 by rw [hC']; rfl))
  have HM := hide (And.intro hm (And.intro hm' (And.intro hbl hbl')))
  have HW1 := hide (And.intro hw1 (And.intro hb2 hb3))
  rw [← hm, ← hm', ← hC, ← hC']
  have S18 : Hid (∀ W, Below w1.heap.size w1 W → W.cell? ⟨b2, 18, none⟩ = some (.slice a m c)) := fun W hW => (R1.out.1.below hW).cell 18
  have h1c : Hid (C.all (·.oneCell') = true) := by show _ = _; rw [hC]; exact rec_one _ _ _ _
  clear hC hC' hw1 hb hb' hbl hbl' hm hm' hb2 hb3
  go_enter Try.func5, Try.ntmps5
  go_upto_region 1 with fail
  rw [← HW1.out.2.2, ← HW1.out.2.1, ← HW1.out.1]
  go_wp2_with fail
  refine (shown_any _).mono ?_
  rintro e w2 ⟨rfl, B2⟩
  obtain ⟨Hb, hHb⟩ : ∃ Hb, Hb = w2.heap.size := ⟨_, rfl⟩
  obtain ⟨w3, hw3⟩ : ∃ w3, w3 = w2.alloc (.cells #[.slice none 0 0, .slice none 0 0, .int .i64 0] 43) := ⟨_, rfl⟩
  have B3 : Below w2.heap.size w2 w3 := by rw [hw3]; exact (Below.refl _ w2).alloc (Nat.le_refl _) _
  have B13 : Below w1.heap.size w1 w3 := B2.trans (B3.mono B2.size)
  have x18 := S18.out w3 B13
  have H3 : Hid (Below w1.heap.size w1 w3 ∧ Held (.int .i64 0) w3 w.heap.size (fun k => if k = Hb then .box else .user 0) Hb 0 [] ∧ w1.heap.size ≤ Hb ∧ Hb < w3.heap.size) := by
    refine ⟨B13, ?_, by rw [hHb]; exact B2.size, by rw [hHb, hw3]; simp⟩
    rw [hw3, hHb]
    exact Held.start w2 w.heap.size _ (Nat.le_trans R1.out.2.2.size B2.size) (by simp)
  have HL : Hid (Calls Try.prog 12 #[.slice a m c] w3 fun e w' => e = .returned (.slice (some ⟨w3.heap.size, 0, none⟩) (m + 4) (m + 4)) ∧ Hid (ByteRow w' 5 w3.heap.size (body ++ marks 4)) ∧ Below w3.heap.size w3 w') := by
    have := lent_any a c body w3 ((HB.out.1.below R1.out.2.2).below B13) (by have := HM.out; omega)
    rw [← HM.out.1] at this
    exact this
  have HW3 := hide (And.intro hHb hw3)
  clear hHb hw3 B2 B3 B13
  go_upto_region 3 with fail
  rw [← HW3.out.1, ← HW3.out.2]
  go_wp2_with fail
  refine HL.out.mono ?_
  rintro e w4 ⟨rfl, H4r, B4⟩
  obtain ⟨ob, hob⟩ : ∃ ob, ob = w3.heap.size := ⟨_, rfl⟩
  rw [← hob] at H4r ⊢
  have B14 : Below w1.heap.size w1 w4 := H3.out.1.trans (B4.mono H3.out.1.size)
  obtain ⟨C2, hC2⟩ : ∃ C2, C2 = recA r (.slice (some ⟨ob, 0, none⟩) m (m + 4)) := ⟨_, rfl⟩
  obtain ⟨ib, hib⟩ : ∃ ib, ib = w4.heap.size := ⟨_, rfl⟩
  obtain ⟨w5, hw5⟩ : ∃ w5, w5 = w4.alloc (.cells C 34) := ⟨_, rfl⟩
  have hh5 : w5.heap[ib]? = some (.cells C 34 (0, 0)) := by rw [hw5, hib]; exact heap_alloc_last w4 _
  have i18 : w5.cell? ⟨ib, 18, none⟩ = some (.slice a m c) := by
    rw [cell_of_row _ _ 18 C _ (0, 0) hh5, HC.out.1]
    rfl
  have if18 : w5.frozen? ⟨ib, 18, none⟩ = false := by simp [World.frozen?, hh5]
  have B45 : Below w4.heap.size w4 w5 := by rw [hw5]; exact (Below.refl _ w4).alloc (Nat.le_refl _) _
  have B15 : Below w1.heap.size w1 w5 := B14.trans (B45.mono B14.size)
  have y18 := S18.out w5 B15
  obtain ⟨w6, hw6⟩ : ∃ w6, w6 = w5.setCell ⟨ib, 18, none⟩ (.slice (some ⟨ob, 0, none⟩) m (m + 4)) := ⟨_, rfl⟩
  have W6 : Hid (Wr w (fun k => if k = Hb then .box else .user 0) Hb [] b2 b3 ib ob r s (.slice a m c) (.slice a' m' c') (.slice (some ⟨ob, 0, none⟩) m (m + 4)) (body ++ marks 4) 2000000 w6) := by
    obtain ⟨s1, s2⟩ := set_cells hh5 18 (.slice (some ⟨ob, 0, none⟩) m (m + 4))
    rw [← hw6] at s1 s2
    have K6 : Kept (fun k => k = ib) w5 w6 := Kept.ofGrown s2 (fun g e => by cases e; rfl)
    have hl1 := R1.out.1.lt
    have hl2 := R1.out.2.1.lt
    have hs4 := B14.size
    have hs34 := B4.size
    have h3o := H3.out
    have hws := R1.out.2.2.size
    have hs15 := B15.size
    have hs45 := B45.size
    have hbb := HW1.out.2
    refine ⟨?_, (R1.out.2.2.trans (B15.mono hws)).trans (K6.below (Nat.le_trans hws B15.size) (fun k hk e => by omega)), ?_, ?_, ?_, ?_, fun k hk => ?_, by simp, fun j e he => by simp at he⟩
    · refine ((h3o.2.1.below B4).below B45).kept K6 (fun k hk e => ?_)
      exact hk 0 (if_neg (by omega))
    · exact (K6.block b2 (by omega) (by omega)).trans (R1.out.1.below B15)
    · exact (K6.block b3 (by omega) (by omega)).trans (R1.out.2.1.below B15)
    · unfold RecAt
      rw [s1, HC.out.1]
      rfl
    · have h4 := H4r.out
      have hl4 := h4.lt'
      exact (h4.blk (B45.block ob hl4)).blk (K6.block ob (by omega) (by omega))
    · exact if_neg (by have := H4r.out.lt'; omega)
  have HNE : Hid (b2 ≠ ob ∧ b3 ≠ ob ∧ ib ≠ ob ∧ w.heap.size ≤ ob) := by
    have hl1 := R1.out.1.lt
    have hl2 := R1.out.2.1.lt
    have hs3 := H3.out.1.size
    have hws := R1.out.2.2.size
    have h4l := H4r.out.lt'
    refine ⟨?_, ?_, ?_, ?_⟩ <;> omega
  have HLO : Hid ((b2 < w6.heap.size ∧ b3 < w6.heap.size ∧ ib < w6.heap.size ∧ ob < w6.heap.size) ∧ Hb < w6.heap.size) := by
    obtain ⟨vo, vw, hr, _⟩ := W6.out.held
    exact ⟨⟨W6.out.h2.lt, W6.out.h3.lt, W6.out.hi.lt, W6.out.hrow.lt'⟩, (Array.getElem?_eq_some_iff.1 hr.1).1⟩
  have H4 := hide B14
  have HW5 := hide (And.intro hw5 (And.intro hib (And.intro hob (And.intro hC2 hw6))))
  clear hw5 hw6 hib hob hC2 B14 B45 B15 B4 H4r x18 hh5
  go_upto_region 6 with (first
    | (refine wpList_load_row rfl 34 (.tmp 2) rfl b2 rfl 34 C (0, 0) _ (by rw [HC.out.1]; exact (R1.out.1.below H4.out)) under_rec rfl (by rw [HC.out.2]; exact info_rec) ?_)
    | (refine wpList_store_new rfl 34 (.tmp 8) (.tmp 31) rfl C (by rfl) (by rfl) 34 _ (by rw [HC.out.2]; exact info_rec) (by rw [HC.out.2]; rfl) h1c.out ?_; rw [← HW5.out.2.1, ← HW5.out.1]))
  rw [← HW5.out.2.2.2.2]
  obtain ⟨L1, hL1⟩ : ∃ L1, L1 = outL r body := ⟨_, rfl⟩
  obtain ⟨L2, hL2⟩ : ∃ L2, L2 = outL s body' := ⟨_, rfl⟩
  obtain ⟨n1, hn1⟩ : ∃ n1, n1 = L1.length := ⟨_, rfl⟩
  obtain ⟨n2, hn2⟩ : ∃ n2, n2 = L2.length := ⟨_, rfl⟩
  obtain ⟨E1, hE1⟩ : ∃ E1, E1 = checkE r body.length := ⟨_, rfl⟩
  obtain ⟨E2, hE2⟩ : ∃ E2, E2 = checkE s body'.length := ⟨_, rfl⟩
  have PA : Hid (∀ W, ByteRow W 5 ob (body ++ marks 4) → Calls Try.prog 18 #[.agg C2] W fun e w' => ∃ a2 c2, e = .returned (.tuple #[.slice a2 n1 c2, .int .i64 E1]) ∧ Own w' W.heap.size (.slice a2 n1 c2) L1 ∧ Below W.heap.size W w') := by
    rw [HW5.out.2.2.2.1, hn1, hL1, hE1, HM.out.1]
    exact fun W hW => putC r _ _ body W (hW.is 0 _ _ (fun j x hj => by rw [Nat.zero_add, List.getElem?_append_left (List.getElem?_eq_some_iff.1 hj).1]; exact hj) (by omega) (by unfold maxLen; have := HM.out; omega))
  have PB : Hid (∀ W, Below w.heap.size w W → Calls Try.prog 18 #[.agg C'] W fun e w' => ∃ a2 c2, e = .returned (.tuple #[.slice a2 n2 c2, .int .i64 E2]) ∧ Own w' W.heap.size (.slice a2 n2 c2) L2 ∧ Below W.heap.size W w') := by
    rw [HC'.out.1, hn2, hL2, hE2, HM.out.2.1]
    exact fun W hW => putC s _ _ body' W (HB.out.2.below hW)
  have QA : Hid (∀ W, Below w.heap.size w W → Calls Try.prog 19 #[.agg C] W fun e w' => ∃ a2 c2, e = .returned (.tuple #[.slice a2 n1 c2, .int .i64 E1]) ∧ Own w' W.heap.size (.slice a2 n1 c2) L1 ∧ Below W.heap.size W w') := by
    rw [HC.out.1, hn1, hL1, hE1, HM.out.1]
    exact fun W hW => refPutC r _ _ body W (HB.out.1.below hW) (by have := HM.out; omega)
  have QB : Hid (∀ W, Below w.heap.size w W → Calls Try.prog 19 #[.agg C'] W fun e w' => ∃ a2 c2, e = .returned (.tuple #[.slice a2 n2 c2, .int .i64 E2]) ∧ Own w' W.heap.size (.slice a2 n2 c2) L2 ∧ Below W.heap.size W w') := by
    rw [HC'.out.1, hn2, hL2, hE2, HM.out.2.1]
    exact fun W hW => refPutC s _ _ body' W (HB.out.2.below hW) (by have := HM.out; omega)
  have HST : Hid (∀ W, ByteRow W 5 ob (body ++ marks 4) → Below w.heap.size w W → Calls Try.prog 15 #[.slice (some ⟨ob, 0, none⟩) (m + 4) (m + 4), .slice a m c] W fun e w' => e = .returned (.bool true) ∧ Below W.heap.size W w') := by
    rw [HM.out.1]
    intro W hbr hW
    exact still_any _ _ a c body W (hbr.is 0 _ _ (fun j x hj => by rw [Nat.zero_add]; exact hj) (by simp [marks]) (by unfold maxLen; have := HM.out; omega)) (HB.out.1.below hW)
  have HLL : Hid (L1.length ≤ 2000000 ∧ L2.length ≤ 2000000) := by
    rw [hL1, hL2]
    exact ⟨out_len r body (by have := HM.out; omega), out_len s body' (by have := HM.out; omega)⟩
  have HN := hide (And.intro hn1 (And.intro hn2 (And.intro hL1 (And.intro hL2 (And.intro hE1 hE2)))))
  have hC2s : Hid (C2.size = 19) := by show _ = _; rw [HW5.out.2.2.2.1]; rfl
  have HC2 := hide HW5.out.2.2.2.1
  have T18 : Hid (∀ W, RecAt W b2 r (.slice a m c) → W.cell? ⟨b2, 18, none⟩ = some (.slice a m c)) := fun W hW => hW.cell 18
  clear hL1 hL2 hn1 hn2 hE1 hE2 i18 if18 y18 HW1 H3 h1c HL H4
  go_upto_region 7 with (first
    | (refine wpList_load_row rfl 34 (.tmp 8) rfl ib rfl 34 C2 (0, 0) _ (by rw [HC2.out]; exact W6.out.hi) under_rec rfl (by rw [hC2s.out]; exact info_rec) ?_)
    | (go_at_call 18; refine (PA.out _ W6.out.hrow).mono ?_; rintro e w7 ⟨a7, c7, rfl, o7, B7⟩; have W7 := hide (W6.out.later B7); have O7 := hide (And.intro o7 (And.intro B7 W6.out.below.size)); clear o7 B7))
  go_upto_region 8 with (first
    | (refine wpList_load_row rfl 34 (.tmp 3) rfl b3 rfl 34 C' (0, 0) _ (by rw [HC'.out.1]; exact W7.out.h3) under_rec rfl (by rw [HC'.out.2]; exact info_rec) ?_)
    | (go_at_call 18; refine (PB.out _ W7.out.below).mono ?_; rintro e w8 ⟨a8, c8, rfl, o8, B8⟩; have W8 := hide (W7.out.later B8); have O8 := hide (And.intro o8 (And.intro B8 W7.out.below.size)); clear o8 B8))
  go_upto_region 9 with (first
    | (refine wpList_load_row rfl 34 (.tmp 8) rfl ib rfl 34 C2 (0, 0) _ (by rw [HC2.out]; exact W8.out.hi) under_rec rfl (by rw [hC2s.out]; exact info_rec) ?_)
    | (go_at_call 18; refine (PA.out _ W8.out.hrow).mono ?_; rintro e w9 ⟨a9, c9, rfl, o9, B9⟩; have W9 := hide (W8.out.later B9); have O9 := hide (And.intro o9 (And.intro B9 W8.out.below.size)); clear o9 B9))
  go_upto_region 10 with (first
    | (refine wpList_load_row rfl 34 (.tmp 2) rfl b2 rfl 34 C (0, 0) _ (by rw [HC.out.1]; exact W9.out.h2) under_rec rfl (by rw [HC.out.2]; exact info_rec) ?_)
    | (go_at_call 19; refine (QA.out _ W9.out.below).mono ?_; rintro e w10 ⟨a10, c10, rfl, o10, B10⟩; have W10 := hide (W9.out.later B10); have O10 := hide (And.intro o10 (And.intro B10 W9.out.below.size)); clear o10 B10))
  go_upto_region 11 with (first
    | (refine wpList_load_row rfl 34 (.tmp 3) rfl b3 rfl 34 C' (0, 0) _ (by rw [HC'.out.1]; exact W10.out.h3) under_rec rfl (by rw [HC'.out.2]; exact info_rec) ?_)
    | (go_at_call 19; refine (QB.out _ W10.out.below).mono ?_; rintro e w11 ⟨a11, c11, rfl, o11, B11⟩; have W11 := hide (W10.out.later B11); have O11 := hide (And.intro o11 (And.intro B11 W10.out.below.size)); clear o11 B11))
  have x18 := T18.out w11 W11.out.h2
  go_upto_region 12 with (go_at_call 15; refine (HST.out _ W11.out.hrow W11.out.below).mono ?_; rintro e w12 ⟨rfl, B12⟩; have W12 := hide (W11.out.later B12); have O12 := hide B12; clear B12)
  clear x18
  have B11 := O12.out
  have B10 := O11.out.2.1.trans (B11.mono O11.out.2.1.size)
  have B9 := O10.out.2.1.trans (B10.mono O10.out.2.1.size)
  have B8 := O9.out.2.1.trans (B9.mono O9.out.2.1.size)
  have B7 := O8.out.2.1.trans (B8.mono O8.out.2.1.size)
  have z7 := O7.out.2.1.size
  have z8 := O8.out.2.1.size
  have z9 := O9.out.2.1.size
  have hHb6 := HLO.out.2
  have F7 := hide ((Fr.ofOwn (Hb := Hb) O7.out.1 O7.out.2.2 hHb6).later B7)
  have F8 := hide ((Fr.ofOwn (Hb := Hb) O8.out.1 O8.out.2.2 (by omega)).later B8)
  have F9 := hide ((Fr.ofOwn (Hb := Hb) O9.out.1 O9.out.2.2 (by omega)).later B9)
  obtain ⟨T1, hT1⟩ : ∃ T : ByteArray, T = ⟨L1.toArray⟩ := ⟨_, rfl⟩
  obtain ⟨T2, hT2⟩ : ∃ T : ByteArray, T = ⟨L2.toArray⟩ := ⟨_, rfl⟩
  have V7 : (convert 30 9 (.slice a7 n1 c7)).run Try.prog w12 = .ok (.string T1) w12 := by rw [hT1]; exact own_conv F7.out.own
  have V8 : (convert 30 9 (.slice a8 n2 c8)).run Try.prog w12 = .ok (.string T2) w12 := by rw [hT2]; exact own_conv F8.out.own
  have V9 : (convert 30 9 (.slice a9 n1 c9)).run Try.prog w12 = .ok (.string T1) w12 := by rw [hT1]; exact own_conv F9.out.own
  have V10 : (convert 30 9 (.slice a10 n1 c10)).run Try.prog w12 = .ok (.string T1) w12 := by rw [hT1]; exact own_conv (O10.out.1.below B10)
  have V11 : (convert 30 9 (.slice a11 n2 c11)).run Try.prog w12 = .ok (.string T2) w12 := by rw [hT2]; exact own_conv (O11.out.1.below B11)
  have HZ := hide (And.intro z7 (And.intro z8 z9))
  clear hT1 hT2 B11 B10 B9 B8 B7 z7 z8 z9 hHb6
  go_upto_region 14 with fail
  clear V7 V8 V9 V10 V11
  go_upto_region 15 with (go_at_call 20; refine (W12.out.keep a7 c7 n1 L1 HN.out.1 F7.out HLL.out.1 (by omega) (by simp) HLO.out.1).mono ?_; rintro e w13 ⟨rfl, lab1, es1, x1, x2, x3, x4⟩; have W13 := hide x1; have G8 := hide (F8.out.kept x4 x3 (fun k hk => Or.inl (F7.out.rng k hk).2)); have G9 := hide (F9.out.kept x4 x3 (fun k hk => Or.inl (Nat.lt_of_lt_of_le (F7.out.rng k hk).2 HZ.out.2.1))); have E13 := hide x2; clear x1 x2 x3 x4)
  have hLO7 : Hid (b2 < w7.heap.size ∧ b3 < w7.heap.size ∧ ib < w7.heap.size ∧ ob < w7.heap.size) := by
    have := HLO.out.1
    have := HZ.out
    exact ⟨by omega, by omega, by omega, by omega⟩
  have hLO8 : Hid (b2 < w8.heap.size ∧ b3 < w8.heap.size ∧ ib < w8.heap.size ∧ ob < w8.heap.size) := by
    have := HLO.out.1
    have := HZ.out
    exact ⟨by omega, by omega, by omega, by omega⟩
  go_upto_region 16 with (go_at_call 20; refine (W13.out.keep a8 c8 n2 L2 HN.out.2.1 G8.out HLL.out.2 (by omega) (by rw [E13.out]; simp) hLO7.out).mono ?_; rintro e w14 ⟨rfl, lab2, es2, x1, x2, x3, x4⟩; have W14 := hide x1; have I9 := hide (G9.out.kept x4 x3 (fun k hk => Or.inl (G8.out.rng k hk).2)); have E14 := hide (x2.trans (by rw [E13.out])); clear x1 x2 x3 x4)
  go_upto_region 17 with (go_at_call 20; refine (W14.out.keep a9 c9 n1 L1 HN.out.1 I9.out HLL.out.1 (by omega) (by rw [E14.out]; simp) hLO8.out).mono ?_; rintro e w15 ⟨rfl, lab3, es3, x1, x2, x3, x4⟩; have W15 := hide x1; have E15 := hide (x2.trans (by rw [E14.out])); clear x1 x2 x3 x4)
  obtain ⟨row, hrow⟩ : ∃ row, row = body ++ marks 4 := ⟨_, rfl⟩
  have hrl : row.length = m + 4 := by rw [hrow, HM.out.1]; simp [marks]
  have HR0 := hide (And.intro hrow hrl)
  rw [← hrow] at W15
  clear hrow hrl
  go_wp2_with fail
  go_loopg [20] (m + 4) (fun gk i wx => ∃ k : Nat, i = .int .i64 (k : Int) ∧ k ≤ m + 4 ∧ m + 4 - k ≤ gk ∧ Hid (Wr w lab3 Hb es3 b2 b3 ib ob r s (.slice a m c) (.slice a' m' c') (.slice (some ⟨ob, 0, none⟩) m (m + 4)) (turnedTo row k) 2000000 wx))
  case atStart => exact ⟨0, rfl, by omega, by omega, by rw [turnedTo_zero]; exact W15⟩
  case round =>
    obtain ⟨k, rfl, hk, hgk, WX⟩ := hrel
    by_cases hlt : k < m + 4
    · obtain ⟨x, hx⟩ : ∃ x, row[k]? = some x := ⟨_, List.getElem?_eq_getElem (by rw [HR0.out.2]; exact hlt)⟩
      have hc := WX.out.hrow.cell k x (turnedTo_at row k x hx)
      have hf := WX.out.hrow.frozen k
      obtain ⟨y, hy⟩ : ∃ y, y = x ^^^ 0x55 := ⟨_, rfl⟩
      have e55 : bits .xor .u8 (x.toNat : Int) 85 = (y.toNat : Int) := by rw [hy]; exact xor55 x
      have WY := hide (WX.out.set HNE.out k y)
      rw [hy, turnedTo_set row k x hx, ← hy] at WY
      clear hy hx WX
      have i2 : (k : Int) < ((m + 4 : Nat) : Int) := by omega
      go_wp2_with fail
      go_roundg (m + 3 - k)
      case measure => omega
      case rel => exact ⟨k + 1, by go_num, by omega, by omega, WY⟩
    · obtain rfl : k = m + 4 := by omega
      clear hgk hk hlt
      obtain ⟨row2, hrow2⟩ : ∃ row2, row2 = turnedTo row (m + 4) := ⟨_, rfl⟩
      rw [← hrow2] at WX
      have hr2 : row2.length = m + 4 := by rw [hrow2, turnedTo_len, HR0.out.2]
      obtain ⟨bd, hbd⟩ : ∃ bd, bd = row2.take m := ⟨_, rfl⟩
      have hbl2 : bd.length = m := by rw [hbd, List.length_take]; omega
      have HBD : Hid (bd.length = m ∧ (∀ (j : Nat) x, bd[j]? = some x → row2[0 + j]? = some x)) := ⟨hbl2, fun j x hj => by
        rw [hbd, List.getElem?_take] at hj
        split at hj
        · rw [Nat.zero_add]; exact hj
        · cases hj⟩
      clear hrow2 hr2 hbd hbl2
      obtain ⟨lab4, hlab4⟩ : ∃ lab4 : Nat → Tag, lab4 = fun k => if k < wr.heap.size then lab3 k else .user 0 := ⟨_, rfl⟩
      have W16 := hide WX.out.fresh
      rw [← hlab4] at W16
      obtain ⟨nb, hnb⟩ : ∃ nb, nb = wr.heap.size := ⟨_, rfl⟩
      have HLAB : Hid (∀ k, nb ≤ k → lab4 k = .user 0) := fun k hk => by rw [hlab4]; exact if_neg (by omega)
      clear hlab4
      obtain ⟨w17, hw17⟩ : ∃ w17, w17 = wr.alloc (.cells C 34) := ⟨_, rfl⟩
      have R17 : Hid (RecAt w17 nb r (.slice a m c)) := by
        show RecAt _ _ _ _
        unfold RecAt
        rw [hw17, hnb, HC.out.1]
        exact heap_alloc_last wr _
      have W17 := hide (W16.out.later (show Below wr.heap.size wr w17 by rw [hw17]; exact (Below.refl _ wr).alloc (Nat.le_refl _) _))
      have N17 : Hid (nb ≠ b2 ∧ nb ≠ b3 ∧ nb ≠ ib ∧ nb ≠ ob ∧ w.heap.size ≤ nb) := by
        have h2 := WX.out.h2.lt
        have h3 := WX.out.h3.lt
        have hi := WX.out.hi.lt
        have ho := WX.out.hrow.lt'
        have hs := WX.out.below.size
        refine ⟨?_, ?_, ?_, ?_, ?_⟩ <;> omega
      obtain ⟨w18, hw18⟩ : ∃ w18, w18 = w17.setCell ⟨nb, 18, none⟩ (.slice none 0 0) := ⟨_, rfl⟩
      have R18 := hide (R17.out.set18 (.slice none 0 0)).1
      have W18 := hide (W17.out.poke (R17.out.set18 (.slice none 0 0)).2 (HLAB.out nb (Nat.le_refl _)) N17.out)
      rw [← hw18] at R18 W18
      have n18 : w17.cell? ⟨nb, 18, none⟩ = some (.slice a m c) := R17.out.cell 18
      have nf18 : w17.frozen? ⟨nb, 18, none⟩ = false := by
        have h : w17.heap[nb]? = some (.cells (recA r (.slice a m c)) 34 (0, 0)) := R17.out
        simp [World.frozen?, h]
      have HW17 := hide (And.intro hw17 (And.intro hnb hw18))
      clear hw17 hnb hw18
      go_upto_region 22 with (first
        | (refine wpList_load_row rfl 34 (.tmp 2) rfl b2 rfl 34 C (0, 0) _ (by rw [HC.out.1]; exact W16.out.h2) under_rec rfl (by rw [HC.out.2]; exact info_rec) ?_)
        | (refine wpList_store_new rfl 34 (.tmp 21) (.tmp 135) rfl C (by rfl) (by rfl) 34 _ (by rw [HC.out.2]; exact info_rec) (by rw [HC.out.2]; rfl) (by rw [HC.out.1]; exact rec_one _ _ _ _) ?_; rw [← HW17.out.2.1, ← HW17.out.1]))
      go_upto_region 23 with fail
      rw [← HW17.out.2.2]
      clear n18 nf18 R17 W17 W16 WX
      have p18 : w18.cell? ⟨nb, 18, none⟩ = some (.slice none 0 0) := R18.out.cell 18
      have q18 : w18.cell? ⟨b2, 18, none⟩ = some (.slice a m c) := W18.out.h2.cell 18
      have HIB : Hid (IsBytes w18 (some ⟨ob, 0, none⟩) (m + 4) bd) := W18.out.hrow.is 0 (m + 4) bd HBD.out.2 (by rw [HBD.out.1]; omega) (by unfold maxLen; omega)
      have j0 : (0 : Int) ≤ (m : Int) := by omega
      have j1 : (m : Int) ≤ ((m + 4 : Nat) : Int) := by omega
      have j2 : (m : Int) ≤ (m : Int) + 4 := by omega
      have p18d : w18.drew.cell? ⟨nb, 18, none⟩ = some (.slice none 0 0) := p18
      have q18d : w18.drew.cell? ⟨b2, 18, none⟩ = some (.slice a m c) := q18
      refine wp_region_any mixed ?_
      refine A_take (i := 0) (v := .pointer (some ⟨nb, 4, none⟩)) (some 138) rfl rfl (by kernel_rfl) (by kernel_rfl) (by kernel_rfl) (fun _ _ _ h => h) (.inl ⟨rfl, fun w => ?_⟩) ?_
      · go_simp
      simp only [Act.put, List.setIfInBounds_toArray, List.set_cons_zero, List.set_cons_succ]
      refine A_take (i := 1) (v := .pointer (some ⟨nb, 18, none⟩)) (some 139) rfl rfl (by kernel_rfl) (by kernel_rfl) (by kernel_rfl) (fun _ _ _ h => h) (.inl ⟨rfl, fun w => ?_⟩) ?_
      · go_simp
      simp only [Act.put, List.setIfInBounds_toArray, List.set_cons_zero, List.set_cons_succ]
      refine A_take (i := 3) (v := .slice (some ⟨ob, 0, none⟩) (m + 4) (m + 4)) (some 141) rfl rfl (by kernel_rfl) (by kernel_rfl) (by kernel_rfl) (fun _ _ _ h => h) (.inl ⟨rfl, fun w => ?_⟩) ?_
      · go_simp
      simp only [Act.put, List.setIfInBounds_toArray, List.set_cons_zero, List.set_cons_succ]
      refine A_take (i := 4) (v := .pointer (some ⟨b2, 4, none⟩)) (some 142) rfl rfl (by kernel_rfl) (by kernel_rfl) (by kernel_rfl) (fun _ _ _ h => h) (.inl ⟨rfl, fun w => ?_⟩) ?_
      · go_simp
      simp only [Act.put, List.setIfInBounds_toArray, List.set_cons_zero, List.set_cons_succ]
      refine A_take (i := 5) (v := .pointer (some ⟨b2, 18, none⟩)) (some 143) rfl rfl (by kernel_rfl) (by kernel_rfl) (by kernel_rfl) (fun _ _ _ h => h) (.inl ⟨rfl, fun w => ?_⟩) ?_
      · go_simp
      simp only [Act.put, List.setIfInBounds_toArray, List.set_cons_zero, List.set_cons_succ]
      refine C_take (i := 6) (v := .slice a m c) (Cl := fun X => X.cell? ⟨b2, 18, none⟩ = some (.slice a m c)) (D := [7, 8, 9, 10, 11, 12]) (E := [2]) (some 144) rfl rfl (by kernel_rfl) (fun j hj oj ho => ?_) (fun _ _ _ h => h) q18d ⟨rfl, fun X hX => ?_⟩ ?_
      · obtain rfl : j = 2 := by simpa using hj
        cases ho
        exact stays_loadC rfl Try.isAgg30
      · go_simp
      simp only [Act.put, List.setIfInBounds_toArray, List.set_cons_zero, List.set_cons_succ]
      refine A_take (i := 7) (v := .int .i64 (m : Int)) (some 145) rfl rfl (by kernel_rfl) (by kernel_rfl) (by kernel_rfl) (fun _ _ _ h => h) (.inl ⟨rfl, fun w => ?_⟩) ?_
      · go_simp
      simp only [Act.put, List.setIfInBounds_toArray, List.set_cons_zero, List.set_cons_succ]
      refine A_take (i := 8) (v := .slice (some ⟨ob, 0, none⟩) m (m + 4)) (some 146) rfl rfl (by kernel_rfl) (by kernel_rfl) (by kernel_rfl) (fun _ _ _ h => h) (.inl ⟨rfl, fun w => ?_⟩) ?_
      · go_simp
      simp only [Act.put, List.setIfInBounds_toArray, List.set_cons_zero, List.set_cons_succ]
      refine C_take (i := 2) (v := .slice none 0 0) (Cl := fun X => X.cell? ⟨nb, 18, none⟩ = some (.slice none 0 0)) (D := [9, 10, 11, 12]) (E := []) (some 140) rfl rfl (by kernel_rfl) (fun j hj oj ho => by cases hj) (fun _ _ _ h => h) p18d ⟨rfl, fun X hX => ?_⟩ ?_
      · go_simp
      simp only [Act.put, List.setIfInBounds_toArray, List.set_cons_zero, List.set_cons_succ]
      refine wpAny_all (rs := [9]) (by kernel_rfl) (by decide) (fun i hi => ?_)
      obtain rfl : i = 9 := by simpa using hi
      refine D_append8 (some 147) rfl rfl rfl (.tmp 140) (.tmp 146) rfl w18.heap.size (.slice none 0 0) [] (by rfl) (Own.nil _ _) (some ⟨ob, 0, none⟩) (m + 4) bd (by rw [HBD.out.1]; rfl) (HIB.out.below (Below.refl _ _).drew) (by rw [HBD.out.1]; simp; omega) (Nat.le_refl _) ?_
      intro v19 w19 o19 g19
      obtain ⟨a19, c19, rfl, _⟩ := o19.shape
      have e19 : (([] : List UInt8) ++ bd).length = m := HBD.out.1
      rw [e19] at o19 ⊢
      clear e19
      have B19 : Below w18.heap.size w18 w19 := (Below.refl _ w18).drew.trans (below_of_none g19)
      have O19 := hide (And.intro (show Own w19 w18.heap.size (.slice a19 m c19) bd from o19) B19)
      have W19 := hide (W18.out.later B19)
      have R19 := hide (R18.out.below B19)
      have u18 : w19.cell? ⟨nb, 18, none⟩ = some (.slice none 0 0) := R19.out.cell 18
      have uf18 : w19.frozen? ⟨nb, 18, none⟩ = false := by
        have h : w19.heap[nb]? = some (.cells (recA r (.slice none 0 0)) 34 (0, 0)) := R19.out
        simp [World.frozen?, h]
      clear o19 g19 B19
      simp only [Act.put, List.setIfInBounds_toArray, List.set_cons_zero, List.set_cons_succ]
      refine A_take (i := 10) (v := .pointer (some ⟨nb, 4, none⟩)) (some 148) rfl rfl (by kernel_rfl) (by kernel_rfl) (by kernel_rfl) (fun _ _ _ h => h) (.inl ⟨rfl, fun w => ?_⟩) ?_
      · go_simp
      simp only [Act.put, List.setIfInBounds_toArray, List.set_cons_zero, List.set_cons_succ]
      refine A_take (i := 11) (v := .pointer (some ⟨nb, 18, none⟩)) (some 149) rfl rfl (by kernel_rfl) (by kernel_rfl) (by kernel_rfl) (fun _ _ _ h => h) (.inl ⟨rfl, fun w => ?_⟩) ?_
      · go_simp
      simp only [Act.put, List.setIfInBounds_toArray, List.set_cons_zero, List.set_cons_succ]
      refine wpAny_all (rs := [12]) (by kernel_rfl) (by decide) (fun i hi => ?_)
      obtain rfl : i = 12 := by simpa using hi
      refine D_skip (w' := w19.setCell ⟨nb, 18, none⟩ (.slice a19 m c19)) rfl rfl rfl ?_ ?_
      · simp [go_sem, u18, uf18]
      refine wpAny_done (by kernel_rfl) ?_ _
      obtain ⟨w20, hw20⟩ : ∃ w20, w20 = w19.setCell ⟨nb, 18, none⟩ (.slice a19 m c19) := ⟨_, rfl⟩
      rw [← hw20]
      have W20 := hide (W19.out.poke (R19.out.set18 (.slice a19 m c19)).2 (HLAB.out nb (Nat.le_refl _)) N17.out)
      have R20 := hide (R19.out.set18 (.slice a19 m c19))
      rw [← hw20] at W20 R20
      have I20 : Hid (IsBytes w20 a19 c19 bd) := by
        have hlt : nb < w18.heap.size := R18.out.lt
        have o := R20.out.2.Own O19.out.1 (fun g hg e => by have := (O19.out.1.lt g hg).1; omega)
        obtain ⟨a1, c1, e, hi⟩ := o.shape
        simp only [Value.slice.injEq] at e
        obtain ⟨rfl, _, rfl⟩ := e
        exact hi
      have Z20 : Hid (nb < w20.heap.size) := R20.out.1.lt
      clear hw20 p18 q18 p18d q18d u18 uf18
      obtain ⟨C3, hC3⟩ : ∃ C3, C3 = recA r (.slice a19 m c19) := ⟨_, rfl⟩
      obtain ⟨L3, hL3⟩ : ∃ L3, L3 = outL r bd := ⟨_, rfl⟩
      obtain ⟨n3, hn3⟩ : ∃ n3, n3 = L3.length := ⟨_, rfl⟩
      obtain ⟨E3, hE3⟩ : ∃ E3, E3 = checkE r bd.length := ⟨_, rfl⟩
      have PA3 : Hid (∀ W, ByteRow W 5 ob row2 → Calls Try.prog 18 #[.agg C2] W fun e w' => ∃ a2 c2, e = .returned (.tuple #[.slice a2 n3 c2, .int .i64 E3]) ∧ Own w' W.heap.size (.slice a2 n3 c2) L3 ∧ Below W.heap.size W w') := by
        rw [HC2.out, hn3, hL3, hE3, ← HBD.out.1]
        exact fun W hW => putC r _ _ bd W (hW.is 0 _ _ HBD.out.2 (by omega) (by rw [HBD.out.1]; unfold maxLen; omega))
      have QA3 : Hid (∀ W, Below w20.heap.size w20 W → Calls Try.prog 19 #[.agg C3] W fun e w' => ∃ a2 c2, e = .returned (.tuple #[.slice a2 n3 c2, .int .i64 E3]) ∧ Own w' W.heap.size (.slice a2 n3 c2) L3 ∧ Below W.heap.size W w') := by
        rw [hC3, hn3, hL3, hE3, ← HBD.out.1]
        exact fun W hW => refPutC r _ _ bd W (I20.out.below hW) (by rw [HBD.out.1]; omega)
      have HL3 : Hid (L3.length ≤ 2000000 ∧ n3 = L3.length) := ⟨by rw [hL3]; exact out_len r bd (by have := HM.out; rw [HBD.out.1]; omega), hn3⟩
      have HC3 : Hid (C3 = recA r (.slice a19 m c19) ∧ C3.size = 19) := ⟨hC3, by rw [hC3]; rfl⟩
      clear hC3 hL3 hn3 hE3
      go_upto_region 24 with fail
      go_upto_region 25 with (first
        | (refine wpList_load_row rfl 34 (.tmp 8) rfl ib rfl 34 C2 (0, 0) _ (by rw [HC2.out]; exact W20.out.hi) under_rec rfl (by rw [hC2s.out]; exact info_rec) ?_)
        | (go_at_call 18; refine (PA3.out _ W20.out.hrow).mono ?_; rintro e w21 ⟨a21, c21, rfl, o21, B21⟩; have W21 := hide (W20.out.later B21); have O21 := hide (And.intro o21 B21); have R21 := hide (R20.out.1.below B21); clear o21 B21))
      go_upto_region 26 with (first
        | (refine wpList_load_row rfl 34 (.tmp 21) rfl nb rfl 34 C3 (0, 0) _ (by rw [HC3.out.1]; exact R21.out) under_rec rfl (by rw [HC3.out.2]; exact info_rec) ?_)
        | (go_at_call 19; refine (QA3.out _ O21.out.2).mono ?_; rintro e w22 ⟨a22, c22, rfl, o22, B22⟩; have W22 := hide (W21.out.later B22); have O22 := hide (And.intro o22 B22); clear o22 B22))
      obtain ⟨T3, hT3⟩ : ∃ T : ByteArray, T = ⟨L3.toArray⟩ := ⟨_, rfl⟩
      have F22 := hide ((Fr.new (B := w.heap.size) (lab := lab4) O21.out.1 W20.out.below.size (fun k hk => HLAB.out k (by have := Z20.out; omega))).later O22.out.2)
      have V21 : (convert 30 9 (.slice a21 n3 c21)).run Try.prog w22 = .ok (.string T3) w22 := by rw [hT3]; exact own_conv F22.out.own
      have V22 : (convert 30 9 (.slice a22 n3 c22)).run Try.prog w22 = .ok (.string T3) w22 := by rw [hT3]; exact own_conv O22.out.1
      clear hT3
      go_upto_region 28 with fail
      clear V21 V22
      have HLO2 : Hid (b2 < w20.heap.size ∧ b3 < w20.heap.size ∧ ib < w20.heap.size ∧ ob < w20.heap.size) := ⟨W20.out.h2.lt, W20.out.h3.lt, W20.out.hi.lt, W20.out.hrow.lt'⟩
      go_upto_region 29 with (go_at_call 20; refine (W22.out.keep a21 c21 n3 L3 HL3.out.2 F22.out HL3.out.1 (by omega) (by rw [E15.out]; simp) HLO2.out).mono ?_; rintro e w23 ⟨rfl, lab5, es5, x1, x2, x3, x4⟩; have W23 := hide x1; clear x1 x2 x3 x4)
      go_wp2_with (go_at_call 21; refine (W23.out.spoil (by omega)).mono ?_; rintro e w24 ⟨rfl, x1⟩; have B24 := hide x1; clear x1)
      go_ret
      exact ⟨rfl, B24.out⟩
end Go.Proofs.Ytbgldkjjdmacaaa.recordWrites
