/-
  The walk of RecordChecks.
-/
import Derived.Test.YtbgldkjjdmacaaaRefPut
import Derived.Test.YtbgldkjjdmacaaaLent
import Derived.Test.YtbgldkjjdmacaaaShown
import Derived.Test.YtbgldkjjdmacaaaCheckW
namespace Go.Proofs.Ytbgldkjjdmacaaa.recordChecks
open Go.RowKit

set_option maxHeartbeats 4000000 in
set_option maxRecDepth 1000000 in
theorem walk (r : Rec) (a : Option Addr) (c : Nat) (body : List UInt8) (w : World) (hb : IsBytes w a c body ∧ r.tube.length ≤ maxLen ∧ -9223372036854775808 ≤ r.kind ∧ r.kind ≤ 9223372036854775807) (hbl : r.tube.length + body.length ≤ 1048576) :
    Calls Try.prog 4 #[.agg (recA r (.slice a body.length c))] w fun e w' => e = .returned (.bool true) ∧ Below w.heap.size w w' := by
  obtain ⟨m, hm⟩ : ∃ m, m = body.length := ⟨_, rfl⟩
  obtain ⟨C, hC⟩ : ∃ C, C = recA r (.slice a m c) := ⟨_, rfl⟩
  obtain ⟨w1, hw1⟩ : ∃ w1, w1 = w.alloc (.cells C 34) := ⟨_, rfl⟩
  obtain ⟨rb, hrb⟩ : ∃ rb, rb = w.heap.size := ⟨_, rfl⟩
  have hml : m ≤ 1048576 := by omega
  have R1 : Hid (RecAt w1 rb r (.slice a m c) ∧ Below w.heap.size w w1) := ⟨by rw [hw1, hC, hrb]; exact RecAt.new _ _ _, by rw [hw1]; exact (Below.refl _ w).alloc (Nat.le_refl _) _⟩
  have HB := hide hb.1
  have HC := hide (And.intro hC (show C.size = 19 by rw [hC]; rfl))
  have HM := hide hm
  have HW1 := hide (And.intro hw1 hrb)
  rw [← hm, ← hC]
  have S18 : Hid (∀ W, Below w1.heap.size w1 W → W.cell? ⟨rb, 18, none⟩ = some (.slice a m c)) := fun W hW => (R1.out.1.below hW).cell 18
  have h1c : Hid (C.all (·.oneCell') = true) := by show _ = _; rw [hC]; exact rec_one _ _ _ _
  clear hC hw1 hb hbl hm hrb
  go_enter Try.func4, Try.ntmps4
  go_upto_region 1 with fail
  rw [← HW1.out.2, ← HW1.out.1]
  go_wp2_with fail
  refine (shown_any _).mono ?_
  rintro e w2 ⟨rfl, B2⟩
  have H2 := hide B2
  have x18 := S18.out w2 B2
  clear B2
  have HL : Hid (Calls Try.prog 12 #[.slice a m c] w2 fun e w' => e = .returned (.slice (some ⟨w2.heap.size, 0, none⟩) (m + 4) (m + 4)) ∧ Hid (ByteRow w' 5 w2.heap.size (body ++ marks 4)) ∧ Below w2.heap.size w2 w') := by
    have := lent_any a c body w2 ((HB.out.below R1.out.2).below H2.out) (by have := HM.out; omega)
    rw [← HM.out] at this
    exact this
  go_wp2_with fail
  refine HL.out.mono ?_
  rintro e w3 ⟨rfl, H3r, B3⟩
  obtain ⟨ob, hob⟩ : ∃ ob, ob = w2.heap.size := ⟨_, rfl⟩
  rw [← hob] at H3r ⊢
  have B13 : Below w1.heap.size w1 w3 := H2.out.trans (B3.mono H2.out.size)
  obtain ⟨C2, hC2⟩ : ∃ C2, C2 = recA r (.slice (some ⟨ob, 0, none⟩) m (m + 4)) := ⟨_, rfl⟩
  obtain ⟨ib, hib⟩ : ∃ ib, ib = w3.heap.size := ⟨_, rfl⟩
  obtain ⟨w4, hw4⟩ : ∃ w4, w4 = w3.alloc (.cells C 34) := ⟨_, rfl⟩
  have i18 : w4.cell? ⟨ib, 18, none⟩ = some (.slice a m c) := by
    rw [hw4, hib, cell_of_row _ _ 18 C _ (0, 0) (heap_alloc_last w3 _), HC.out.1]
    rfl
  have if18 : w4.frozen? ⟨ib, 18, none⟩ = false := by
    have hh : w4.heap[ib]? = some (.cells C 34 (0, 0)) := by rw [hw4, hib]; exact heap_alloc_last w3 _
    simp [World.frozen?, hh]
  have B34 : Below w3.heap.size w3 w4 := by rw [hw4]; exact (Below.refl _ w3).alloc (Nat.le_refl _) _
  have y18 := S18.out w4 (B13.trans (B34.mono B13.size))
  have H3 := hide (And.intro B13 (And.intro B3 (And.intro H3r.out B34)))
  have HW4 := hide (And.intro hw4 (And.intro hib (And.intro hob hC2)))
  clear hw4 hib hob hC2 B13 B34 B3 H3r x18
  go_upto_region 5 with (first
    | (refine wpList_load_row rfl 34 (.tmp 1) rfl rb rfl 34 C (0, 0) _ (by rw [HC.out.1]; exact (R1.out.1.below H3.out.1)) under_rec rfl (by rw [HC.out.2]; exact info_rec) ?_)
    | (refine wpList_store_new rfl 34 (.tmp 5) (.tmp 18) rfl C (by rfl) (by rfl) 34 _ (by rw [HC.out.2]; exact info_rec) (by rw [HC.out.2]; rfl) h1c.out ?_; rw [← HW4.out.2.1, ← HW4.out.1]))
  obtain ⟨w5, hw5⟩ : ∃ w5, w5 = w4.setCell ⟨ib, 18, none⟩ (.slice (some ⟨ob, 0, none⟩) m (m + 4)) := ⟨_, rfl⟩
  rw [← hw5]
  have hbelow3 := H3.out.1.size
  have hli : w1.heap.size ≤ ib := by have := HW4.out.2.1; omega
  have hobi : ob < ib := by
    have h1 := HW4.out.2.1
    have h2 := H3.out.2.2.1
    unfold ByteRow at h2
    have := (Array.getElem?_eq_some_iff.1 h2).1
    omega
  have R5 : Hid (RecAt w5 ib r (.slice (some ⟨ob, 0, none⟩) m (m + 4)) ∧ Below w1.heap.size w1 w5 ∧ ByteRow w5 5 ob (body ++ marks 4)) := by
    have hh : w4.heap[ib]? = some (.cells C 34 (0, 0)) := by rw [HW4.out.1, HW4.out.2.1]; exact heap_alloc_last w3 _
    obtain ⟨s1, s2⟩ := set_cells hh 18 (.slice (some ⟨ob, 0, none⟩) m (m + 4))
    have B14 : Below w1.heap.size w1 w4 := H3.out.1.trans (H3.out.2.2.2.mono hbelow3)
    rw [← hw5] at s1 s2
    refine ⟨?_, B14.grown s2 B14.size (fun j hj => by cases hj; exact hli), ?_⟩
    · unfold RecAt
      rw [s1, HC.out.1]
      rfl
    · have h4 : ByteRow w4 5 ob (body ++ marks 4) := by
        unfold ByteRow at *
        exact (H3.out.2.2.2.block ob (Array.getElem?_eq_some_iff.1 H3.out.2.2.1).1).trans H3.out.2.2.1
      exact h4.grown s2 (by omega)
  have HCK : Hid (∀ W, Calls Try.prog 13 #[.agg C2] W fun e w' => e = .returned (.int .i64 (checkE r m)) ∧ Below W.heap.size W w') := by
    rw [HW4.out.2.2.2]
    exact fun W => check_any r _ m _ W
  have HSK : Hid (∀ W, Calls Try.prog 14 #[.agg C2] W fun e w' => e = .returned (.int .i64 (sizeE r m)) ∧ Below W.heap.size W w') := by
    rw [HW4.out.2.2.2]
    exact fun W => size_any r _ m _ W
  have HRC : Hid (∀ W, Calls Try.prog 16 #[.agg C] W fun e w' => e = .returned (.int .i64 (checkE r m)) ∧ Below W.heap.size W w') := by
    rw [HC.out.1]
    intro W
    have := refCheck_any r a m c W
    rw [ref_check] at this
    exact this
  have HRS : Hid (∀ W, Below w1.heap.size w1 W → Calls Try.prog 17 #[.agg C] W fun e w' => e = .returned (.int .i64 (sizeE r m)) ∧ Below W.heap.size W w') := by
    rw [HC.out.1, HM.out]
    intro W hW
    exact refSize_any r body a c W ((HB.out.below R1.out.2).below hW) (by have := HM.out; omega)
  have HST : Hid (∀ W, Below w5.heap.size w5 W → Calls Try.prog 15 #[.slice (some ⟨ob, 0, none⟩) (m + 4) (m + 4), .slice a m c] W fun e w' => e = .returned (.bool true) ∧ Below W.heap.size W w') := by
    rw [HM.out]
    intro W hW
    have hbr : ByteRow W 5 ob (body ++ marks 4) := R5.out.2.2.below hW (by have := R5.out.2.2; unfold ByteRow at this; exact (Array.getElem?_eq_some_iff.1 this).1)
    exact still_any _ _ a c body W (hbr.is 0 _ _ (fun j x hj => by rw [Nat.zero_add]; exact hj) (by simp [marks]) (by unfold maxLen; have := HM.out; omega)) ((HB.out.below R1.out.2).below (R5.out.2.1.trans (hW.mono R5.out.2.1.size)))
  obtain ⟨z, hz⟩ : ∃ z, z = checkE r m := ⟨_, rfl⟩
  obtain ⟨q, hq⟩ : ∃ q, q = sizeE r m := ⟨_, rfl⟩
  rw [← hz] at HCK HRC
  rw [← hq] at HSK HRS
  have hC2s : Hid (C2.size = 19) := by show _ = _; rw [HW4.out.2.2.2]; rfl
  have HC2 := hide HW4.out.2.2.2
  clear hz hq hw5 i18 if18 y18 HW1 HW4 H3 hbelow3 hli hobi h1c HL H2
  have I5 : Hid (RecAt w5 ib r (.slice (some ⟨ob, 0, none⟩) m (m + 4)) ∧ Below w5.heap.size w5 w5) := ⟨R5.out.1, Below.refl _ _⟩
  go_upto_region 6 with (first
    | (refine wpList_load_row rfl 34 (.tmp 5) rfl ib rfl 34 C2 (0, 0) _ (by rw [HC2.out]; exact I5.out.1) under_rec rfl (by rw [hC2s.out]; exact info_rec) ?_)
    | (go_at_call 13; refine (HCK.out _).mono ?_; rintro e w6 ⟨rfl, B6⟩; have I6 := hide (And.intro (I5.out.1.below B6) (I5.out.2.trans (B6.mono I5.out.2.size))); clear B6))
  go_upto_region 7 with (first
    | (refine wpList_load_row rfl 34 (.tmp 5) rfl ib rfl 34 C2 (0, 0) _ (by rw [HC2.out]; exact I6.out.1) under_rec rfl (by rw [hC2s.out]; exact info_rec) ?_)
    | (go_at_call 14; refine (HSK.out _).mono ?_; rintro e w7 ⟨rfl, B7⟩; have I7 := hide (And.intro (I6.out.1.below B7) (I6.out.2.trans (B7.mono I6.out.2.size))); clear B7))
  go_upto_region 8 with (first
    | (refine wpList_load_row rfl 34 (.tmp 5) rfl ib rfl 34 C2 (0, 0) _ (by rw [HC2.out]; exact I7.out.1) under_rec rfl (by rw [hC2s.out]; exact info_rec) ?_)
    | (go_at_call 13; refine (HCK.out _).mono ?_; rintro e w8 ⟨rfl, B8⟩; have I8 := hide (And.intro (I7.out.1.below B8) (I7.out.2.trans (B8.mono I7.out.2.size))); clear B8))
  go_upto_region 9 with (first
    | (refine wpList_load_row rfl 34 (.tmp 5) rfl ib rfl 34 C2 (0, 0) _ (by rw [HC2.out]; exact I8.out.1) under_rec rfl (by rw [hC2s.out]; exact info_rec) ?_)
    | (go_at_call 14; refine (HSK.out _).mono ?_; rintro e w9 ⟨rfl, B9⟩; have I9 := hide (And.intro (I8.out.1.below B9) (I8.out.2.trans (B9.mono I8.out.2.size))); clear B9))
  have J9 : Hid (Below w1.heap.size w1 w9) := R5.out.2.1.trans (I9.out.2.mono R5.out.2.1.size)
  have x18 := S18.out w9 J9.out
  go_wp2_with (first
    | (go_at_call 15; refine (HST.out _ I9.out.2).mono ?_; rintro e w10 ⟨rfl, B10⟩; have J10 := hide (J9.out.trans (B10.mono J9.out.size)); clear B10)
    | (refine wpList_load_row rfl 34 (.tmp 1) rfl rb rfl 34 C (0, 0) _ (by rw [HC.out.1]; first | exact (R1.out.1.below J11.out) | exact (R1.out.1.below J10.out)) under_rec rfl (by rw [HC.out.2]; exact info_rec) ?_)
    | (go_at_call 16; refine (HRC.out _).mono ?_; rintro e w11 ⟨rfl, B11⟩; have J11 := hide (J10.out.trans (B11.mono J10.out.size)); clear B11)
    | (go_at_call 17; refine (HRS.out _ J11.out).mono ?_; rintro e w12 ⟨rfl, B12⟩; have J12 := hide (J11.out.trans (B12.mono J11.out.size)); clear B12))
  go_ret
  exact ⟨by first | rfl | simp, R1.out.2.trans (J12.out.mono R1.out.2.size)⟩
end Go.Proofs.Ytbgldkjjdmacaaa.recordChecks
