/-
  ShownA0, ShownA.
-/
import Derived.Test.YtomgnailgddchaaDoorJC
import Derived.Test.YtomgnailgddchaaDoorPutA
import Derived.Test.YtomgnailgddchaaDoorJM
import Derived.Lib.SmallJoins
namespace Go.Proofs.YtomgnailgddchaaDoor
open Go.RowKit
def r3 : Rp := ⟨3, 7, 0, [], [97, 98]⟩
def r14 : Rp := ⟨14, 0, 0, [], []⟩
def kix : List UInt8 := [75, 73, 67, 75, 69, 68, 32, 49, 50, 13, 10, 75, 73, 88]
theorem dec7 : decL 7 = [55] := dec_small (u := 7) (by decide)
theorem dec2 : decL 2 = [50] := dec_small (u := 2) (by decide)
theorem r3_ok : checkE r3 = 0 := by decide
theorem r14_ok : checkE r14 = 0 := by decide
theorem r3_put : putL r3 = [82, 69, 83, 69, 82, 86, 69, 68, 32, 55, 32, 50, 13, 10, 97, 98, 13, 10] := by
  show wordOf 3 ++ (((32 :: decL 7) ++ [] ++ []) ++ (32 :: decL 2)) ++ [13, 10] ++ ([97, 98] ++ [13, 10]) = _
  rw [dec7, dec2]
  rfl
theorem r14_put : putL r14 = [75, 73, 67, 75, 69, 68, 13, 10] := by rfl
theorem kix_read : readP kix = (⟨13, 0, 12, [], []⟩, 11, 0) := by kernel_rfl
theorem kix_scan : scan kix = (11, 3) := by decide +kernel
theorem kix_held : ((heldN kix 11 : Nat) : Int) = 3 := by decide +kernel
end Go.Proofs.YtomgnailgddchaaDoor

namespace Go.Proofs.YtomgnailgddchaaDoor
open Go.RowKit

theorem conv_new (W : World) (C : Array Value) (n c : Nat) : (convert 34 34 (.slice (some ⟨W.heap.size, 0, none⟩) n c)).run Tryd.prog (W.alloc (.cells C 5)) = .ok (.slice (some ⟨W.heap.size, 0, none⟩) n c) (W.alloc (.cells C 5 (C.size, C.size + 1))) :=
  Lib.run_convert_bytes_const (P := Tryd.prog) W 34 5 C n c Tryd.underlying34 Tryd.underlying5
theorem const_is {W : World} {g : Nat} {x : Nat × Nat} (l : List UInt8) (h : W.heap[g]? = some (.cells (u8s l).toArray 5 x)) (hl : l.length ≤ 100) : IsBytes W (some ⟨g, 0, none⟩) l.length l := by
  refine ⟨Nat.le_refl _, by unfold maxLen; omega, .inr ⟨g, 0, rfl, (Array.getElem?_eq_some_iff.1 h).1, fun j x hj => ?_⟩⟩
  rw [Nat.zero_add]
  simp [World.cell?, h, u8s_get, hj]

set_option maxHeartbeats 4000000 in
set_option maxRecDepth 1000000 in
theorem shown_any (w : World) (hT : Tabs w) (h5 : 5 ≤ w.heap.size) :
    Calls Tryd.prog 5 #[] w fun e w' => e = .returned (.bool true) ∧ Below w.heap.size w w' := by
  have HT := hide hT
  clear hT
  obtain ⟨w1, hw1⟩ : ∃ w1, w1 = w.alloc (.cells #[.int .u8 97, .int .u8 98] 5) := ⟨_, rfl⟩
  have HW1 := hide hw1
  have B1 : Below w.heap.size w w1 := by rw [hw1]; exact (Below.refl _ w).alloc (Nat.le_refl _) _
  have I1 : IsBytes w1 (some ⟨w.heap.size, 0, none⟩) 2 [97, 98] := by rw [hw1]; exact const_is (x := (0, 0)) [97, 98] (heap_alloc_new _ _) (by decide)
  have HB1 := hide B1
  have HI1 := hide I1
  clear hw1 B1 I1
  go_enter Tryd.func5, Tryd.ntmps5
  go_upto_region 2 with (go_at_call 16; rw [← HW1.out]; refine (put_any w1 r3 (some ⟨w.heap.size, 0, none⟩) 2 HI1.out (HT.out.below HB1.out)).mono ?_; rintro x w2 ⟨b2, h2⟩; obtain ⟨v2, rfl, o2⟩ : ∃ v, x = .returned (.tuple #[v, .int .i64 0]) ∧ OwnC w2 w1.heap.size v (putL r3) := (by rcases h2 with ⟨h, _⟩ | ⟨_, h⟩; exact absurd r3_ok h; exact h); clear h2)
  have HO2 := hide o2
  have HB2 : Hid (Below w.heap.size w w2) := HB1.out.trans (b2.mono HB1.out.size)
  clear o2 b2
  go_upto_region 3 with (go_at_call 16; refine (put_any w2 r14 none 0 ⟨by simp [r14], by unfold maxLen; omega, .inl rfl⟩ (HT.out.below HB2.out)).mono ?_; rintro x w3 ⟨b3, h3⟩; obtain ⟨v3, rfl, o3⟩ : ∃ v, x = .returned (.tuple #[v, .int .i64 0]) ∧ OwnC w3 w2.heap.size v (putL r14) := (by rcases h3 with ⟨h, _⟩ | ⟨_, h⟩; exact absurd r14_ok h; exact h); clear h3)
  have HO3 := hide o3
  have HB23 := hide b3
  have HB3 : Hid (Below w.heap.size w w3) := HB2.out.trans (b3.mono HB2.out.size)
  have hs3 : 5 ≤ w3.heap.size := Nat.le_trans h5 HB3.out.size
  clear o3 b3
  go_upto_region 4 with (go_at_call 6; refine (new_rd w3 hs3).mono ?_; rintro x w4 ⟨rfl, r4, b4⟩)
  obtain ⟨rb, hrb⟩ : ∃ rb, rb = w3.heap.size := ⟨_, rfl⟩
  rw [← hrb] at r4 ⊢
  have HR4 := hide r4
  have HB34 := hide b4
  have HB4 : Hid (Below w.heap.size w w4) := HB3.out.trans (b4.mono HB3.out.size)
  have HRB := hide hrb
  have hlr : rb < w4.heap.size := by obtain ⟨s, h1, _⟩ := HR4.out; exact h1.lt
  clear r4 b4 hrb
  obtain ⟨w5, hw5⟩ : ∃ w5, w5 = w4.alloc (.cells #[.int .u8 75, .int .u8 73, .int .u8 67, .int .u8 75, .int .u8 69, .int .u8 68, .int .u8 32, .int .u8 49, .int .u8 50, .int .u8 13, .int .u8 10, .int .u8 75, .int .u8 73, .int .u8 88] 5 (14, 15)) := ⟨_, rfl⟩
  have HW5 := hide hw5
  have B5 : Below w4.heap.size w4 w5 := by rw [hw5]; exact (Below.refl _ w4).alloc (Nat.le_refl _) _
  have I5 : IsBytes w5 (some ⟨w4.heap.size, 0, none⟩) 14 kix := by rw [hw5]; exact const_is (x := (14, 15)) kix (heap_alloc_new _ _) (by decide)
  have HB5 : Hid (Below w.heap.size w w5) := HB4.out.trans (B5.mono HB4.out.size)
  have HI5 := hide I5
  have HR5 : Hid (RdAt w5 rb (.slice none 0 0) [] 0) := HR4.out.below B5
  have HB45 := hide B5
  have kc := conv_new w4 #[.int .u8 75, .int .u8 73, .int .u8 67, .int .u8 75, .int .u8 69, .int .u8 68, .int .u8 32, .int .u8 49, .int .u8 50, .int .u8 13, .int .u8 10, .int .u8 75, .int .u8 73, .int .u8 88] 14 14
  clear hw5 B5 I5
  go_upto_region 7 with (go_at_call 17; rw [← HW5.out]; refine (feed_any w5 rb (.slice none 0 0) [] kix 0 (some ⟨w4.heap.size, 0, none⟩) 14 HR5.out HI5.out (by decide) (HT.out.below HB5.out)).mono ?_; rintro x w6 ⟨rfl, W6⟩)
  obtain ⟨v6, r6, K6, m6⟩ := W6
  have HR6 : Hid (RdAt w6 rb v6 kix 0) := r6
  have HM6 : Hid (∀ k, Mine rb v6 k → rb ≤ k) := fun k hk => by
    rcases m6 k hk with h | h
    · rcases h with rfl | h
      · exact Nat.le_refl _
      · cases h
    · have := HB45.out.size; omega
  have HK6 : Hid (Kept (fun k => rb ≤ k) w5 w6) := K6.mono (fun k _ h => by rcases h with rfl | h; exact Nat.le_refl _; cases h)
  have HB6 : Hid (Below w3.heap.size w3 w6) := by
    have h1 := HB34.out.trans (HB45.out.mono HB34.out.size)
    exact h1.trans (HK6.out.below h1.size (fun k hk e => by have := HRB.out; omega))
  have HB06 : Hid (Below w.heap.size w w6) := HB3.out.trans (HB6.out.mono HB3.out.size)
  clear r6 K6 m6 kc
  have hk0 : (0 : Nat) < (scan kix).1 := by rw [kix_scan]; decide
  go_upto_region 8 with (go_at_call 18; refine (next_any w6 rb v6 kix 0 HR6.out (by decide) (HT.out.below HB06.out)).mono ?_; rintro x w7 h7; obtain ⟨a7, c7, rfl, W7⟩ : ∃ a' c', x = .returned (.tuple #[.agg #[.int .i64 13, .int .i64 0, .int .i64 12, .string ⟨#[]⟩, .slice a' 0 c'], .bool true, .int .i64 0]) ∧ Went w6 rb v6 kix 11 w7 := (by rcases h7 with ⟨_, a', c', h, _, h2⟩ | ⟨h, _⟩; (rw [List.drop_zero, kix_read] at h h2; exact ⟨a', c', h, h2.went⟩); (exact absurd h (by rw [kix_scan]; decide))); clear h7)
  obtain ⟨v7, r7, K7, m7⟩ := W7
  have HB7 : Hid (Below w3.heap.size w3 w7) := HB6.out.trans (K7.below HB6.out.size (fun k hk e => by have := HM6.out k e; have := HRB.out; omega))
  have HM7 : Hid (∀ k, Mine rb v7 k → rb ≤ k) := fun k hk => by
    rcases m7 k hk with h | h
    · exact HM6.out k h
    · have := HB6.out.size; have := HRB.out; omega
  obtain ⟨w8, hw8⟩ : ∃ w8, w8 = w7.alloc (.cells #[.int .i64 13, .int .i64 0, .int .i64 12, .string ⟨#[]⟩, .slice a7 0 c7] 45) := ⟨_, rfl⟩
  obtain ⟨pb, hpb⟩ : ∃ pb, pb = w7.heap.size := ⟨_, rfl⟩
  have B8 : Below w7.heap.size w7 w8 := by rw [hw8]; exact (Below.refl _ w7).alloc (Nat.le_refl _) _
  have g8 : w8.heap[pb]? = some (.cells #[.int .i64 13, .int .i64 0, .int .i64 12, .string ⟨#[]⟩, .slice a7 0 c7] 45 (0, 0)) := by rw [hw8, hpb]; exact heap_alloc_new _ _
  have HR8 : Hid (RdAt w8 rb v7 kix 11) := r7.below B8
  have HB8 : Hid (Below w3.heap.size w3 w8) := HB7.out.trans (B8.mono HB7.out.size)
  have HB08 : Hid (Below w.heap.size w w8) := HB3.out.trans (HB8.out.mono HB3.out.size)
  have HG8 := hide g8
  have hpl : pb < w8.heap.size := (Array.getElem?_eq_some_iff.1 g8).1
  have HPM : Hid (¬ Mine rb v7 pb) := fun hm => by
    obtain ⟨s, h1, h2, _⟩ := r7
    rcases hm with e | e
    · have := h1.lt; omega
    · have := (h2.old pb e).2; omega
  have HW8 := hide hw8
  rw [← hw8, ← hpb]
  have HRL : Hid (pb = w7.heap.size) := hpb
  clear hw8 g8 r7 K7 m7 B8 hpb hk0
  go_upto_region 9 with (go_at_call 18; refine (next_any w8 rb v7 kix 11 HR8.out (by decide) (HT.out.below HB08.out)).mono ?_; rintro x w9 h9; obtain ⟨rfl, W9⟩ : x = .returned (.tuple #[.agg #[.int .i64 0, .int .i64 0, .int .i64 0, .string ⟨#[]⟩, .slice none 0 0], .bool false, .int .i64 82]) ∧ Went w8 rb v7 kix 11 w9 := (by rcases h9 with ⟨h, _⟩ | ⟨_, h, h2⟩; (exact absurd h (by rw [kix_scan]; decide)); (rw [kix_scan] at h; exact ⟨h, h2⟩)); clear h9)
  obtain ⟨v9, r9, K9, m9⟩ := W9
  obtain ⟨w10, hw10⟩ : ∃ w10, w10 = w9.alloc (.cells #[.int .i64 0, .int .i64 0, .int .i64 0, .string ⟨#[]⟩, .slice none 0 0] 45) := ⟨_, rfl⟩
  have B10 : Below w9.heap.size w9 w10 := by rw [hw10]; exact (Below.refl _ w9).alloc (Nat.le_refl _) _
  rw [← hw10]
  have HB9 : Hid (Below w3.heap.size w3 w9) := HB8.out.trans (K9.below HB8.out.size (fun k hk e => by have := HM7.out k e; have := HRB.out; omega))
  have HB10 : Hid (Below w3.heap.size w3 w10) := HB9.out.trans (B10.mono HB9.out.size)
  have HBX : Hid (Below w.heap.size w w10) := HB3.out.trans (HB10.out.mono HB3.out.size)
  have HR10 : Hid (RdAt w10 rb v9 kix 11) := r9.below B10
  have G10 : w10.heap[pb]? = some (.cells #[.int .i64 13, .int .i64 0, .int .i64 12, .string ⟨#[]⟩, .slice a7 0 c7] 45 (0, 0)) :=
    (B10.block pb (Nat.lt_of_lt_of_le hpl K9.size)).trans ((K9.block pb hpl HPM.out).trans HG8.out)
  have g0 : w10.cell? ⟨pb, 0, none⟩ = some (.int .i64 13) := cells_at G10 rfl
  have g2 : w10.cell? ⟨pb, 2, none⟩ = some (.int .i64 12) := cells_at G10 rfl
  have O2 : OwnC w10 w1.heap.size v2 (putL r3) := (HO2.out.below HB23.out).below HB10.out
  have O3 : OwnC w10 w2.heap.size v3 (putL r14) := HO3.out.below HB10.out
  have kv2 : (convert 34 9 v2).run Tryd.prog w10 = .ok (.string ⟨#[82, 69, 83, 69, 82, 86, 69, 68, 32, 55, 32, 50, 13, 10, 97, 98, 13, 10]⟩) w10 := by
    rw [r3_put] at O2
    obtain ⟨a, c, rfl, h, _⟩ := O2.is
    exact conv_is h rfl
  have kv3 : (convert 34 9 v3).run Tryd.prog w10 = .ok (.string ⟨#[75, 73, 67, 75, 69, 68, 13, 10]⟩) w10 := by
    rw [r14_put] at O3
    obtain ⟨a, c, rfl, h, _⟩ := O3.is
    exact conv_is h rfl
  clear hw10 B10 r9 K9 m9 G10 O2 O3
  go_wp2_with (go_at_call 19; refine (held_rd w10 rb v9 kix 11 HR10.out (by decide)).mono ?_; rintro x w11 ⟨rfl, q, rfl⟩; rw [kix_held])
  go_ret
  exact ⟨rfl, HBX.out.trans ⟨rfl, rfl, rfl, Nat.le_refl _, fun _ _ => rfl⟩⟩
end Go.Proofs.YtomgnailgddchaaDoor
