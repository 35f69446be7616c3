/-
  The walk of RecordBack.
-/
import Derived.Test.YtgpfomidecihdaaShown
import Derived.Test.YtgpfomidecihdaaSameW
namespace Go.Proofs.Ytgpfomidecihdaa.recordBack
open Go.RowKit

theorem back_sizes {r : Rec} {m : Nat} (h : checkE r m = 0) : (r.kind = 1 ∧ sizeL r m = 17) ∨ (r.kind = 2 ∧ sizeL r m = 106 + r.tube.length + m) ∨ (r.kind = 3 ∧ sizeL r m = 89) ∨ (r.kind = 4 ∧ sizeL r m = 9) := by
  have hk := within_iff.1 (check_ok h).1
  have : r.kind = 1 ∨ r.kind = 2 ∨ r.kind = 3 ∨ r.kind = 4 := by omega
  rcases this with e | e | e | e
  · left; exact ⟨e, by simp [sizeL, fieldsL, e]⟩
  · right; left; exact ⟨e, by simp [sizeL, fieldsL, e]; omega⟩
  · right; right; left; exact ⟨e, by simp [sizeL, fieldsL, e]⟩
  · right; right; right; exact ⟨e, by simp [sizeL, fieldsL, e]⟩

set_option maxHeartbeats 4000000 in
set_option maxRecDepth 1000000 in
theorem walk_no (r : Rec) (a : Option Addr) (cap : Nat) (body : List UInt8) (w : World) (_hb : IsBytes w a cap body) (h0 : checkE r body.length ≠ 0) :
    Calls Try.prog 7 #[.agg (recA r (.slice a body.length cap))] w fun e w' => e = .returned (.bool true) ∧ Below w.heap.size w w' := by
  have CC : Hid (∀ W, Calls Try.prog 13 #[.agg (recA r (.slice a body.length cap))] W fun e w' => e = .returned (.int .i64 (checkE r body.length)) ∧ Below W.heap.size W w') := check_any r a body.length cap
  have CP : Hid (∀ W, Calls Try.prog 18 #[.agg (recA r (.slice a body.length cap))] W fun e w' => e = .returned (.tuple #[.slice none 0 0, .int .i64 (checkE r body.length)]) ∧ Below W.heap.size W w') := fun W => put_no r a body.length cap W h0
  have CS : Hid (∀ W, Calls Try.prog 14 #[.agg (recA r (.slice a body.length cap))] W fun e w' => e = .returned (.int .i64 0) ∧ Below W.heap.size W w') := fun W => by
    have := size_any r a body.length cap W
    rw [sizeE, if_neg h0] at this
    exact this
  have R0 : Hid (RecAt (w.alloc (.cells (recA r (.slice a body.length cap)) 34)) w.heap.size r (.slice a body.length cap)) := RecAt.new _ _ _
  obtain ⟨C, hC⟩ : ∃ C, C = recA r (.slice a body.length cap) := ⟨_, rfl⟩
  have HSZ : Hid (C.size = 19) := by show C.size = 19; rw [hC]; rfl
  have HC : Hid (C = recA r (.slice a body.length cap)) := hC
  rw [← hC] at CC CP CS R0 ⊢
  obtain ⟨z, hz⟩ : ∃ z, z = checkE r body.length := ⟨_, rfl⟩
  rw [← hz] at CC CP h0
  have hzb : (z != 0) = true := by simpa using h0
  clear hC hz h0
  go_enter Try.func7, Try.ntmps7
  go_wp2_with (first
    | (go_at_call 9
       refine (shown_any _).mono ?_
       rintro e w1 ⟨rfl, B1⟩
       have BX1 : Hid (Below w.heap.size w w1) := below_box B1
       have R1 : Hid (RecAt w1 w.heap.size r (.slice a body.length cap)) := R0.out.below B1
       clear B1)
    | (go_at_call 13
       refine (CC.out _).mono ?_
       rintro e w2 ⟨rfl, B2⟩
       have BX2 : Hid (Below w.heap.size w w2) := BX1.out.trans (B2.mono BX1.out.size)
       have R2 : Hid (RecAt w2 w.heap.size r (.slice a body.length cap)) := R1.out.below B2
       clear B2)
    | (go_at_call 18
       refine (CP.out _).mono ?_
       rintro e w3 ⟨rfl, B3⟩
       have BX3 : Hid (Below w.heap.size w w3) := BX2.out.trans (B3.mono BX2.out.size)
       have R3 : Hid (RecAt w3 w.heap.size r (.slice a body.length cap)) := R2.out.below B3
       clear B3)
    | (go_at_call 14
       refine (CS.out _).mono ?_
       rintro e w4 ⟨rfl, B4⟩
       have BX4 : Hid (Below w.heap.size w w4) := BX3.out.trans (B4.mono BX3.out.size)
       clear B4)
    | (refine wpList_load_row rfl 34 (.tmp 1) rfl w.heap.size rfl 34 C (0, 0) _ (by rw [HC.out]; first | exact R3.out | exact R2.out | exact R1.out) under_rec rfl (by rw [HSZ.out]; exact info_rec) ?_))
  go_ret
  exact ⟨rfl, BX4.out⟩

set_option maxHeartbeats 4000000 in
set_option maxRecDepth 1000000 in
theorem walk_1 (r : Rec) (a : Option Addr) (cap : Nat) (body : List UInt8) (w : World) (hb : IsBytes w a cap body) (h0 : checkE r body.length = 0) (hk : r.kind = 1) :
    Calls Try.prog 7 #[.agg (recA r (.slice a body.length cap))] w fun e w' => e = .returned (.bool true) ∧ Below w.heap.size w w' := by
  have CC : Hid (∀ W, Calls Try.prog 13 #[.agg (recA r (.slice a body.length cap))] W fun e w' => e = .returned (.int .i64 0) ∧ Below W.heap.size W w') := by
    have := check_any r a body.length cap
    rw [h0] at this
    exact this
  have CP : Hid (∀ W, Below w.heap.size w W → Calls Try.prog 18 #[.agg (recA r (.slice a body.length cap))] W fun e w' => ∃ a2 c2, e = .returned (.tuple #[.slice a2 (sizeL r body.length) c2, .int .i64 0]) ∧ IsBytes w' a2 c2 (putL r body) ∧ Below W.heap.size W w') := fun W hW => by
    refine (put_yes r a cap body W (hb.below hW) h0).mono ?_
    rintro e w' ⟨v, rfl, o, hB⟩
    obtain ⟨a2, c2, rfl, hi⟩ := o.shape
    exact ⟨a2, c2, by rw [put_length], hi, hB⟩
  have CS : Hid (∀ W, Calls Try.prog 14 #[.agg (recA r (.slice a body.length cap))] W fun e w' => e = .returned (.int .i64 (8 + (sizeL r body.length : Int))) ∧ Below W.heap.size W w') := fun W => by
    have := size_any r a body.length cap W
    rw [sizeE, if_pos h0] at this
    exact this
  obtain ⟨X, hX1, hX2, hX3, hX4⟩ := put_get r body h0
  have CG : Hid (∀ W a2 c2, IsBytes W a2 c2 (putL r body) → Calls Try.prog 22 #[.slice a2 (sizeL r body.length) c2] W fun e w' => ∃ a3 c3, e = .returned (.tuple #[.agg (recA X (.slice a3 body.length c3)), .int .i64 0]) ∧ IsBytes w' a3 c3 body ∧ Below W.heap.size W w') := fun W a2 c2 hI => by
    have := get_any a2 c2 (putL r body) W hI
    rw [put_length] at this
    refine this.mono ?_
    rintro e w' ⟨hB, ⟨h, _⟩ | ⟨x, body', v, h, rfl, o⟩⟩
    · rw [hX1] at h; cases h
    · rw [hX1] at h
      simp only [Option.some.injEq, Prod.mk.injEq] at h
      obtain ⟨rfl, rfl⟩ := h
      obtain ⟨a3, c3, rfl, hi⟩ := o.shape
      exact ⟨a3, c3, rfl, hi, hB⟩
  have CM : Hid (∀ W a3 c3, IsBytes W a3 c3 body → IsBytes W a cap body → Calls Try.prog 24 #[.agg (recA X (.slice a3 body.length c3)), .agg (recA r (.slice a body.length cap))] W fun e w' => e = .returned (.bool true) ∧ Below W.heap.size W w') := fun W a3 c3 h1 h2 => same_any r X a3 a c3 cap body W h1 h2 hX2 hX3 hX4
  have hs := check_small h0
  have hsz : sizeL r body.length = 17 := by rcases back_sizes h0 with ⟨e, h⟩ | ⟨e, h⟩ | ⟨e, h⟩ | ⟨e, h⟩ <;> first | exact h | (exfalso; omega)
  have htz := tube_size r.tube
  have R0 : Hid (RecAt (w.alloc (.cells (recA r (.slice a body.length cap)) 34)) w.heap.size r (.slice a body.length cap)) := RecAt.new _ _ _
  obtain ⟨n, hn⟩ : ∃ n, n = sizeL r body.length := ⟨_, rfl⟩
  rw [← hn] at CP CS CG hsz
  obtain ⟨tl, htl⟩ : ∃ tl, tl = r.tube.length := ⟨_, rfl⟩
  rw [← htl] at hs htz
  obtain ⟨m, hm⟩ : ∃ m, m = body.length := ⟨_, rfl⟩
  rw [← hm] at CC CP CS CG CM hs R0 ⊢
  obtain ⟨C, hC⟩ : ∃ C, C = recA r (.slice a m cap) := ⟨_, rfl⟩
  have HSZ : Hid (C.size = 19) := by show C.size = 19; rw [hC]; rfl
  have HC : Hid (C = recA r (.slice a m cap)) := hC
  rw [← hC] at CC CP CS CM R0 ⊢
  have HB : Hid (IsBytes w a cap body) := hb
  have e1 : (r.kind == 1) = true := by rw [hk]; rfl
  have HQ : Hid (8 + (n : Int) = 25) := by show 8 + (n : Int) = 25; omega
  have hs1 : (tl : Int) ≤ 200 := by omega
  have hs2 : (m : Int) ≤ 65535 := by omega
  have hs3 : (n : Int) ≤ 65841 := by omega
  clear hC hn htl hm hb h0 hX1 hX2 hX3 hX4 hsz hs hk
  go_enter Try.func7, Try.ntmps7
  go_wp2_with (first
    | (go_at_call 9
       refine (shown_any _).mono ?_
       rintro e w1 ⟨rfl, B1⟩
       have BX1 : Hid (Below w.heap.size w w1) := below_box B1
       have R1 : Hid (RecAt w1 w.heap.size r (.slice a m cap)) := R0.out.below B1
       clear B1)
    | (go_at_call 13
       refine (CC.out _).mono ?_
       rintro e w2 ⟨rfl, B2⟩
       have BX2 : Hid (Below w.heap.size w w2) := BX1.out.trans (B2.mono BX1.out.size)
       have R2 : Hid (RecAt w2 w.heap.size r (.slice a m cap)) := R1.out.below B2
       clear B2)
    | (go_at_call 18
       refine (CP.out _ BX2.out).mono ?_
       rintro e w3 ⟨a2, c2, rfl, i3, B3⟩
       have BX3 : Hid (Below w.heap.size w w3) := BX2.out.trans (B3.mono BX2.out.size)
       have R3 : Hid (RecAt w3 w.heap.size r (.slice a m cap)) := R2.out.below B3
       have I3 : Hid (IsBytes w3 a2 c2 (putL r body)) := i3
       clear B3 i3)
    | (go_at_call 14
       refine (CS.out _).mono ?_
       rintro e w4 ⟨rfl, B4⟩
       have BX4 : Hid (Below w.heap.size w w4) := BX3.out.trans (B4.mono BX3.out.size)
       have R4 : Hid (RecAt w4 w.heap.size r (.slice a m cap)) := R3.out.below B4
       have I4 : Hid (IsBytes w4 a2 c2 (putL r body)) := I3.out.below B4
       clear B4)
    | (go_at_call 22
       refine (CG.out _ _ _ I4.out).mono ?_
       rintro e w5 ⟨a3, c3, rfl, i5, B5⟩
       have BX5 : Hid (Below w.heap.size w w5) := BX4.out.trans (B5.mono BX4.out.size)
       have R5 : Hid (RecAt w5 w.heap.size r (.slice a m cap)) := R4.out.below B5
       have I5 : Hid (IsBytes w5 a3 c3 body) := i5
       clear B5 i5
       obtain ⟨D, hD⟩ : ∃ D, D = recA X (.slice a3 m c3) := ⟨_, rfl⟩
       rw [← hD]
       have HD : Hid (D = recA X (.slice a3 m c3)) := hD
       have HD1 : Hid (D.all (·.oneCell') = true ∧ D.size = 19) := ⟨by rw [hD]; exact rec_one _ _ _ _, by rw [hD]; rfl⟩
       clear hD)
    | (refine wpList_store_new rfl 34 (.tmp 8) (.tmp 41) rfl D rfl rfl 34 _ (by rw [HD1.out.2]; exact info_rec) (by rw [HD1.out.2]; rfl) HD1.out.1 ?_)
    | (refine wpList_load_row rfl 34 (.tmp 8) rfl w5.heap.size rfl 34 D (0, 0) _ (heap_alloc_last _ _) under_rec rfl (by rw [HD1.out.2]; exact info_rec) ?_)
    | (refine wpList_load_row rfl 34 (.tmp 1) rfl w.heap.size rfl 34 C (0, 0) _ (by rw [HC.out]; first | exact R5.out.below ((Below.refl _ _).alloc (Nat.le_refl _) _) | exact R3.out | exact R2.out | exact R1.out) under_rec rfl (by rw [HSZ.out]; exact info_rec) ?_)
    | (go_at_call 24
       rw [HD.out]
       refine (CM.out _ a3 c3 (I5.out.below ((Below.refl _ w5).alloc (Nat.le_refl _) _)) (HB.out.below (BX5.out.trans (((Below.refl _ w5).alloc (Nat.le_refl _) _).mono BX5.out.size)))).mono ?_
       rw [← HD.out]
       rintro e w6 ⟨rfl, B6⟩
       have Bz : Below w5.heap.size w5 w6 := below_box B6
       have BX6 : Hid (Below w.heap.size w w6) := BX5.out.trans (Bz.mono BX5.out.size)
       have R6 := R5.out.below Bz
       have k0 := R6.kind
       have k17 := R6.tube
       have k18 := R6.body
       clear B6 Bz R6))
  all_goals first
    | (go_ret; exact ⟨rfl, BX6.out⟩)
    | (go_ret; exact ⟨congrArg (fun b => Ending.returned (Value.bool b)) (decide_eq_true (by omega)), BX6.out⟩)
    | (exfalso; have := HQ.out; omega)
    | (exfalso; have := HQ.out; simp_all; done)

set_option maxHeartbeats 4000000 in
set_option maxRecDepth 1000000 in
theorem walk_2 (r : Rec) (a : Option Addr) (cap : Nat) (body : List UInt8) (w : World) (hb : IsBytes w a cap body) (h0 : checkE r body.length = 0) (hk : r.kind = 2) :
    Calls Try.prog 7 #[.agg (recA r (.slice a body.length cap))] w fun e w' => e = .returned (.bool true) ∧ Below w.heap.size w w' := by
  have CC : Hid (∀ W, Calls Try.prog 13 #[.agg (recA r (.slice a body.length cap))] W fun e w' => e = .returned (.int .i64 0) ∧ Below W.heap.size W w') := by
    have := check_any r a body.length cap
    rw [h0] at this
    exact this
  have CP : Hid (∀ W, Below w.heap.size w W → Calls Try.prog 18 #[.agg (recA r (.slice a body.length cap))] W fun e w' => ∃ a2 c2, e = .returned (.tuple #[.slice a2 (sizeL r body.length) c2, .int .i64 0]) ∧ IsBytes w' a2 c2 (putL r body) ∧ Below W.heap.size W w') := fun W hW => by
    refine (put_yes r a cap body W (hb.below hW) h0).mono ?_
    rintro e w' ⟨v, rfl, o, hB⟩
    obtain ⟨a2, c2, rfl, hi⟩ := o.shape
    exact ⟨a2, c2, by rw [put_length], hi, hB⟩
  have CS : Hid (∀ W, Calls Try.prog 14 #[.agg (recA r (.slice a body.length cap))] W fun e w' => e = .returned (.int .i64 (8 + (sizeL r body.length : Int))) ∧ Below W.heap.size W w') := fun W => by
    have := size_any r a body.length cap W
    rw [sizeE, if_pos h0] at this
    exact this
  obtain ⟨X, hX1, hX2, hX3, hX4⟩ := put_get r body h0
  have CG : Hid (∀ W a2 c2, IsBytes W a2 c2 (putL r body) → Calls Try.prog 22 #[.slice a2 (sizeL r body.length) c2] W fun e w' => ∃ a3 c3, e = .returned (.tuple #[.agg (recA X (.slice a3 body.length c3)), .int .i64 0]) ∧ IsBytes w' a3 c3 body ∧ Below W.heap.size W w') := fun W a2 c2 hI => by
    have := get_any a2 c2 (putL r body) W hI
    rw [put_length] at this
    refine this.mono ?_
    rintro e w' ⟨hB, ⟨h, _⟩ | ⟨x, body', v, h, rfl, o⟩⟩
    · rw [hX1] at h; cases h
    · rw [hX1] at h
      simp only [Option.some.injEq, Prod.mk.injEq] at h
      obtain ⟨rfl, rfl⟩ := h
      obtain ⟨a3, c3, rfl, hi⟩ := o.shape
      exact ⟨a3, c3, rfl, hi, hB⟩
  have CM : Hid (∀ W a3 c3, IsBytes W a3 c3 body → IsBytes W a cap body → Calls Try.prog 24 #[.agg (recA X (.slice a3 body.length c3)), .agg (recA r (.slice a body.length cap))] W fun e w' => e = .returned (.bool true) ∧ Below W.heap.size W w') := fun W a3 c3 h1 h2 => same_any r X a3 a c3 cap body W h1 h2 hX2 hX3 hX4
  have hs := check_small h0
  have hsz : sizeL r body.length = 106 + r.tube.length + body.length := by rcases back_sizes h0 with ⟨e, h⟩ | ⟨e, h⟩ | ⟨e, h⟩ | ⟨e, h⟩ <;> first | exact h | (exfalso; omega)
  have htz := tube_size r.tube
  have R0 : Hid (RecAt (w.alloc (.cells (recA r (.slice a body.length cap)) 34)) w.heap.size r (.slice a body.length cap)) := RecAt.new _ _ _
  obtain ⟨n, hn⟩ : ∃ n, n = sizeL r body.length := ⟨_, rfl⟩
  rw [← hn] at CP CS CG hsz
  obtain ⟨tl, htl⟩ : ∃ tl, tl = r.tube.length := ⟨_, rfl⟩
  rw [← htl] at hs htz
  rw [← htl] at hsz
  obtain ⟨m, hm⟩ : ∃ m, m = body.length := ⟨_, rfl⟩
  rw [← hm] at CC CP CS CG CM hs R0 ⊢
  rw [← hm] at hsz
  obtain ⟨C, hC⟩ : ∃ C, C = recA r (.slice a m cap) := ⟨_, rfl⟩
  have HSZ : Hid (C.size = 19) := by show C.size = 19; rw [hC]; rfl
  have HC : Hid (C = recA r (.slice a m cap)) := hC
  rw [← hC] at CC CP CS CM R0 ⊢
  have HB : Hid (IsBytes w a cap body) := hb
  have e1 : (r.kind == 1) = false := by rw [hk]; rfl
  have e3 : (r.kind == 3) = false := by rw [hk]; rfl
  have e4 : (r.kind == 4) = false := by rw [hk]; rfl
  have HQ : Hid (8 + (n : Int) = 114 + (tl : Int) + (m : Int)) := by show 8 + (n : Int) = 114 + (tl : Int) + (m : Int); omega
  have hs1 : (tl : Int) ≤ 200 := by omega
  have hs2 : (m : Int) ≤ 65535 := by omega
  have hs3 : (n : Int) ≤ 65841 := by omega
  clear hC hn htl hm hb h0 hX1 hX2 hX3 hX4 hsz hs hk
  go_enter Try.func7, Try.ntmps7
  go_wp2_with (first
    | (go_at_call 9
       refine (shown_any _).mono ?_
       rintro e w1 ⟨rfl, B1⟩
       have BX1 : Hid (Below w.heap.size w w1) := below_box B1
       have R1 : Hid (RecAt w1 w.heap.size r (.slice a m cap)) := R0.out.below B1
       clear B1)
    | (go_at_call 13
       refine (CC.out _).mono ?_
       rintro e w2 ⟨rfl, B2⟩
       have BX2 : Hid (Below w.heap.size w w2) := BX1.out.trans (B2.mono BX1.out.size)
       have R2 : Hid (RecAt w2 w.heap.size r (.slice a m cap)) := R1.out.below B2
       clear B2)
    | (go_at_call 18
       refine (CP.out _ BX2.out).mono ?_
       rintro e w3 ⟨a2, c2, rfl, i3, B3⟩
       have BX3 : Hid (Below w.heap.size w w3) := BX2.out.trans (B3.mono BX2.out.size)
       have R3 : Hid (RecAt w3 w.heap.size r (.slice a m cap)) := R2.out.below B3
       have I3 : Hid (IsBytes w3 a2 c2 (putL r body)) := i3
       clear B3 i3)
    | (go_at_call 14
       refine (CS.out _).mono ?_
       rintro e w4 ⟨rfl, B4⟩
       have BX4 : Hid (Below w.heap.size w w4) := BX3.out.trans (B4.mono BX3.out.size)
       have R4 : Hid (RecAt w4 w.heap.size r (.slice a m cap)) := R3.out.below B4
       have I4 : Hid (IsBytes w4 a2 c2 (putL r body)) := I3.out.below B4
       clear B4)
    | (go_at_call 22
       refine (CG.out _ _ _ I4.out).mono ?_
       rintro e w5 ⟨a3, c3, rfl, i5, B5⟩
       have BX5 : Hid (Below w.heap.size w w5) := BX4.out.trans (B5.mono BX4.out.size)
       have R5 : Hid (RecAt w5 w.heap.size r (.slice a m cap)) := R4.out.below B5
       have I5 : Hid (IsBytes w5 a3 c3 body) := i5
       clear B5 i5
       obtain ⟨D, hD⟩ : ∃ D, D = recA X (.slice a3 m c3) := ⟨_, rfl⟩
       rw [← hD]
       have HD : Hid (D = recA X (.slice a3 m c3)) := hD
       have HD1 : Hid (D.all (·.oneCell') = true ∧ D.size = 19) := ⟨by rw [hD]; exact rec_one _ _ _ _, by rw [hD]; rfl⟩
       clear hD)
    | (refine wpList_store_new rfl 34 (.tmp 8) (.tmp 41) rfl D rfl rfl 34 _ (by rw [HD1.out.2]; exact info_rec) (by rw [HD1.out.2]; rfl) HD1.out.1 ?_)
    | (refine wpList_load_row rfl 34 (.tmp 8) rfl w5.heap.size rfl 34 D (0, 0) _ (heap_alloc_last _ _) under_rec rfl (by rw [HD1.out.2]; exact info_rec) ?_)
    | (refine wpList_load_row rfl 34 (.tmp 1) rfl w.heap.size rfl 34 C (0, 0) _ (by rw [HC.out]; first | exact R5.out.below ((Below.refl _ _).alloc (Nat.le_refl _) _) | exact R3.out | exact R2.out | exact R1.out) under_rec rfl (by rw [HSZ.out]; exact info_rec) ?_)
    | (go_at_call 24
       rw [HD.out]
       refine (CM.out _ a3 c3 (I5.out.below ((Below.refl _ w5).alloc (Nat.le_refl _) _)) (HB.out.below (BX5.out.trans (((Below.refl _ w5).alloc (Nat.le_refl _) _).mono BX5.out.size)))).mono ?_
       rw [← HD.out]
       rintro e w6 ⟨rfl, B6⟩
       have Bz : Below w5.heap.size w5 w6 := below_box B6
       have BX6 : Hid (Below w.heap.size w w6) := BX5.out.trans (Bz.mono BX5.out.size)
       have R6 := R5.out.below Bz
       have k0 := R6.kind
       have k17 := R6.tube
       have k18 := R6.body
       clear B6 Bz R6))
  all_goals first
    | (go_ret; exact ⟨rfl, BX6.out⟩)
    | (go_ret; exact ⟨congrArg (fun b => Ending.returned (Value.bool b)) (decide_eq_true (by omega)), BX6.out⟩)
    | (exfalso; have := HQ.out; omega)
    | (exfalso; have := HQ.out; simp_all; done)

set_option maxHeartbeats 4000000 in
set_option maxRecDepth 1000000 in
theorem walk_3 (r : Rec) (a : Option Addr) (cap : Nat) (body : List UInt8) (w : World) (hb : IsBytes w a cap body) (h0 : checkE r body.length = 0) (hk : r.kind = 3) :
    Calls Try.prog 7 #[.agg (recA r (.slice a body.length cap))] w fun e w' => e = .returned (.bool true) ∧ Below w.heap.size w w' := by
  have CC : Hid (∀ W, Calls Try.prog 13 #[.agg (recA r (.slice a body.length cap))] W fun e w' => e = .returned (.int .i64 0) ∧ Below W.heap.size W w') := by
    have := check_any r a body.length cap
    rw [h0] at this
    exact this
  have CP : Hid (∀ W, Below w.heap.size w W → Calls Try.prog 18 #[.agg (recA r (.slice a body.length cap))] W fun e w' => ∃ a2 c2, e = .returned (.tuple #[.slice a2 (sizeL r body.length) c2, .int .i64 0]) ∧ IsBytes w' a2 c2 (putL r body) ∧ Below W.heap.size W w') := fun W hW => by
    refine (put_yes r a cap body W (hb.below hW) h0).mono ?_
    rintro e w' ⟨v, rfl, o, hB⟩
    obtain ⟨a2, c2, rfl, hi⟩ := o.shape
    exact ⟨a2, c2, by rw [put_length], hi, hB⟩
  have CS : Hid (∀ W, Calls Try.prog 14 #[.agg (recA r (.slice a body.length cap))] W fun e w' => e = .returned (.int .i64 (8 + (sizeL r body.length : Int))) ∧ Below W.heap.size W w') := fun W => by
    have := size_any r a body.length cap W
    rw [sizeE, if_pos h0] at this
    exact this
  obtain ⟨X, hX1, hX2, hX3, hX4⟩ := put_get r body h0
  have CG : Hid (∀ W a2 c2, IsBytes W a2 c2 (putL r body) → Calls Try.prog 22 #[.slice a2 (sizeL r body.length) c2] W fun e w' => ∃ a3 c3, e = .returned (.tuple #[.agg (recA X (.slice a3 body.length c3)), .int .i64 0]) ∧ IsBytes w' a3 c3 body ∧ Below W.heap.size W w') := fun W a2 c2 hI => by
    have := get_any a2 c2 (putL r body) W hI
    rw [put_length] at this
    refine this.mono ?_
    rintro e w' ⟨hB, ⟨h, _⟩ | ⟨x, body', v, h, rfl, o⟩⟩
    · rw [hX1] at h; cases h
    · rw [hX1] at h
      simp only [Option.some.injEq, Prod.mk.injEq] at h
      obtain ⟨rfl, rfl⟩ := h
      obtain ⟨a3, c3, rfl, hi⟩ := o.shape
      exact ⟨a3, c3, rfl, hi, hB⟩
  have CM : Hid (∀ W a3 c3, IsBytes W a3 c3 body → IsBytes W a cap body → Calls Try.prog 24 #[.agg (recA X (.slice a3 body.length c3)), .agg (recA r (.slice a body.length cap))] W fun e w' => e = .returned (.bool true) ∧ Below W.heap.size W w') := fun W a3 c3 h1 h2 => same_any r X a3 a c3 cap body W h1 h2 hX2 hX3 hX4
  have hs := check_small h0
  have hsz : sizeL r body.length = 89 := by rcases back_sizes h0 with ⟨e, h⟩ | ⟨e, h⟩ | ⟨e, h⟩ | ⟨e, h⟩ <;> first | exact h | (exfalso; omega)
  have htz := tube_size r.tube
  have R0 : Hid (RecAt (w.alloc (.cells (recA r (.slice a body.length cap)) 34)) w.heap.size r (.slice a body.length cap)) := RecAt.new _ _ _
  obtain ⟨n, hn⟩ : ∃ n, n = sizeL r body.length := ⟨_, rfl⟩
  rw [← hn] at CP CS CG hsz
  obtain ⟨tl, htl⟩ : ∃ tl, tl = r.tube.length := ⟨_, rfl⟩
  rw [← htl] at hs htz
  obtain ⟨m, hm⟩ : ∃ m, m = body.length := ⟨_, rfl⟩
  rw [← hm] at CC CP CS CG CM hs R0 ⊢
  obtain ⟨C, hC⟩ : ∃ C, C = recA r (.slice a m cap) := ⟨_, rfl⟩
  have HSZ : Hid (C.size = 19) := by show C.size = 19; rw [hC]; rfl
  have HC : Hid (C = recA r (.slice a m cap)) := hC
  rw [← hC] at CC CP CS CM R0 ⊢
  have HB : Hid (IsBytes w a cap body) := hb
  have e1 : (r.kind == 1) = false := by rw [hk]; rfl
  have e3 : (r.kind == 3) = true := by rw [hk]; rfl
  have HQ : Hid (8 + (n : Int) = 97) := by show 8 + (n : Int) = 97; omega
  have hs1 : (tl : Int) ≤ 200 := by omega
  have hs2 : (m : Int) ≤ 65535 := by omega
  have hs3 : (n : Int) ≤ 65841 := by omega
  clear hC hn htl hm hb h0 hX1 hX2 hX3 hX4 hsz hs hk
  go_enter Try.func7, Try.ntmps7
  go_wp2_with (first
    | (go_at_call 9
       refine (shown_any _).mono ?_
       rintro e w1 ⟨rfl, B1⟩
       have BX1 : Hid (Below w.heap.size w w1) := below_box B1
       have R1 : Hid (RecAt w1 w.heap.size r (.slice a m cap)) := R0.out.below B1
       clear B1)
    | (go_at_call 13
       refine (CC.out _).mono ?_
       rintro e w2 ⟨rfl, B2⟩
       have BX2 : Hid (Below w.heap.size w w2) := BX1.out.trans (B2.mono BX1.out.size)
       have R2 : Hid (RecAt w2 w.heap.size r (.slice a m cap)) := R1.out.below B2
       clear B2)
    | (go_at_call 18
       refine (CP.out _ BX2.out).mono ?_
       rintro e w3 ⟨a2, c2, rfl, i3, B3⟩
       have BX3 : Hid (Below w.heap.size w w3) := BX2.out.trans (B3.mono BX2.out.size)
       have R3 : Hid (RecAt w3 w.heap.size r (.slice a m cap)) := R2.out.below B3
       have I3 : Hid (IsBytes w3 a2 c2 (putL r body)) := i3
       clear B3 i3)
    | (go_at_call 14
       refine (CS.out _).mono ?_
       rintro e w4 ⟨rfl, B4⟩
       have BX4 : Hid (Below w.heap.size w w4) := BX3.out.trans (B4.mono BX3.out.size)
       have R4 : Hid (RecAt w4 w.heap.size r (.slice a m cap)) := R3.out.below B4
       have I4 : Hid (IsBytes w4 a2 c2 (putL r body)) := I3.out.below B4
       clear B4)
    | (go_at_call 22
       refine (CG.out _ _ _ I4.out).mono ?_
       rintro e w5 ⟨a3, c3, rfl, i5, B5⟩
       have BX5 : Hid (Below w.heap.size w w5) := BX4.out.trans (B5.mono BX4.out.size)
       have R5 : Hid (RecAt w5 w.heap.size r (.slice a m cap)) := R4.out.below B5
       have I5 : Hid (IsBytes w5 a3 c3 body) := i5
       clear B5 i5
       obtain ⟨D, hD⟩ : ∃ D, D = recA X (.slice a3 m c3) := ⟨_, rfl⟩
       rw [← hD]
       have HD : Hid (D = recA X (.slice a3 m c3)) := hD
       have HD1 : Hid (D.all (·.oneCell') = true ∧ D.size = 19) := ⟨by rw [hD]; exact rec_one _ _ _ _, by rw [hD]; rfl⟩
       clear hD)
    | (refine wpList_store_new rfl 34 (.tmp 8) (.tmp 41) rfl D rfl rfl 34 _ (by rw [HD1.out.2]; exact info_rec) (by rw [HD1.out.2]; rfl) HD1.out.1 ?_)
    | (refine wpList_load_row rfl 34 (.tmp 8) rfl w5.heap.size rfl 34 D (0, 0) _ (heap_alloc_last _ _) under_rec rfl (by rw [HD1.out.2]; exact info_rec) ?_)
    | (refine wpList_load_row rfl 34 (.tmp 1) rfl w.heap.size rfl 34 C (0, 0) _ (by rw [HC.out]; first | exact R5.out.below ((Below.refl _ _).alloc (Nat.le_refl _) _) | exact R3.out | exact R2.out | exact R1.out) under_rec rfl (by rw [HSZ.out]; exact info_rec) ?_)
    | (go_at_call 24
       rw [HD.out]
       refine (CM.out _ a3 c3 (I5.out.below ((Below.refl _ w5).alloc (Nat.le_refl _) _)) (HB.out.below (BX5.out.trans (((Below.refl _ w5).alloc (Nat.le_refl _) _).mono BX5.out.size)))).mono ?_
       rw [← HD.out]
       rintro e w6 ⟨rfl, B6⟩
       have Bz : Below w5.heap.size w5 w6 := below_box B6
       have BX6 : Hid (Below w.heap.size w w6) := BX5.out.trans (Bz.mono BX5.out.size)
       have R6 := R5.out.below Bz
       have k0 := R6.kind
       have k17 := R6.tube
       have k18 := R6.body
       clear B6 Bz R6))
  all_goals first
    | (go_ret; exact ⟨rfl, BX6.out⟩)
    | (go_ret; exact ⟨congrArg (fun b => Ending.returned (Value.bool b)) (decide_eq_true (by omega)), BX6.out⟩)
    | (exfalso; have := HQ.out; omega)
    | (exfalso; have := HQ.out; simp_all; done)

set_option maxHeartbeats 4000000 in
set_option maxRecDepth 1000000 in
theorem walk_4 (r : Rec) (a : Option Addr) (cap : Nat) (body : List UInt8) (w : World) (hb : IsBytes w a cap body) (h0 : checkE r body.length = 0) (hk : r.kind = 4) :
    Calls Try.prog 7 #[.agg (recA r (.slice a body.length cap))] w fun e w' => e = .returned (.bool true) ∧ Below w.heap.size w w' := by
  have CC : Hid (∀ W, Calls Try.prog 13 #[.agg (recA r (.slice a body.length cap))] W fun e w' => e = .returned (.int .i64 0) ∧ Below W.heap.size W w') := by
    have := check_any r a body.length cap
    rw [h0] at this
    exact this
  have CP : Hid (∀ W, Below w.heap.size w W → Calls Try.prog 18 #[.agg (recA r (.slice a body.length cap))] W fun e w' => ∃ a2 c2, e = .returned (.tuple #[.slice a2 (sizeL r body.length) c2, .int .i64 0]) ∧ IsBytes w' a2 c2 (putL r body) ∧ Below W.heap.size W w') := fun W hW => by
    refine (put_yes r a cap body W (hb.below hW) h0).mono ?_
    rintro e w' ⟨v, rfl, o, hB⟩
    obtain ⟨a2, c2, rfl, hi⟩ := o.shape
    exact ⟨a2, c2, by rw [put_length], hi, hB⟩
  have CS : Hid (∀ W, Calls Try.prog 14 #[.agg (recA r (.slice a body.length cap))] W fun e w' => e = .returned (.int .i64 (8 + (sizeL r body.length : Int))) ∧ Below W.heap.size W w') := fun W => by
    have := size_any r a body.length cap W
    rw [sizeE, if_pos h0] at this
    exact this
  obtain ⟨X, hX1, hX2, hX3, hX4⟩ := put_get r body h0
  have CG : Hid (∀ W a2 c2, IsBytes W a2 c2 (putL r body) → Calls Try.prog 22 #[.slice a2 (sizeL r body.length) c2] W fun e w' => ∃ a3 c3, e = .returned (.tuple #[.agg (recA X (.slice a3 body.length c3)), .int .i64 0]) ∧ IsBytes w' a3 c3 body ∧ Below W.heap.size W w') := fun W a2 c2 hI => by
    have := get_any a2 c2 (putL r body) W hI
    rw [put_length] at this
    refine this.mono ?_
    rintro e w' ⟨hB, ⟨h, _⟩ | ⟨x, body', v, h, rfl, o⟩⟩
    · rw [hX1] at h; cases h
    · rw [hX1] at h
      simp only [Option.some.injEq, Prod.mk.injEq] at h
      obtain ⟨rfl, rfl⟩ := h
      obtain ⟨a3, c3, rfl, hi⟩ := o.shape
      exact ⟨a3, c3, rfl, hi, hB⟩
  have CM : Hid (∀ W a3 c3, IsBytes W a3 c3 body → IsBytes W a cap body → Calls Try.prog 24 #[.agg (recA X (.slice a3 body.length c3)), .agg (recA r (.slice a body.length cap))] W fun e w' => e = .returned (.bool true) ∧ Below W.heap.size W w') := fun W a3 c3 h1 h2 => same_any r X a3 a c3 cap body W h1 h2 hX2 hX3 hX4
  have hs := check_small h0
  have hsz : sizeL r body.length = 9 := by rcases back_sizes h0 with ⟨e, h⟩ | ⟨e, h⟩ | ⟨e, h⟩ | ⟨e, h⟩ <;> first | exact h | (exfalso; omega)
  have htz := tube_size r.tube
  have R0 : Hid (RecAt (w.alloc (.cells (recA r (.slice a body.length cap)) 34)) w.heap.size r (.slice a body.length cap)) := RecAt.new _ _ _
  obtain ⟨n, hn⟩ : ∃ n, n = sizeL r body.length := ⟨_, rfl⟩
  rw [← hn] at CP CS CG hsz
  obtain ⟨tl, htl⟩ : ∃ tl, tl = r.tube.length := ⟨_, rfl⟩
  rw [← htl] at hs htz
  obtain ⟨m, hm⟩ : ∃ m, m = body.length := ⟨_, rfl⟩
  rw [← hm] at CC CP CS CG CM hs R0 ⊢
  obtain ⟨C, hC⟩ : ∃ C, C = recA r (.slice a m cap) := ⟨_, rfl⟩
  have HSZ : Hid (C.size = 19) := by show C.size = 19; rw [hC]; rfl
  have HC : Hid (C = recA r (.slice a m cap)) := hC
  rw [← hC] at CC CP CS CM R0 ⊢
  have HB : Hid (IsBytes w a cap body) := hb
  have e1 : (r.kind == 1) = false := by rw [hk]; rfl
  have e3 : (r.kind == 3) = false := by rw [hk]; rfl
  have e4 : (r.kind == 4) = true := by rw [hk]; rfl
  have HQ : Hid (8 + (n : Int) = 17) := by show 8 + (n : Int) = 17; omega
  have hs1 : (tl : Int) ≤ 200 := by omega
  have hs2 : (m : Int) ≤ 65535 := by omega
  have hs3 : (n : Int) ≤ 65841 := by omega
  clear hC hn htl hm hb h0 hX1 hX2 hX3 hX4 hsz hs hk
  go_enter Try.func7, Try.ntmps7
  go_wp2_with (first
    | (go_at_call 9
       refine (shown_any _).mono ?_
       rintro e w1 ⟨rfl, B1⟩
       have BX1 : Hid (Below w.heap.size w w1) := below_box B1
       have R1 : Hid (RecAt w1 w.heap.size r (.slice a m cap)) := R0.out.below B1
       clear B1)
    | (go_at_call 13
       refine (CC.out _).mono ?_
       rintro e w2 ⟨rfl, B2⟩
       have BX2 : Hid (Below w.heap.size w w2) := BX1.out.trans (B2.mono BX1.out.size)
       have R2 : Hid (RecAt w2 w.heap.size r (.slice a m cap)) := R1.out.below B2
       clear B2)
    | (go_at_call 18
       refine (CP.out _ BX2.out).mono ?_
       rintro e w3 ⟨a2, c2, rfl, i3, B3⟩
       have BX3 : Hid (Below w.heap.size w w3) := BX2.out.trans (B3.mono BX2.out.size)
       have R3 : Hid (RecAt w3 w.heap.size r (.slice a m cap)) := R2.out.below B3
       have I3 : Hid (IsBytes w3 a2 c2 (putL r body)) := i3
       clear B3 i3)
    | (go_at_call 14
       refine (CS.out _).mono ?_
       rintro e w4 ⟨rfl, B4⟩
       have BX4 : Hid (Below w.heap.size w w4) := BX3.out.trans (B4.mono BX3.out.size)
       have R4 : Hid (RecAt w4 w.heap.size r (.slice a m cap)) := R3.out.below B4
       have I4 : Hid (IsBytes w4 a2 c2 (putL r body)) := I3.out.below B4
       clear B4)
    | (go_at_call 22
       refine (CG.out _ _ _ I4.out).mono ?_
       rintro e w5 ⟨a3, c3, rfl, i5, B5⟩
       have BX5 : Hid (Below w.heap.size w w5) := BX4.out.trans (B5.mono BX4.out.size)
       have R5 : Hid (RecAt w5 w.heap.size r (.slice a m cap)) := R4.out.below B5
       have I5 : Hid (IsBytes w5 a3 c3 body) := i5
       clear B5 i5
       obtain ⟨D, hD⟩ : ∃ D, D = recA X (.slice a3 m c3) := ⟨_, rfl⟩
       rw [← hD]
       have HD : Hid (D = recA X (.slice a3 m c3)) := hD
       have HD1 : Hid (D.all (·.oneCell') = true ∧ D.size = 19) := ⟨by rw [hD]; exact rec_one _ _ _ _, by rw [hD]; rfl⟩
       clear hD)
    | (refine wpList_store_new rfl 34 (.tmp 8) (.tmp 41) rfl D rfl rfl 34 _ (by rw [HD1.out.2]; exact info_rec) (by rw [HD1.out.2]; rfl) HD1.out.1 ?_)
    | (refine wpList_load_row rfl 34 (.tmp 8) rfl w5.heap.size rfl 34 D (0, 0) _ (heap_alloc_last _ _) under_rec rfl (by rw [HD1.out.2]; exact info_rec) ?_)
    | (refine wpList_load_row rfl 34 (.tmp 1) rfl w.heap.size rfl 34 C (0, 0) _ (by rw [HC.out]; first | exact R5.out.below ((Below.refl _ _).alloc (Nat.le_refl _) _) | exact R3.out | exact R2.out | exact R1.out) under_rec rfl (by rw [HSZ.out]; exact info_rec) ?_)
    | (go_at_call 24
       rw [HD.out]
       refine (CM.out _ a3 c3 (I5.out.below ((Below.refl _ w5).alloc (Nat.le_refl _) _)) (HB.out.below (BX5.out.trans (((Below.refl _ w5).alloc (Nat.le_refl _) _).mono BX5.out.size)))).mono ?_
       rw [← HD.out]
       rintro e w6 ⟨rfl, B6⟩
       have Bz : Below w5.heap.size w5 w6 := below_box B6
       have BX6 : Hid (Below w.heap.size w w6) := BX5.out.trans (Bz.mono BX5.out.size)
       have R6 := R5.out.below Bz
       have k0 := R6.kind
       have k17 := R6.tube
       have k18 := R6.body
       clear B6 Bz R6))
  all_goals first
    | (go_ret; exact ⟨rfl, BX6.out⟩)
    | (go_ret; exact ⟨congrArg (fun b => Ending.returned (Value.bool b)) (decide_eq_true (by omega)), BX6.out⟩)
    | (exfalso; have := HQ.out; omega)
    | (exfalso; have := HQ.out; simp_all; done)

theorem walk (r : Rec) (a : Option Addr) (cap : Nat) (body : List UInt8) (w : World) (hb : IsBytes w a cap body ∧ r.tube.length ≤ maxLen ∧ -9223372036854775808 ≤ r.kind ∧ r.kind ≤ 9223372036854775807) :
    Calls Try.prog 7 #[.agg (recA r (.slice a body.length cap))] w fun e w' => e = .returned (.bool true) ∧ Below w.heap.size w w' := by
  by_cases h0 : checkE r body.length = 0
  · rcases back_sizes h0 with ⟨e, _⟩ | ⟨e, _⟩ | ⟨e, _⟩ | ⟨e, _⟩
    · exact walk_1 r a cap body w hb.1 h0 e
    · exact walk_2 r a cap body w hb.1 h0 e
    · exact walk_3 r a cap body w hb.1 h0 e
    · exact walk_4 r a cap body w hb.1 h0 e
  · exact walk_no r a cap body w hb.1 h0
end Go.Proofs.Ytgpfomidecihdaa.recordBack
