/-
  The walks of Size, CheckConfig.
-/
import Derived.Test.YtjnjaojafimfeaaCheckW
namespace Go.Proofs.Ytjnjaojafimfeaa
open Go.RowKit

theorem under_rec : Try.prog.underlying 34 = some (.struct (Try.prog.fieldsOf 34)) := by kernel_rfl
theorem check_small {r : Rec} {m : Nat} (h : checkE r m = 0) : r.tube.length ≤ 200 ∧ m ≤ 65535 := by
  have ht := (check_ok h).2.2.2
  unfold textB at ht
  split at ht
  · simp only [Bool.and_eq_true, decide_eq_true_eq] at ht
    exact ⟨(valid_len ht.1).2, ht.2⟩
  · simp only [Bool.and_eq_true, beq_iff_eq] at ht
    rw [ht.1, ht.2]
    exact ⟨by simp, by omega⟩
def sizeE (r : Rec) (m : Nat) : Int := if checkE r m = 0 then 8 + (sizeL r m : Int) else 0

set_option maxHeartbeats 1000000 in
set_option maxRecDepth 1000000 in
theorem size_any (r : Rec) (a : Option Addr) (m c : Nat) (w : World) :
    Calls Try.prog 14 #[.agg (recA r (.slice a m c))] w fun e w' => e = .returned (.int .i64 (sizeE r m)) ∧ Below w.heap.size w w' := by
  have R0 : Hid (RecAt (w.alloc (.cells (recA r (.slice a m c)) 34)) w.heap.size r (.slice a m c)) := RecAt.new _ _ _
  have CC : Hid (∀ W, Calls Try.prog 13 #[.agg (recA r (.slice a m c))] W fun e w' => e = .returned (.int .i64 (checkE r m)) ∧ Below W.heap.size W w') := check_any r a m c
  have CP : Hid (checkE r m = 0 → ∀ W, Calls Try.prog 31 #[.agg (recA r (.slice a m c))] W fun e w' => e = .returned (.int .i64 (sizeL r m : Int)) ∧ Below W.heap.size W w') := fun h W => payloadSize_any r a m c W (by have := (check_small h).1; omega) (by have := (check_small h).2; omega)
  have HS : Hid (checkE r m = 0 → (sizeL r m : Int) ≤ 1000000) := by
    intro h
    have h1 := check_small h
    have h2 := fields_len r.kind
    have : sizeL r m ≤ 1000000 := by unfold sizeL; split <;> omega
    omega
  obtain ⟨C, hC⟩ : ∃ C, C = recA r (.slice a m c) := ⟨_, rfl⟩
  have HSZ : Hid (C.size = 19) := by show C.size = 19; rw [hC]; rfl
  have HC : Hid (C = recA r (.slice a m c)) := hC
  rw [← hC] at R0 CC CP ⊢
  clear hC
  obtain ⟨n, hn⟩ : ∃ n, n = sizeL r m := ⟨_, rfl⟩
  rw [← hn] at CP HS
  by_cases h0 : checkE r m = 0
  · have CP := CP.out h0
    have HCP : Hid (∀ W, Calls Try.prog 31 #[.agg C] W fun e w' => e = .returned (.int .i64 (n : Int)) ∧ Below W.heap.size W w') := CP
    have hb := HS.out h0
    have HE : Hid (sizeE r m = 8 + (n : Int)) := by show sizeE r m = _; rw [sizeE, if_pos h0, hn]
    rw [h0] at CC
    clear CP HS hn h0
    go_enter Try.func14, Try.ntmps14
    go_wp2_with (first
      | (go_at_call 13
         refine (CC.out _).mono ?_
         rintro e w1 ⟨rfl, B1⟩
         have BX1 : Hid (Below w.heap.size w w1) := below_box B1
         have R1 : Hid (RecAt w1 w.heap.size r (.slice a m c)) := R0.out.below B1
         clear B1)
      | (go_at_call 31
         refine (HCP.out _).mono ?_
         rintro e w2 ⟨rfl, B2⟩
         have BX2 : Hid (Below w.heap.size w w2) := BX1.out.trans (B2.mono BX1.out.size)
         clear B2)
      | (refine wpList_load_row rfl 34 (.tmp 1) rfl w.heap.size rfl 34 C (0, 0) _ (by first | (rw [HC.out]; exact heap_alloc_last _ _) | (rw [HC.out]; exact R1.out)) under_rec rfl (by rw [HSZ.out]; exact info_rec) ?_))
    go_ret
    exact ⟨by rw [HE.out]; rfl, BX2.out⟩
  · have HE : Hid (sizeE r m = 0) := by show sizeE r m = _; rw [sizeE, if_neg h0]
    obtain ⟨z, hz⟩ : ∃ z, z = checkE r m := ⟨_, rfl⟩
    rw [← hz] at CC h0
    have hzb : (z != 0) = true := by simpa using h0
    clear CP HS hn hz h0
    go_enter Try.func14, Try.ntmps14
    go_wp2_with (first
      | (go_at_call 13
         refine (CC.out _).mono ?_
         rintro e w1 ⟨rfl, B1⟩
         have BX1 : Hid (Below w.heap.size w w1) := below_box B1
         clear B1)
      | (refine wpList_load_row rfl 34 (.tmp 1) rfl w.heap.size rfl 34 C (0, 0) _ (by rw [HC.out]; exact heap_alloc_last _ _) under_rec rfl (by rw [HSZ.out]; exact info_rec) ?_))
    go_ret
    exact ⟨by rw [HE.out]; rfl, BX1.out⟩

def configB (j s q : Int) : Bool := withinB j 1 65535 && withinB s 128 1048576 && withinB q 1024 67108864 && decide (4 * s ≤ q)
def configE (j s q : Int) : Int := if configB j s q = true then 0 else 103
set_option maxHeartbeats 1000000 in
set_option maxRecDepth 1000000 in
theorem checkConfig_any (j s q : Int) (w : World) :
    Calls Try.prog 10 #[.agg #[.int .i64 j, .int .i64 s, .int .i64 q]] w fun e w' => e = .returned (.int .i64 (configE j s q)) ∧ Below w.heap.size w w' := by
  have C1 : Hid (∀ W, Calls Try.prog 25 #[.int .i64 j, .int .i64 1, .int .i64 65535] W fun e w' => e = .returned (.bool (withinB j 1 65535)) ∧ w' = W) := within_any j 1 65535
  have C2 : Hid (∀ W, Calls Try.prog 25 #[.int .i64 s, .int .i64 128, .int .i64 1048576] W fun e w' => e = .returned (.bool (withinB s 128 1048576)) ∧ w' = W) := within_any s 128 1048576
  have C3 : Hid (∀ W, Calls Try.prog 25 #[.int .i64 q, .int .i64 1024, .int .i64 67108864] W fun e w' => e = .returned (.bool (withinB q 1024 67108864)) ∧ w' = W) := within_any q 1024 67108864
  have HS : withinB s 128 1048576 = true → 128 ≤ s ∧ s ≤ 1048576 := within_iff.1
  have HE : Hid (configE j s q = if (withinB j 1 65535 && withinB s 128 1048576 && withinB q 1024 67108864 && decide (4 * s ≤ q)) = true then 0 else 103) := by show configE j s q = _; rfl
  obtain ⟨b1, h1⟩ : ∃ b, b = withinB j 1 65535 := ⟨_, rfl⟩
  obtain ⟨b2, h2⟩ : ∃ b, b = withinB s 128 1048576 := ⟨_, rfl⟩
  obtain ⟨b3, h3⟩ : ∃ b, b = withinB q 1024 67108864 := ⟨_, rfl⟩
  rw [← h1] at C1 HE
  rw [← h2] at C2 HE HS
  rw [← h3] at C3 HE
  clear h1 h2 h3
  have B0 : Hid (Below w.heap.size w (w.alloc (.cells #[.int .i64 j, .int .i64 s, .int .i64 q] 23))) := (Below.refl _ w).alloc (Nat.le_refl _) _
  cases b1
  · go_enter Try.func10, Try.ntmps10
    go_wp2_with (first
      | (go_at_call 25; refine (C1.out _).mono ?_; rintro e w' ⟨rfl, hw'⟩; obtain rfl := hw'.symm))
    go_ret
    exact ⟨by rw [HE.out]; rfl, B0.out⟩
  cases b2
  · go_enter Try.func10, Try.ntmps10
    go_wp2_with (first
      | (go_at_call_of 25 j; refine (C1.out _).mono ?_; rintro e w' ⟨rfl, hw'⟩; obtain rfl := hw'.symm)
      | (go_at_call_of 25 s; refine (C2.out _).mono ?_; rintro e w' ⟨rfl, hw'⟩; obtain rfl := hw'.symm))
    go_ret
    exact ⟨by rw [HE.out]; rfl, B0.out⟩
  have hs := HS rfl
  clear HS
  cases b3
  · go_enter Try.func10, Try.ntmps10
    go_wp2_with (first
      | (go_at_call_of 25 j; refine (C1.out _).mono ?_; rintro e w' ⟨rfl, hw'⟩; obtain rfl := hw'.symm)
      | (go_at_call_of 25 s; refine (C2.out _).mono ?_; rintro e w' ⟨rfl, hw'⟩; obtain rfl := hw'.symm)
      | (go_at_call_of 25 q; refine (C3.out _).mono ?_; rintro e w' ⟨rfl, hw'⟩; obtain rfl := hw'.symm))
    go_ret
    exact ⟨by rw [HE.out]; rfl, B0.out⟩
  by_cases hq : 4 * s ≤ q
  · go_enter Try.func10, Try.ntmps10
    go_wp2_with (first
      | (go_at_call_of 25 j; refine (C1.out _).mono ?_; rintro e w' ⟨rfl, hw'⟩; obtain rfl := hw'.symm)
      | (go_at_call_of 25 s; refine (C2.out _).mono ?_; rintro e w' ⟨rfl, hw'⟩; obtain rfl := hw'.symm)
      | (go_at_call_of 25 q; refine (C3.out _).mono ?_; rintro e w' ⟨rfl, hw'⟩; obtain rfl := hw'.symm))
    go_ret
    exact ⟨by rw [HE.out, decide_eq_true hq]; rfl, B0.out⟩
  · go_enter Try.func10, Try.ntmps10
    go_wp2_with (first
      | (go_at_call_of 25 j; refine (C1.out _).mono ?_; rintro e w' ⟨rfl, hw'⟩; obtain rfl := hw'.symm)
      | (go_at_call_of 25 s; refine (C2.out _).mono ?_; rintro e w' ⟨rfl, hw'⟩; obtain rfl := hw'.symm)
      | (go_at_call_of 25 q; refine (C3.out _).mono ?_; rintro e w' ⟨rfl, hw'⟩; obtain rfl := hw'.symm))
    go_ret
    exact ⟨by rw [HE.out, decide_eq_false (show ¬ 4 * s ≤ q by omega)]; rfl, B0.out⟩
end Go.Proofs.Ytjnjaojafimfeaa
