/-
  The walk of the statement on numbers.
-/
import Derived.Test.YtipbphflboooeabDoorShown
import Derived.Test.YtipbphflboooeabDoorPlainNumbers
import Derived.Test.YtipbphflboooeabDoorBytes
import Derived.Maps.AppendAt
import Derived.Deep.DeepMust
import Derived.Lib.ItoaLen
namespace Go.Proofs.YtipbphflboooeabDoor.digitsNumbers
open Go.RowKit

theorem info_u8 : (Tryd.prog.info? 5).map (fun i => (i.zero, i.size, i.bytes)) = some (some (.int .u8 0), 1, 1) := by kernel_rfl

/-- k zeros. -/
def zs (k : Nat) : List UInt8 := List.replicate k 48
theorem zs_length (k : Nat) : (zs k).length = k := by simp [zs]
theorem zs_succ (k : Nat) : u8s (zs (k + 1)) = u8s (zs k) ++ [.int .u8 48] := by simp [zs, u8s, List.replicate_succ']
theorem cat_list (k u : Nat) : ((⟨(zs k).toArray⟩ : ByteArray) ++ ⟨(Lib.decDigits u).toArray⟩).data.toList = List.replicate k 48 ++ Lib.decDigits u := by
  simp [zs]

set_option maxHeartbeats 400000 in
theorem walk_neg (n most zeros : Int) (w : World) (hn : -9223372036854775808 ≤ n ∧ n ≤ 9223372036854775807) (hneg : n < 0) (htab : Lib.TabIs Tryd.prog w "internal/strconv.uint64pow10" .u64 Lib.pow10Tab) :
    Calls Tryd.prog 3 #[.int .i64 n, .int .i64 most, .int .i64 zeros] w fun e w' => e = .returned (.bool true) ∧ Below w.heap.size w w' := by
  have HT : Hid (Lib.TabIs Tryd.prog w "internal/strconv.uint64pow10" .u64 Lib.pow10Tab) := htab
  clear htab
  obtain ⟨hn0, hn1⟩ := hn
  go_enter Tryd.func3, Tryd.ntmps3
  go_wp2_with fail
  refine (shown_any _ HT.out).mono ?_
  rintro e w1 ⟨rfl, hb1⟩
  go_wp2_with fail
  refine (print_any n _ hn0 hn1 (tab_below hb1 HT.out)).mono ?_
  rintro e w2 ⟨rfl, hb2⟩
  rw [printL, if_pos hneg]
  go_wp2
  go_ret
  exact ⟨rfl, hb1.trans (hb2.mono hb1.size)⟩

set_option maxHeartbeats 1000000 in
set_option maxRecDepth 1000000 in
theorem walk_nat (u : Nat) (most zeros : Int) (w : World) (hn1 : (u : Int) ≤ 9223372036854775807) (hm : -9223372036854775808 ≤ most ∧ most ≤ 9223372036854775807) (hz : -9223372036854775808 ≤ zeros ∧ zeros ≤ 9223372036854775807)
    (htab : Lib.TabIs Tryd.prog w "internal/strconv.uint64pow10" .u64 Lib.pow10Tab) :
    Calls Tryd.prog 3 #[.int .i64 u, .int .i64 most, .int .i64 zeros] w fun e w' => e = .returned (.bool true) ∧ Below w.heap.size w w' := by
  have HT : Hid (Lib.TabIs Tryd.prog w "internal/strconv.uint64pow10" .u64 Lib.pow10Tab) := htab
  clear htab
  obtain ⟨hm0, hm1⟩ := hm
  obtain ⟨hz0, hz1⟩ := hz
  obtain ⟨i0, hi, hq0, hq1, hq2⟩ := info_parts info_u8
  go_enter Tryd.func3, Tryd.ntmps3
  go_wp2_with fail
  refine (shown_any _ HT.out).mono ?_
  rintro e w1 ⟨rfl, hb1⟩
  go_wp2_with fail
  refine (print_any u _ (by omega) hn1 (tab_below hb1 HT.out)).mono ?_
  rintro e w2 ⟨rfl, hb2⟩
  have hB2 : Below w.heap.size w w2 := hb1.trans (hb2.mono hb1.size)
  rw [printL, if_neg (by omega), Lib.itoa_nonneg]
  clear hb1 hb2 HT
  have hlen : (Lib.decDigits u).length ≤ 20 := by rw [Lib.decDigits_length]; exact Lib.nDigits_le20 u (by omega)
  have hdu : decide ((u : Int) < 0) = false := by simp
  by_cases hneg : zeros < 0
  · go_wp2
    have hZ0 : 0 ≤ -(zeros + 1) := by omega
    have hZ1 : -(zeros + 1) ≤ 9223372036854775807 := by omega
    generalize -(zeros + 1) = Z at hZ0 hZ1 ⊢
    go_loopw [9, 10] (fun v i wr => ∃ k : Nat, (k : Int) ≤ Z % 300 ∧ i = .int .i64 k ∧ wr.ownsRow w2.heap.size 5 1 v (zs k).length (u8s (zs k)) ∧ Below w2.heap.size w2 wr) (fun _ i _ => 300 - (intOf i).toNat)
    case atStart => exact ⟨0, by omega, rfl, World.ownsRow_lit _ _ _ (by omega) (by decide) (by simp), (Below.refl _ _).alloc (Nat.le_refl _) _⟩
    case round =>
      obtain ⟨k, hk, rfl, hown, hb⟩ := hrel
      rw [zs_length] at hown
      by_cases hlt : (k : Int) < Z % 300
      · go_wp2_with (at_builtin; go_must (refine wpList_append_own _ rfl _ _ 24 rfl w2.heap.size 5 i0 (.int .u8 0) 1 1 Tryd.underlying24 hi hq0 hq1 hq2 rfl (by decide) _ _ _ rfl (hown.alloc _) ⟨wr.heap.size, 0, none⟩ 1 1 [.int .u8 48] rfl rfl (cell_one_new _ _ _) (by intro x hx; simp at hx; subst hx; rfl) (by unfold maxLen; omega) (by omega) (by have := hb.size; simp; omega) ?_; intro v3 w3 hown3 hgrow3 hnil3))
        go_roundw
        case rel =>
          have hX := hown.alloc (.cells #[.int .u8 48] 5)
          exact ⟨k + 1, by omega, by go_num, by rw [zs_length, zs_succ]; exact hown3, (hb.alloc hb.size _).grown hgrow3 (by have := hb.size; simp; omega) (fun j hj => (hX.lt j hj).1)⟩
        case measure => simp [intOf]; omega
      · have hconv := conv_own (zs k) (by rw [zs_length]; exact hown)
        have hbw := hB2.trans (hb.mono hB2.size)
        clear hown hb hB2
        have hzl : (zs k).length ≤ 300 := by rw [zs_length]; omega
        by_cases hmu : (u : Int) ≤ most
        · have P1 := parsed most k u
          rw [if_pos hmu, decide_eq_true hmu] at P1
          have P2 := parsed u 0 u
          rw [if_pos (Int.le_refl _), decide_eq_true (Int.le_refl _), List.replicate_zero, List.nil_append] at P2
          have P3 := parsed (u - 1) 0 u
          rw [if_neg (by omega), decide_eq_false (by omega), List.replicate_zero, List.nil_append] at P3
          have H1 : Hid (parseV (List.replicate k 48 ++ Lib.decDigits u) most = u ∧ parseB (List.replicate k 48 ++ Lib.decDigits u) most = true) := P1
          have H2 : Hid (parseV (Lib.decDigits u) u = u ∧ parseB (Lib.decDigits u) u = true) := P2
          have H3 : Hid (parseV (Lib.decDigits u) (u - 1) = 0 ∧ parseB (Lib.decDigits u) (u - 1) = false) := P3
          clear P1 P2 P3
          go_wp2_with fail
          refine (parse_any _ most _ hm0 hm1).mono ?_
          rintro e w4 ⟨rfl, p4, rfl⟩
          rw [cat_list, H1.out.1, H1.out.2]
          go_wp2_with fail
          refine (parse_any _ u _ (by omega) hn1).mono ?_
          rintro e w5 ⟨rfl, p5, rfl⟩
          rw [List.toList_toArray, H2.out.1, H2.out.2]
          go_wp2_with fail
          refine (parse_any _ (u - 1) _ (by omega) (by omega)).mono ?_
          rintro e w6 ⟨rfl, p6, rfl⟩
          rw [List.toList_toArray, H3.out.1, H3.out.2]
          have huu : ((u : Int) == (u : Int)) = true := by simp
          go_wp2
          go_ret
          exact ⟨rfl, ((hbw.alloc hbw.size _).alloc (by have := hbw.size; simp; omega) _).alloc (by have := hbw.size; simp; omega) _⟩
        · have P1 := parsed most k u
          rw [if_neg hmu, decide_eq_false hmu] at P1
          have P2 := parsed u 0 u
          rw [if_pos (Int.le_refl _), decide_eq_true (Int.le_refl _), List.replicate_zero, List.nil_append] at P2
          have P3 := parsed (u - 1) 0 u
          rw [if_neg (by omega), decide_eq_false (by omega), List.replicate_zero, List.nil_append] at P3
          have H1 : Hid (parseV (List.replicate k 48 ++ Lib.decDigits u) most = 0 ∧ parseB (List.replicate k 48 ++ Lib.decDigits u) most = false) := P1
          have H2 : Hid (parseV (Lib.decDigits u) u = u ∧ parseB (Lib.decDigits u) u = true) := P2
          have H3 : Hid (parseV (Lib.decDigits u) (u - 1) = 0 ∧ parseB (Lib.decDigits u) (u - 1) = false) := P3
          clear P1 P2 P3
          have hmu' : most < (u : Int) := by omega
          go_wp2_with fail
          refine (parse_any _ most _ hm0 hm1).mono ?_
          rintro e w4 ⟨rfl, p4, rfl⟩
          rw [cat_list, H1.out.1, H1.out.2]
          go_wp2_with fail
          refine (parse_any _ u _ (by omega) hn1).mono ?_
          rintro e w5 ⟨rfl, p5, rfl⟩
          rw [List.toList_toArray, H2.out.1, H2.out.2]
          go_wp2_with fail
          refine (parse_any _ (u - 1) _ (by omega) (by omega)).mono ?_
          rintro e w6 ⟨rfl, p6, rfl⟩
          rw [List.toList_toArray, H3.out.1, H3.out.2]
          have huu : ((u : Int) == (u : Int)) = true := by simp
          go_wp2
          go_ret
          exact ⟨rfl, ((hbw.alloc hbw.size _).alloc (by have := hbw.size; simp; omega) _).alloc (by have := hbw.size; simp; omega) _⟩
  · have hneg' : decide (zeros < 0) = false := by simp; omega
    go_wp2
    have hZ0 : 0 ≤ zeros := by omega
    have hZ1 : zeros ≤ 9223372036854775807 := by omega
    clear hneg
    generalize hZe : zeros = Z at hZ0 hZ1 hneg' ⊢
    go_loopw [9, 10] (fun v i wr => ∃ k : Nat, (k : Int) ≤ Z % 300 ∧ i = .int .i64 k ∧ wr.ownsRow w2.heap.size 5 1 v (zs k).length (u8s (zs k)) ∧ Below w2.heap.size w2 wr) (fun _ i _ => 300 - (intOf i).toNat)
    case atStart => exact ⟨0, by omega, rfl, World.ownsRow_lit _ _ _ (by omega) (by decide) (by simp), (Below.refl _ _).alloc (Nat.le_refl _) _⟩
    case round =>
      obtain ⟨k, hk, rfl, hown, hb⟩ := hrel
      rw [zs_length] at hown
      by_cases hlt : (k : Int) < Z % 300
      · go_wp2_with (at_builtin; go_must (refine wpList_append_own _ rfl _ _ 24 rfl w2.heap.size 5 i0 (.int .u8 0) 1 1 Tryd.underlying24 hi hq0 hq1 hq2 rfl (by decide) _ _ _ rfl (hown.alloc _) ⟨wr.heap.size, 0, none⟩ 1 1 [.int .u8 48] rfl rfl (cell_one_new _ _ _) (by intro x hx; simp at hx; subst hx; rfl) (by unfold maxLen; omega) (by omega) (by have := hb.size; simp; omega) ?_; intro v3 w3 hown3 hgrow3 hnil3))
        go_roundw
        case rel =>
          have hX := hown.alloc (.cells #[.int .u8 48] 5)
          exact ⟨k + 1, by omega, by go_num, by rw [zs_length, zs_succ]; exact hown3, (hb.alloc hb.size _).grown hgrow3 (by have := hb.size; simp; omega) (fun j hj => (hX.lt j hj).1)⟩
        case measure => simp [intOf]; omega
      · have hconv := conv_own (zs k) (by rw [zs_length]; exact hown)
        have hbw := hB2.trans (hb.mono hB2.size)
        clear hown hb hB2
        have hzl : (zs k).length ≤ 300 := by rw [zs_length]; omega
        by_cases hmu : (u : Int) ≤ most
        · have P1 := parsed most k u
          rw [if_pos hmu, decide_eq_true hmu] at P1
          have P2 := parsed u 0 u
          rw [if_pos (Int.le_refl _), decide_eq_true (Int.le_refl _), List.replicate_zero, List.nil_append] at P2
          have P3 := parsed (u - 1) 0 u
          rw [if_neg (by omega), decide_eq_false (by omega), List.replicate_zero, List.nil_append] at P3
          have H1 : Hid (parseV (List.replicate k 48 ++ Lib.decDigits u) most = u ∧ parseB (List.replicate k 48 ++ Lib.decDigits u) most = true) := P1
          have H2 : Hid (parseV (Lib.decDigits u) u = u ∧ parseB (Lib.decDigits u) u = true) := P2
          have H3 : Hid (parseV (Lib.decDigits u) (u - 1) = 0 ∧ parseB (Lib.decDigits u) (u - 1) = false) := P3
          clear P1 P2 P3
          go_wp2_with fail
          refine (parse_any _ most _ hm0 hm1).mono ?_
          rintro e w4 ⟨rfl, p4, rfl⟩
          rw [cat_list, H1.out.1, H1.out.2]
          go_wp2_with fail
          refine (parse_any _ u _ (by omega) hn1).mono ?_
          rintro e w5 ⟨rfl, p5, rfl⟩
          rw [List.toList_toArray, H2.out.1, H2.out.2]
          go_wp2_with fail
          refine (parse_any _ (u - 1) _ (by omega) (by omega)).mono ?_
          rintro e w6 ⟨rfl, p6, rfl⟩
          rw [List.toList_toArray, H3.out.1, H3.out.2]
          have huu : ((u : Int) == (u : Int)) = true := by simp
          go_wp2
          go_ret
          exact ⟨rfl, ((hbw.alloc hbw.size _).alloc (by have := hbw.size; simp; omega) _).alloc (by have := hbw.size; simp; omega) _⟩
        · have P1 := parsed most k u
          rw [if_neg hmu, decide_eq_false hmu] at P1
          have P2 := parsed u 0 u
          rw [if_pos (Int.le_refl _), decide_eq_true (Int.le_refl _), List.replicate_zero, List.nil_append] at P2
          have P3 := parsed (u - 1) 0 u
          rw [if_neg (by omega), decide_eq_false (by omega), List.replicate_zero, List.nil_append] at P3
          have H1 : Hid (parseV (List.replicate k 48 ++ Lib.decDigits u) most = 0 ∧ parseB (List.replicate k 48 ++ Lib.decDigits u) most = false) := P1
          have H2 : Hid (parseV (Lib.decDigits u) u = u ∧ parseB (Lib.decDigits u) u = true) := P2
          have H3 : Hid (parseV (Lib.decDigits u) (u - 1) = 0 ∧ parseB (Lib.decDigits u) (u - 1) = false) := P3
          clear P1 P2 P3
          have hmu' : most < (u : Int) := by omega
          go_wp2_with fail
          refine (parse_any _ most _ hm0 hm1).mono ?_
          rintro e w4 ⟨rfl, p4, rfl⟩
          rw [cat_list, H1.out.1, H1.out.2]
          go_wp2_with fail
          refine (parse_any _ u _ (by omega) hn1).mono ?_
          rintro e w5 ⟨rfl, p5, rfl⟩
          rw [List.toList_toArray, H2.out.1, H2.out.2]
          go_wp2_with fail
          refine (parse_any _ (u - 1) _ (by omega) (by omega)).mono ?_
          rintro e w6 ⟨rfl, p6, rfl⟩
          rw [List.toList_toArray, H3.out.1, H3.out.2]
          have huu : ((u : Int) == (u : Int)) = true := by simp
          go_wp2
          go_ret
          exact ⟨rfl, ((hbw.alloc hbw.size _).alloc (by have := hbw.size; simp; omega) _).alloc (by have := hbw.size; simp; omega) _⟩

theorem walk (n most zeros : Int) (w : World) (hn : -9223372036854775808 ≤ n ∧ n ≤ 9223372036854775807) (hm : -9223372036854775808 ≤ most ∧ most ≤ 9223372036854775807) (hz : -9223372036854775808 ≤ zeros ∧ zeros ≤ 9223372036854775807)
    (htab : Lib.TabIs Tryd.prog w "internal/strconv.uint64pow10" .u64 Lib.pow10Tab) :
    Calls Tryd.prog 3 #[.int .i64 n, .int .i64 most, .int .i64 zeros] w fun e w' => e = .returned (.bool true) ∧ Below w.heap.size w w' := by
  by_cases h : n < 0
  · exact walk_neg n most zeros w hn h htab
  · obtain ⟨u, rfl⟩ := Int.eq_ofNat_of_zero_le (show 0 ≤ n by omega)
    exact walk_nat u most zeros w hn.2 hm hz htab
end Go.Proofs.YtipbphflboooeabDoor.digitsNumbers
