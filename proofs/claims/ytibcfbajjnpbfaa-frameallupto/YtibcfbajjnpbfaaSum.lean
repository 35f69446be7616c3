/-
  The walks of Sum, frameSum, isWord, isLength.
-/
import Derived.Test.YtibcfbajjnpbfaaStir
import Derived.Test.YtibcfbajjnpbfaaWrite
import Derived.Deep.WholeRow
namespace Go.Proofs.Ytibcfbajjnpbfaa
open Go.RowKit

theorem not_u32 (a : Nat) (ha : a < 4294967296) : bits .xor .u32 IntKind.u32.max (a : Int) = ((a ^^^ 4294967295 : Nat) : Int) := by
  rw [show IntKind.u32.max = ((4294967295 : Nat) : Int) from rfl, xor_u32 _ _ (by decide) ha, Nat.xor_comm]

theorem wrap64_nat (s : Nat) (h : s < 9223372036854775808) : wrap64 (s : Int) = (s : Int) := by unfold wrap64; omega
def wordB (n : Int) : Bool := decide (0 ≤ n ∧ n ≤ 4611686018427387903)
def lenB (n : Int) : Bool := decide (1 ≤ n ∧ n ≤ 66000)
theorem wordB_yes {n : Int} (h : wordB n = true) : 0 ≤ n ∧ n ≤ 4611686018427387903 := of_decide_eq_true h
theorem wordB_mk {n : Nat} (h : n ≤ 4611686018427387903) : wordB (n : Int) = true := decide_eq_true (by omega)
theorem wordB_no {n : Int} (h : wordB n = false) : ¬ (0 ≤ n ∧ n ≤ 4611686018427387903) := of_decide_eq_false h
theorem lenB_yes {n : Int} (h : lenB n = true) : 1 ≤ n ∧ n ≤ 66000 := of_decide_eq_true h
theorem lenB_no {n : Int} (h : lenB n = false) : ¬ (1 ≤ n ∧ n ≤ 66000) := of_decide_eq_false h

set_option maxRecDepth 1000000 in
theorem isWord_any (n : Int) (w : World) : Calls Try.prog 29 #[.int .i64 n] w fun e w' => e = .returned (.bool (wordB n)) ∧ w' = w := by
  by_cases h1 : 0 ≤ n
  · by_cases h2 : n ≤ 4611686018427387903
    · go_enter Try.func29, Try.ntmps29
      go_wp2
      go_ret
      exact ⟨by simp [wordB, h1, h2], rfl⟩
    · go_enter Try.func29, Try.ntmps29
      go_wp2
      go_ret
      exact ⟨by simp [wordB, h2], rfl⟩
  · go_enter Try.func29, Try.ntmps29
    go_wp2
    go_ret
    exact ⟨by rw [show wordB n = false from decide_eq_false (by omega)]; rfl, rfl⟩
set_option maxRecDepth 1000000 in
theorem isLength_any (n : Int) (w : World) : Calls Try.prog 30 #[.int .i64 n] w fun e w' => e = .returned (.bool (lenB n)) ∧ w' = w := by
  by_cases h1 : 1 ≤ n
  · by_cases h2 : n ≤ 66000
    · go_enter Try.func30, Try.ntmps30
      go_wp2
      go_ret
      exact ⟨by simp [lenB, h1, h2], rfl⟩
    · go_enter Try.func30, Try.ntmps30
      go_wp2
      go_ret
      exact ⟨by simp [lenB, h2], rfl⟩
  · go_enter Try.func30, Try.ntmps30
    go_wp2
    go_ret
    exact ⟨by rw [show lenB n = false from decide_eq_false (by omega)]; rfl, rfl⟩

set_option maxHeartbeats 1000000 in
set_option maxRecDepth 1000000 in
theorem sum_any (a : Option Addr) (c : Nat) (l : List UInt8) (w : World) (hl : IsBytes w a c l) :
    Calls Try.prog 11 #[.slice a l.length c] w fun e w' => e = .returned (.int .i64 (Crc.sum l : Nat)) ∧ Below w.heap.size w w' := by
  have HL : Hid (IsBytes w a c l) := hl
  clear hl
  obtain ⟨s, hs⟩ : ∃ s, s = Crc.sum l := ⟨_, rfl⟩
  have hsb : s < 4294967296 := by rw [hs]; exact Crc.sum_lt l
  have e1 : bits .xor .u32 IntKind.u32.max (Crc.reg 4294967295 l : Nat) = (s : Int) := by rw [hs]; exact not_u32 _ (Crc.reg_lt 4294967295 l (by decide))
  have hw64 : wrap64 (s : Int) = (s : Int) := wrap64_nat s (by omega)
  have HS : Hid (s = Crc.sum l) := hs
  clear hs
  go_enter Try.func11, Try.ntmps11
  go_wp2_with (go_at_call 28; refine (stir_any 4294967295 _ _ _ _ (by decide) HL.out).mono ?_; rintro e w1 ⟨rfl, hW⟩; subst hW)
  go_ret
  exact ⟨ret_int (by rw [HS.out]), (Below.refl _ w).alloc (Nat.le_refl _) _⟩

theorem word_row {w : World} {t : TypeId} {g f p : Nat} (h : ByteRow w t g (splice (splice (List.replicate 16 0) 0 (Crc.le 8 f)) 8 (Crc.le 8 p))) : ByteRow w t g (Crc.le 8 f ++ Crc.le 8 p) := by
  have e : splice (splice (List.replicate 16 (0 : UInt8)) 0 (Crc.le 8 f)) 8 (Crc.le 8 p) = Crc.le 8 f ++ Crc.le 8 p := by
    have h1 := Crc.le_length 8 f
    have h2 := Crc.le_length 8 p
    simp only [splice, h1, h2, List.take_zero, List.nil_append]
    rw [List.take_append_of_le_length (by omega), List.take_of_length_le (by omega), List.drop_eq_nil_of_le (by simp [h1])]
    simp
  rwa [e] at h

set_option maxHeartbeats 1000000 in
set_option maxRecDepth 1000000 in
theorem frameSum_any (f p : Nat) (a : Option Addr) (c : Nat) (l : List UInt8) (w : World) (hf : f < 9223372036854775808) (hp : p < 9223372036854775808) (hl : IsBytes w a c l) :
    Calls Try.prog 32 #[.int .i64 f, .int .i64 p, .slice a l.length c] w fun e w' => e = .returned (.int .i64 (Crc.fsum f p l : Nat)) ∧ Below w.heap.size w w' := by
  have HL : Hid (IsBytes w a c l) := hl
  clear hl
  obtain ⟨r, hr⟩ : ∃ r, r = Crc.reg 4294967295 (Crc.le 8 f ++ Crc.le 8 p) := ⟨_, rfl⟩
  have hrb : r < 4294967296 := by rw [hr]; exact Crc.reg_lt _ _ (by decide)
  obtain ⟨s, hs⟩ : ∃ s, s = Crc.fsum f p l := ⟨_, rfl⟩
  have hsb : s < 4294967296 := by rw [hs]; exact Crc.fsum_lt _ _ _
  have e1 : bits .xor .u32 IntKind.u32.max (Crc.reg r l : Nat) = (s : Int) := by rw [hs, Crc.fsum, Crc.sum, Crc.reg_app, ← hr]; exact not_u32 _ (Crc.reg_lt _ l hrb)
  have HR : Hid (r = Crc.reg 4294967295 (Crc.le 8 f ++ Crc.le 8 p)) := hr
  have hw64 : wrap64 (s : Int) = (s : Int) := wrap64_nat s (by omega)
  have HS : Hid (s = Crc.fsum f p l) := hs
  clear hs hr
  go_enter Try.func32, Try.ntmps32
  go_wp2_with fail
  refine (write_any w.heap.size 0 8 8 f (List.replicate 16 0) _ (show ByteRow _ 62 _ _ from heap_alloc_last _ _) (by decide) (by decide) hf).mono ?_
  rintro e w1 ⟨rfl, row1, gr1, sz1⟩
  have B1 : Below w.heap.size w w1 := ((Below.refl _ w).alloc (Nat.le_refl _) _).trans (grown_below gr1 (Nat.le_refl _) (by simp))
  clear gr1
  go_wp2_with fail
  refine (write_any w.heap.size 8 8 8 p _ _ row1 (by simp [splice, Crc.le_length]) (by decide) hp).mono ?_
  rintro e w2 ⟨rfl, row2, gr2, sz2⟩
  have B2 : Below w.heap.size w w2 := B1.trans (grown_below gr2 (Nat.le_refl _) B1.size)
  clear gr2 row1 B1
  have row3 := word_row row2
  clear row2
  go_wp2_with fail
  refine (stir_any 4294967295 (some ⟨w.heap.size, 0, none⟩) 16 (Crc.le 8 f ++ Crc.le 8 p) w2 (by decide) (row3.is 0 16 _ (fun j x hj => by rw [Nat.zero_add]; exact hj) (by simp [Crc.le_length]) (by unfold maxLen; decide))).mono ?_
  rintro e w3 ⟨rfl, hW⟩
  subst hW
  rw [← HR.out]
  go_wp2_with fail
  refine (stir_any r a c l _ hrb (HL.out.below (B2.alloc B2.size _))).mono ?_
  rintro e w3 ⟨rfl, hW⟩
  subst hW
  go_wp2
  go_ret
  exact ⟨ret_int (by rw [HS.out]), (B2.alloc B2.size _).alloc (by have := B2.size; simp; omega) _⟩
end Go.Proofs.Ytibcfbajjnpbfaa
