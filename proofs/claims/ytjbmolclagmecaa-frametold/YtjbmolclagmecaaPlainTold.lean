/-
  Bits that are turned within 32 that follow one another: what Take answers then.
-/
import Derived.Test.YtjbmolclagmecaaPlainFrame
namespace Go.Proofs.Ytjbmolclagmecaa
open Go.RowKit

theorem N_set (R : List UInt8) (i : Nat) (x y : UInt8) (hx : R[i]? = some x) : Crc.N (R.set i (x ^^^ y)) = Crc.N R ^^^ 2 ^ (8 * i) * y.toNat := by
  induction R generalizing i with
  | nil => simp at hx
  | cons c R ih =>
    cases i with
    | zero =>
      simp at hx
      subst hx
      simp only [List.set_cons_zero, Crc.N, Nat.mul_zero, Nat.pow_zero, Nat.one_mul]
      rw [Crc.low_or _ _ (c ^^^ y).toNat_lt, Crc.low_or _ _ c.toNat_lt, UInt8.toNat_xor]
      apply Nat.eq_of_testBit_eq
      intro i
      simp only [Nat.testBit_xor]
      cases (c.toNat.testBit i) <;> cases (y.toNat.testBit i) <;> cases ((256 * Crc.N R).testBit i) <;> rfl
    | succ i =>
      simp at hx
      have := ih i hx
      simp only [List.set_cons_succ, Crc.N]
      rw [this, Crc.low_or _ _ c.toNat_lt, Crc.low_or _ _ c.toNat_lt, show (256 : Nat) = 2 ^ 8 from rfl, Crc.mul_xor, show 8 * (i + 1) = 8 + 8 * i by omega, Nat.pow_add, Nat.mul_assoc, Nat.xor_assoc]

/-- Which bits are turned, of the first k. -/
def turns (B : Nat) (room : Nat) : Nat → Nat
  | 0 => 0
  | k + 1 => turns B room k ^^^ (if k < room ∧ B.testBit k = true then 2 ^ k else 0)
theorem turns_lt (B room k : Nat) : turns B room k < 2 ^ k := by
  induction k with
  | zero => simp [turns]
  | succ k ih =>
    rw [turns]
    refine Nat.xor_lt_two_pow (Nat.lt_of_lt_of_le ih (Nat.pow_le_pow_right (by decide) (by omega))) ?_
    split
    · exact Nat.pow_lt_pow_right (by decide) (by omega)
    · exact Nat.two_pow_pos _
theorem turns_yes (B room k : Nat) (h : k < room ∧ B.testBit k = true) : turns B room (k + 1) = turns B room k ^^^ 2 ^ k ∧ turns B room (k + 1) ≠ 0 := by
  have e : turns B room (k + 1) = turns B room k ^^^ 2 ^ k := by rw [turns, if_pos h]
  refine ⟨e, fun h0 => ?_⟩
  have hlt := turns_lt B room k
  rw [e] at h0
  have := congrArg (Nat.testBit · k) h0
  simp [Nat.testBit_lt_two_pow hlt] at this
theorem turns_no (B room k : Nat) (h : ¬ (k < room ∧ B.testBit k = true)) : turns B room (k + 1) = turns B room k := by rw [turns, if_neg h]; simp
theorem turns_room (B room k : Nat) (h : turns B room k ≠ 0) : 0 < room := by
  induction k with
  | zero => simp [turns] at h
  | succ k ih =>
    rw [turns] at h
    split at h
    · rename_i h'; omega
    · simp at h; exact ih h

theorem le_of_N {R : List UInt8} {k n : Nat} (hl : R.length = k) (hn : Crc.N R = n) : R = Crc.le k n := by rw [← Crc.le_N R, hl, hn]

/-- Turned in the sum. -/
theorem told_sum {F P : Nat} (l R : List UInt8) (frm D : Nat) (hf : wordB (F : Int) = true) (hp : wordB (P : Int) = true) (hl : lenB l.length = true) (hR : R.length = 4) (hN : Crc.N R = Crc.fsum F P l ^^^ 2 ^ frm * D) :
    takeE F P (Crc.le 4 l.length ++ (R ++ l)) = if D = 0 then 0 else 23 := by
  have hs : Crc.N R < 4294967296 := by have := Crc.N_lt R; rw [hR] at this; exact this
  have e := take_parts l [] (Crc.N R) hf hp hl hs
  rw [List.append_nil, ← le_of_N hR rfl] at e
  rw [e, hN]
  by_cases hD : D = 0
  · subst hD; simp
  · rw [if_neg hD, if_neg]
    intro h
    have := congrArg (Crc.fsum F P l ^^^ ·) h
    simp only [← Nat.xor_assoc, Nat.xor_self, Nat.zero_xor] at this
    rcases Nat.mul_eq_zero.1 this with h | h
    · have := Nat.two_pow_pos frm; omega
    · exact hD h
/-- Turned in the payload. -/
theorem told_pay {F P : Nat} (l R : List UInt8) (frm D : Nat) (hf : wordB (F : Int) = true) (hp : wordB (P : Int) = true) (hl : lenB l.length = true) (hR : R.length = l.length) (hN : Crc.N R = Crc.N l ^^^ 2 ^ frm * D) (hD32 : D < 4294967296) (hfr : D ≠ 0 → frm < 8 * l.length) :
    takeE F P (Crc.le 4 l.length ++ (Crc.le 4 (Crc.fsum F P l) ++ R)) = (if D = 0 then 0 else 23) ∧ (D = 0 → R = l) := by
  have hfb := wordB_yes hf
  have hpb := wordB_yes hp
  have e := take_parts (F := F) (P := P) R [] (Crc.fsum F P l) hf hp (by rw [hR]; exact hl) (Crc.fsum_lt _ _ _)
  rw [List.append_nil, hR] at e
  have h0 : D = 0 → R = l := fun hD => by
    subst hD
    exact Crc.le_inj l.length R l hR rfl (by simpa using hN)
  refine ⟨?_, h0⟩
  rw [e]
  by_cases hD : D = 0
  · rw [h0 hD, if_pos rfl, if_pos hD]
  · rw [if_neg hD, if_neg]
    intro h
    refine Crc.sum_differs (Crc.le 8 F ++ Crc.le 8 P ++ l) (Crc.le 8 F ++ Crc.le 8 P ++ R) (128 + frm) D (by rw [Crc.words_length, Crc.words_length, hR]) ?_ hD hD32 (by rw [Crc.words_length]; have := hfr hD; omega) h.symm
    rw [Crc.N_words F P R (by omega) (by omega), Crc.N_words F P l (by omega) (by omega), hN, Crc.mul_xor, Nat.pow_add, Nat.mul_assoc]
    simp only [Nat.xor_assoc]
end Go.Proofs.Ytjbmolclagmecaa
