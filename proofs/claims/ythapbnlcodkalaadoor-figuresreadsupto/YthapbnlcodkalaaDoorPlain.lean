/-
  Plain facts for layer 1 (digits): words and numbers over lists of bytes. Nothing of the program.
-/
import Derived.WalkKit
namespace Go.Proofs.YthapbnlcodkalaaDoor
open Go.RowKit

/-- A byte that a word may hold. -/
def okc (c : UInt8) : Bool := decide (33 ≤ c.toNat) && decide (c.toNat ≤ 126)
/-- Is a list of bytes a word? -/
def wordB (l : List UInt8) : Bool := !l.isEmpty && l.all okc

theorem width_pos (s : ByteArray) (pos : Nat) (h : pos < s.size) : 1 ≤ (Utf8.decode s pos).2 := by
  by_cases ha : (s[pos]'h).toNat < 128
  · rw [decode_ascii s pos h ha]
    exact Nat.le_refl _
  · exact (decode_high s pos h (by omega)).2

/-- What a rune says of the byte at its place: within 0 .. 127 it is that byte. -/
theorem rune_byte (s : ByteArray) (pos : Nat) (h : pos < s.size) : (Utf8.decode s pos).1 < 128 ∧ (Utf8.decode s pos).1 = (s[pos]'h).toNat ∧ (Utf8.decode s pos).2 = 1 ∨ 128 ≤ (Utf8.decode s pos).1 ∧ 128 ≤ (s[pos]'h).toNat := by
  by_cases ha : (s[pos]'h).toNat < 128
  · left
    rw [decode_ascii s pos h ha]
    exact ⟨ha, rfl, rfl⟩
  · right
    exact ⟨(decode_high s pos h (by omega)).1, by omega⟩

theorem take_snoc (s : ByteArray) (k : Nat) (h : k < s.size) : s.data.toList.take (k + 1) = s.data.toList.take k ++ [s[k]] := by
  rw [List.take_succ_eq_append_getElem (by simpa using h)]; rfl

theorem word_step (s : ByteArray) (k : Nat) (h : k < s.size) (ha : (s.data.toList.take k).all okc = true) (h1 : 33 ≤ s[k].toNat) (h2 : s[k].toNat ≤ 126) :
    (s.data.toList.take (k + 1)).all okc = true := by
  rw [take_snoc s k h, List.all_append, ha]; simp [okc, h1, h2]

theorem word_no (s : ByteArray) (k : Nat) (h : k < s.size) (h1 : s[k].toNat < 33 ∨ 126 < s[k].toNat) : wordB s.data.toList = false := by
  have hm : s[k] ∈ s.data.toList := by
    have : s[k] = s.data[k] := rfl
    rw [this]; simp
  have : s.data.toList.all okc = false := by
    rw [List.all_eq_false]
    refine ⟨s[k], hm, ?_⟩
    simp [okc]; omega
  simp [wordB, this]

theorem word_end (s : ByteArray) (k : Nat) (h : ¬ k < s.size) (ha : (s.data.toList.take k).all okc = true) : wordB s.data.toList = !s.data.toList.isEmpty := by
  rw [List.take_of_length_le (by simp; omega)] at ha
  simp [wordB, ha]
theorem pos_empty (s : ByteArray) : decide (0 < s.size) = !s.data.isEmpty := by
  rcases s with ⟨⟨l⟩⟩
  cases l <;> simp [ByteArray.size]
theorem size_zero (s : ByteArray) (h : s.data.isEmpty = true) : s.size = 0 := by
  have := pos_empty s
  rw [h] at this
  rcases Nat.eq_zero_or_pos s.size with h | h
  · exact h
  · simp [h] at this
theorem beq_zero {n : Nat} (h : n ≠ 0) : ((n : Int) == 0) = false := beq_eq_false_iff_ne.2 (by omega)
end Go.Proofs.YthapbnlcodkalaaDoor
