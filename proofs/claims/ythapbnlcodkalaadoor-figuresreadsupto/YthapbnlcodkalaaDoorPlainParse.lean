/-
  Plain facts for Parse: a number read of bytes, at most so great.
-/
import Derived.Test.YthapbnlcodkalaaDoorPlain
namespace Go.Proofs.YthapbnlcodkalaaDoor
open Go.RowKit

/-- What is read of the bytes that are left, n read so far; none: refused. -/
def parseFrom (most : Int) : List UInt8 → Int → Option Int
  | [], n => some n
  | c :: r, n => if 48 ≤ (c.toNat : Int) ∧ (c.toNat : Int) ≤ 57 then
      (if most < (c.toNat : Int) - 48 ∨ (most - ((c.toNat : Int) - 48)) / 10 < n then none else parseFrom most r (n * 10 + ((c.toNat : Int) - 48)))
    else none
/-- Parse's answer. -/
def parseV (l : List UInt8) (most : Int) : Int := if l.isEmpty then 0 else (parseFrom most l 0).getD 0
def parseB (l : List UInt8) (most : Int) : Bool := !l.isEmpty && (parseFrom most l 0).isSome

theorem drop_cons (s : ByteArray) (k : Nat) (h : k < s.size) : s.data.toList.drop k = s[k] :: s.data.toList.drop (k + 1) := by
  rw [List.drop_eq_getElem_cons (by simpa using h)]; rfl

theorem parse_step (s : ByteArray) (k : Nat) (h : k < s.size) (most n : Int) (h1 : 48 ≤ (s[k].toNat : Int)) (h2 : (s[k].toNat : Int) ≤ 57) (h3 : (s[k].toNat : Int) - 48 ≤ most)
    (h4 : n ≤ (most - ((s[k].toNat : Int) - 48)) / 10) : parseFrom most (s.data.toList.drop k) n = parseFrom most (s.data.toList.drop (k + 1)) (n * 10 + ((s[k].toNat : Int) - 48)) := by
  rw [drop_cons s k h, parseFrom, if_pos ⟨h1, h2⟩, if_neg (by omega)]

theorem parse_no (s : ByteArray) (k : Nat) (h : k < s.size) (most n : Int) (h1 : (s[k].toNat : Int) < 48 ∨ 57 < (s[k].toNat : Int)) : parseFrom most (s.data.toList.drop k) n = none := by
  rw [drop_cons s k h, parseFrom, if_neg (by omega)]

theorem parse_much (s : ByteArray) (k : Nat) (h : k < s.size) (most n : Int) (h3 : most < (s[k].toNat : Int) - 48 ∨ (most - ((s[k].toNat : Int) - 48)) / 10 < n) : parseFrom most (s.data.toList.drop k) n = none := by
  rw [drop_cons s k h, parseFrom]
  by_cases hc : 48 ≤ (s[k].toNat : Int) ∧ (s[k].toNat : Int) ≤ 57
  · rw [if_pos hc, if_pos h3]
  · rw [if_neg hc]

theorem parse_end (s : ByteArray) (k : Nat) (h : ¬ k < s.size) (most n : Int) : parseFrom most (s.data.toList.drop k) n = some n := by
  rw [List.drop_of_length_le (by simp; omega), parseFrom]

theorem parse_none (s : ByteArray) (most : Int) (h : parseFrom most s.data.toList 0 = none) : parseV s.data.toList most = 0 ∧ parseB s.data.toList most = false := by
  simp [parseV, parseB, h]
theorem parse_some (s : ByteArray) (most n : Int) (h : parseFrom most s.data.toList 0 = some n) (h0 : s.data.isEmpty = true → n = 0) : parseV s.data.toList most = n ∧ parseB s.data.toList most = !s.data.isEmpty := by
  have e : s.data.toList.isEmpty = s.data.isEmpty := by rcases s with ⟨⟨l⟩⟩; cases l <;> simp
  unfold parseV parseB
  rw [h, e]
  cases hh : s.data.isEmpty
  · simp
  · simp [h0 hh]

theorem parse_neg (s : ByteArray) (most : Int) (h : s.data.isEmpty = true ∨ most < 0) : parseV s.data.toList most = 0 ∧ parseB s.data.toList most = false := by
  have e : s.data.toList.isEmpty = s.data.isEmpty := by rcases s with ⟨⟨l⟩⟩; cases l <;> simp
  unfold parseV parseB
  rw [e]
  rcases h with h | h
  · simp [h]
  · cases hh : s.data.isEmpty
    · have hp : 0 < s.size := by have := pos_empty s; rw [hh] at this; simpa using this
      have : parseFrom most s.data.toList 0 = none := by
        have := drop_cons s 0 hp
        rw [List.drop_zero] at this
        rw [this, parseFrom]
        by_cases hc : (48 : Int) ≤ (s[0].toNat : Int) ∧ (s[0].toNat : Int) ≤ 57
        · rw [if_pos hc, if_pos (by omega)]
        · rw [if_neg hc]
      simp [this]
    · simp
end Go.Proofs.YthapbnlcodkalaaDoor
