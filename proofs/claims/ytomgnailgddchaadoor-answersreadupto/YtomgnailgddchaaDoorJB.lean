/-
  Plain, PlainParse, PlainDec, PlainNames, PlainAns, PlainText, PlainFine, PlainScan.
-/
import Derived.WalkKit
import Derived.Lib.ItoaLen
import Derived.Lib.Bytealg
namespace Go.Proofs.YtomgnailgddchaaDoor
open Go.RowKit

/-- A byte that a word may hold. -/
def okc (c : UInt8) : Bool := decide (33 ≤ c.toNat) && decide (c.toNat ≤ 126)
/-- Is a list of bytes a word? -/
def wordB (l : List UInt8) : Bool := !l.isEmpty && l.all okc

theorem width_pos (s : ByteArray) (pos : Nat) (h : pos < s.size) : 1 ≤ (Utf8.decode s pos).2 := by
  by_cases ha : (s[pos]'h).toNat < 128
  · rw [decode_ascii s pos h ha]
    exact Nat.le_refl _
  · exact (decode_high s pos h (by omega)).2

/-- What a rune says of the byte at its place: within 0 .. 127 it is that byte. -/
theorem rune_byte (s : ByteArray) (pos : Nat) (h : pos < s.size) : (Utf8.decode s pos).1 < 128 ∧ (Utf8.decode s pos).1 = (s[pos]'h).toNat ∧ (Utf8.decode s pos).2 = 1 ∨ 128 ≤ (Utf8.decode s pos).1 ∧ 128 ≤ (s[pos]'h).toNat := by
  by_cases ha : (s[pos]'h).toNat < 128
  · left
    rw [decode_ascii s pos h ha]
    exact ⟨ha, rfl, rfl⟩
  · right
    exact ⟨(decode_high s pos h (by omega)).1, by omega⟩

theorem take_snoc (s : ByteArray) (k : Nat) (h : k < s.size) : s.data.toList.take (k + 1) = s.data.toList.take k ++ [s[k]] := by
  rw [List.take_succ_eq_append_getElem (by simpa using h)]; rfl

theorem word_step (s : ByteArray) (k : Nat) (h : k < s.size) (ha : (s.data.toList.take k).all okc = true) (h1 : 33 ≤ s[k].toNat) (h2 : s[k].toNat ≤ 126) :
    (s.data.toList.take (k + 1)).all okc = true := by
  rw [take_snoc s k h, List.all_append, ha]; simp [okc, h1, h2]

theorem word_no (s : ByteArray) (k : Nat) (h : k < s.size) (h1 : s[k].toNat < 33 ∨ 126 < s[k].toNat) : wordB s.data.toList = false := by
  have hm : s[k] ∈ s.data.toList := by
    have : s[k] = s.data[k] := rfl
    rw [this]; simp
  have : s.data.toList.all okc = false := by
    rw [List.all_eq_false]
    refine ⟨s[k], hm, ?_⟩
    simp [okc]; omega
  simp [wordB, this]

theorem word_end (s : ByteArray) (k : Nat) (h : ¬ k < s.size) (ha : (s.data.toList.take k).all okc = true) : wordB s.data.toList = !s.data.toList.isEmpty := by
  rw [List.take_of_length_le (by simp; omega)] at ha
  simp [wordB, ha]
theorem pos_empty (s : ByteArray) : decide (0 < s.size) = !s.data.isEmpty := by
  rcases s with ⟨⟨l⟩⟩
  cases l <;> simp [ByteArray.size]
theorem size_zero (s : ByteArray) (h : s.data.isEmpty = true) : s.size = 0 := by
  have := pos_empty s
  rw [h] at this
  rcases Nat.eq_zero_or_pos s.size with h | h
  · exact h
  · simp [h] at this
theorem beq_zero {n : Nat} (h : n ≠ 0) : ((n : Int) == 0) = false := beq_eq_false_iff_ne.2 (by omega)
end Go.Proofs.YtomgnailgddchaaDoor

namespace Go.Proofs.YtomgnailgddchaaDoor
open Go.RowKit

/-- What is read of the bytes that are left, n read so far; none: refused. -/
def parseFrom (most : Int) : List UInt8 → Int → Option Int
  | [], n => some n
  | c :: r, n => if 48 ≤ (c.toNat : Int) ∧ (c.toNat : Int) ≤ 57 then
      (if most < (c.toNat : Int) - 48 ∨ (most - ((c.toNat : Int) - 48)) / 10 < n then none else parseFrom most r (n * 10 + ((c.toNat : Int) - 48)))
    else none
/-- Parse's answer. -/
def parseV (l : List UInt8) (most : Int) : Int := if l.isEmpty then 0 else (parseFrom most l 0).getD 0
def parseB (l : List UInt8) (most : Int) : Bool := !l.isEmpty && (parseFrom most l 0).isSome

theorem drop_cons (s : ByteArray) (k : Nat) (h : k < s.size) : s.data.toList.drop k = s[k] :: s.data.toList.drop (k + 1) := by
  rw [List.drop_eq_getElem_cons (by simpa using h)]; rfl

theorem parse_step (s : ByteArray) (k : Nat) (h : k < s.size) (most n : Int) (h1 : 48 ≤ (s[k].toNat : Int)) (h2 : (s[k].toNat : Int) ≤ 57) (h3 : (s[k].toNat : Int) - 48 ≤ most)
    (h4 : n ≤ (most - ((s[k].toNat : Int) - 48)) / 10) : parseFrom most (s.data.toList.drop k) n = parseFrom most (s.data.toList.drop (k + 1)) (n * 10 + ((s[k].toNat : Int) - 48)) := by
  rw [drop_cons s k h, parseFrom, if_pos ⟨h1, h2⟩, if_neg (by omega)]

theorem parse_no (s : ByteArray) (k : Nat) (h : k < s.size) (most n : Int) (h1 : (s[k].toNat : Int) < 48 ∨ 57 < (s[k].toNat : Int)) : parseFrom most (s.data.toList.drop k) n = none := by
  rw [drop_cons s k h, parseFrom, if_neg (by omega)]

theorem parse_much (s : ByteArray) (k : Nat) (h : k < s.size) (most n : Int) (h3 : most < (s[k].toNat : Int) - 48 ∨ (most - ((s[k].toNat : Int) - 48)) / 10 < n) : parseFrom most (s.data.toList.drop k) n = none := by
  rw [drop_cons s k h, parseFrom]
  by_cases hc : 48 ≤ (s[k].toNat : Int) ∧ (s[k].toNat : Int) ≤ 57
  · rw [if_pos hc, if_pos h3]
  · rw [if_neg hc]

theorem parse_end (s : ByteArray) (k : Nat) (h : ¬ k < s.size) (most n : Int) : parseFrom most (s.data.toList.drop k) n = some n := by
  rw [List.drop_of_length_le (by simp; omega), parseFrom]

theorem parse_none (s : ByteArray) (most : Int) (h : parseFrom most s.data.toList 0 = none) : parseV s.data.toList most = 0 ∧ parseB s.data.toList most = false := by
  simp [parseV, parseB, h]
theorem parse_some (s : ByteArray) (most n : Int) (h : parseFrom most s.data.toList 0 = some n) (h0 : s.data.isEmpty = true → n = 0) : parseV s.data.toList most = n ∧ parseB s.data.toList most = !s.data.isEmpty := by
  have e : s.data.toList.isEmpty = s.data.isEmpty := by rcases s with ⟨⟨l⟩⟩; cases l <;> simp
  unfold parseV parseB
  rw [h, e]
  cases hh : s.data.isEmpty
  · simp
  · simp [h0 hh]

theorem parse_neg (s : ByteArray) (most : Int) (h : s.data.isEmpty = true ∨ most < 0) : parseV s.data.toList most = 0 ∧ parseB s.data.toList most = false := by
  have e : s.data.toList.isEmpty = s.data.isEmpty := by rcases s with ⟨⟨l⟩⟩; cases l <;> simp
  unfold parseV parseB
  rw [e]
  rcases h with h | h
  · simp [h]
  · cases hh : s.data.isEmpty
    · have hp : 0 < s.size := by have := pos_empty s; rw [hh] at this; simpa using this
      have : parseFrom most s.data.toList 0 = none := by
        have := drop_cons s 0 hp
        rw [List.drop_zero] at this
        rw [this, parseFrom]
        by_cases hc : (48 : Int) ≤ (s[0].toNat : Int) ∧ (s[0].toNat : Int) ≤ 57
        · rw [if_pos hc, if_pos (by omega)]
        · rw [if_neg hc]
      simp [this]
    · simp
end Go.Proofs.YtomgnailgddchaaDoor

namespace Go.Proofs.YtomgnailgddchaaDoor
open Go.RowKit Go.Lib

/-- What Print writes. -/
def printL (n : Int) : List UInt8 := if n < 0 then [] else Lib.itoa n
theorem dec_small {u : Nat} (h : u < 10) : Lib.decDigits u = [UInt8.ofNat (48 + u)] := Lib.decDigits_one h
theorem dec_big {u : Nat} (h : ¬ u < 10) : Lib.decDigits u = Lib.decDigits (u / 10) ++ [UInt8.ofNat (48 + u % 10)] := by rw [Lib.decDigits, dif_neg h]
/-- The digits that are still to be written ahead of the last one of m. -/
def ahead (m : Nat) : List UInt8 := if m < 10 then [] else Lib.decDigits (m / 10)
theorem dec_ahead (m : Nat) : Lib.decDigits m = ahead m ++ [UInt8.ofNat (48 + m % 10)] := by
  unfold ahead
  split
  · rename_i h; rw [dec_small h, Nat.mod_eq_of_lt h]; rfl
  · rename_i h; rw [dec_big h]
theorem parse_append (most : Int) : ∀ (l1 l2 : List UInt8) (n : Int), parseFrom most (l1 ++ l2) n = (parseFrom most l1 n).bind (parseFrom most l2)
  | [], l2, n => by simp [parseFrom]
  | c :: r, l2, n => by
    rw [List.cons_append, parseFrom, parseFrom]
    by_cases h : 48 ≤ (c.toNat : Int) ∧ (c.toNat : Int) ≤ 57
    · rw [if_pos h, if_pos h]
      by_cases h2 : most < (c.toNat : Int) - 48 ∨ (most - ((c.toNat : Int) - 48)) / 10 < n
      · rw [if_pos h2, if_pos h2]; rfl
      · rw [if_neg h2, if_neg h2]; exact parse_append most r l2 _
    · rw [if_neg h, if_neg h]; rfl

theorem parse_one (most n : Int) (d : Nat) (hd : d < 10) : parseFrom most [UInt8.ofNat (48 + d)] n = if most < (d : Int) ∨ (most - (d : Int)) / 10 < n then none else some (n * 10 + (d : Int)) := by
  have e : ((UInt8.ofNat (48 + d)).toNat : Int) = 48 + (d : Int) := by
    rw [UInt8.toNat_ofNat']
    omega
  rw [parseFrom, e, if_pos (by omega), show (48 + (d : Int) - 48) = (d : Int) by omega, parseFrom]

theorem parse_dec (most : Int) (u : Nat) : parseFrom most (Lib.decDigits u) 0 = if (u : Int) ≤ most then some (u : Int) else none := by
  induction u using Nat.strongRecOn with
  | _ u ih =>
    by_cases h : u < 10
    · rw [dec_small h, parse_one most 0 u h]
      by_cases hm : (u : Int) ≤ most
      · rw [if_neg (by omega), if_pos hm]; congr 1; omega
      · rw [if_pos (by omega), if_neg hm]
    · rw [dec_big h, parse_append, ih (u / 10) (by omega)]
      by_cases hm : ((u / 10 : Nat) : Int) ≤ most
      · rw [if_pos hm, Option.bind_some, parse_one most _ (u % 10) (by omega)]
        by_cases hu : (u : Int) ≤ most
        · rw [if_neg (by omega), if_pos hu]; congr 1; omega
        · rw [if_pos (by omega), if_neg hu]
      · rw [if_neg hm, if_neg (by omega)]; rfl

theorem parse_zeros (most : Int) (hm : 0 ≤ most) : ∀ z : Nat, parseFrom most (List.replicate z 48) 0 = some 0
  | 0 => rfl
  | z + 1 => by
    rw [List.replicate_succ, parseFrom, if_pos (by decide), if_neg (by simp; omega)]
    exact parse_zeros most hm z

theorem parse_printed (most : Int) (z u : Nat) : parseFrom most (List.replicate z 48 ++ Lib.decDigits u) 0 = if (u : Int) ≤ most then some (u : Int) else none := by
  by_cases hm : 0 ≤ most
  · rw [parse_append, parse_zeros most hm z, Option.bind_some, parse_dec]
  · rw [if_neg (by omega)]
    cases z with
    | zero => rw [List.replicate_zero, List.nil_append, parse_dec, if_neg (by omega)]
    | succ z => rw [List.replicate_succ, List.cons_append, parseFrom, if_pos (by decide), if_pos (by simp; omega)]

theorem dec_ne (u : Nat) : Lib.decDigits u ≠ [] := by rw [dec_ahead]; simp

theorem parsed (most : Int) (z u : Nat) : parseV (List.replicate z 48 ++ Lib.decDigits u) most = (if (u : Int) ≤ most then (u : Int) else 0) ∧ parseB (List.replicate z 48 ++ Lib.decDigits u) most = decide ((u : Int) ≤ most) := by
  have hne : (List.replicate z 48 ++ Lib.decDigits u).isEmpty = false := by
    rw [Bool.eq_false_iff]; intro h
    rw [List.isEmpty_iff, List.append_eq_nil_iff] at h
    exact dec_ne u h.2
  unfold parseV parseB
  rw [hne, parse_printed]
  by_cases h : (u : Int) ≤ most
  · simp [h]
  · simp [h]
theorem print_dec {n : Int} (h : 0 ≤ n) : printL n = Lib.decDigits n.toNat := by
  unfold printL
  rw [if_neg (by omega)]
  obtain ⟨m, rfl⟩ := Int.eq_ofNat_of_zero_le h
  rw [Lib.itoa_nonneg]
  rfl
end Go.Proofs.YtomgnailgddchaaDoor

namespace Go.Proofs.YtomgnailgddchaaDoor
open Go.RowKit

/-- The bytes that a name may have besides letters and figures. -/
def others : List UInt8 := [45, 43, 47, 59, 46, 36, 95, 40, 41]
/-- A byte that a name may have. -/
def okn (c : UInt8) : Bool := (decide (97 ≤ c.toNat) && decide (c.toNat ≤ 122)) || (decide (65 ≤ c.toNat) && decide (c.toNat ≤ 90)) || (decide (48 ≤ c.toNat) && decide (c.toNat ≤ 57)) || others.contains c
/-- May a text be a name? -/
def validB (l : List UInt8) : Bool := decide (1 ≤ l.length) && decide (l.length ≤ 200) && !(l.head? == some 45) && l.all okn

theorem index_has (c : UInt8) : ∀ l : List UInt8, decide (0 ≤ Lib.indexByte l c) = l.contains c
  | [] => by simp [Lib.indexByte]
  | b :: l => by
    have ih := index_has c l
    have hge := Lib.indexByte_ge l c
    unfold Lib.indexByte
    by_cases h : b = c
    · subst h
      simp
    · have h2 : (c == b) = false := beq_eq_false_iff_ne.2 fun e => h e.symm
      rw [List.contains_cons, h2, Bool.false_or, ← ih, if_neg (by simpa using h)]
      by_cases h3 : Lib.indexByte l c = -1
      · simp [h3]
      · rw [if_neg (by simpa using h3)]
        have : 0 ≤ Lib.indexByte l c := by omega
        simp [this]
        omega
theorem index_others (c : UInt8) : decide (0 ≤ Lib.indexByte others c) = others.contains c := index_has c others
theorem okn_in {c : UInt8} (h : 97 ≤ c.toNat ∧ c.toNat ≤ 122 ∨ 65 ≤ c.toNat ∧ c.toNat ≤ 90 ∨ 48 ≤ c.toNat ∧ c.toNat ≤ 57) : okn c = true := by
  unfold okn
  rcases h with ⟨h, k⟩ | ⟨h, k⟩ | ⟨h, k⟩ <;> simp [h, k]
theorem okn_out {c : UInt8} (h : c.toNat < 97 ∨ 122 < c.toNat) (k : c.toNat < 65 ∨ 90 < c.toNat) (l : c.toNat < 48 ∨ 57 < c.toNat) : okn c = others.contains c := by
  unfold okn
  rw [show (decide (97 ≤ c.toNat) && decide (c.toNat ≤ 122)) = false by simp; omega, show (decide (65 ≤ c.toNat) && decide (c.toNat ≤ 90)) = false by simp; omega, show (decide (48 ≤ c.toNat) && decide (c.toNat ≤ 57)) = false by simp; omega]
  simp
/-- A letter or a figure. -/
def alnum (c : UInt8) : Bool := (decide (97 ≤ c.toNat) && decide (c.toNat ≤ 122)) || (decide (65 ≤ c.toNat) && decide (c.toNat ≤ 90)) || (decide (48 ≤ c.toNat) && decide (c.toNat ≤ 57))
theorem okn_alnum (c : UInt8) : okn c = (alnum c || others.contains c) := rfl
theorem alnum_in {c : UInt8} (h : 97 ≤ c.toNat ∧ c.toNat ≤ 122 ∨ 65 ≤ c.toNat ∧ c.toNat ≤ 90 ∨ 48 ≤ c.toNat ∧ c.toNat ≤ 57) : alnum c = true := by
  unfold alnum
  rcases h with ⟨h, k⟩ | ⟨h, k⟩ | ⟨h, k⟩ <;> simp [h, k]
theorem alnum_out {c : UInt8} (h : c.toNat < 97 ∨ 122 < c.toNat) (k : c.toNat < 65 ∨ 90 < c.toNat) (l : c.toNat < 48 ∨ 57 < c.toNat) : alnum c = false := by
  unfold alnum
  rw [show (decide (97 ≤ c.toNat) && decide (c.toNat ≤ 122)) = false by simp; omega, show (decide (65 ≤ c.toNat) && decide (c.toNat ≤ 90)) = false by simp; omega, show (decide (48 ≤ c.toNat) && decide (c.toNat ≤ 57)) = false by simp; omega]
  rfl
/-- The bytes besides letters and figures, as a text. -/
def otherB : ByteArray := ⟨#[45, 43, 47, 59, 46, 36, 95, 40, 41]⟩
theorem others_step {c : UInt8} {k : Nat} (h : k < otherB.size) : (others.take (k + 1)).contains c = ((others.take k).contains c || decide (c.toNat = otherB[k].toNat)) := by
  have hk : k < others.length := h
  show _ = (_ || decide (c.toNat = others[k].toNat))
  rw [List.take_succ_eq_append_getElem hk, List.contains_eq_any_beq, List.any_append, ← List.contains_eq_any_beq]
  congr 1
  by_cases h2 : c = others[k]
  · simp [h2]
  · simp [h2, UInt8.toNat_inj]
theorem valid_step (s : ByteArray) (k : Nat) (h : k < s.size) (ha : (s.data.toList.take k).all okn = true) (h1 : okn s[k] = true) : (s.data.toList.take (k + 1)).all okn = true := by
  rw [take_snoc s k h, List.all_append, ha]; simp [h1]
theorem valid_no (s : ByteArray) (k : Nat) (h : k < s.size) (h1 : okn s[k] = false) : validB s.data.toList = false := by
  have hm : s[k] ∈ s.data.toList := by
    have : s[k] = s.data[k] := rfl
    rw [this]; simp
  have : s.data.toList.all okn = false := by
    rw [List.all_eq_false]
    exact ⟨s[k], hm, by simp [h1]⟩
  simp [validB, this]
theorem head_of (s : ByteArray) (h : 0 < s.size) : s.data.toList.head? = some s[0] := by
  rw [List.head?_eq_getElem?, List.getElem?_eq_getElem (by simpa using h)]; rfl
theorem valid_short (s : ByteArray) (h : s.size < 1) : validB s.data.toList = false := by
  have : s.data.toList.length = s.size := by simp
  simp [validB]; omega
theorem valid_long (s : ByteArray) (h : 200 < s.size) : validB s.data.toList = false := by
  have : s.data.toList.length = s.size := by simp
  have : ¬ s.data.toList.length ≤ 200 := by omega
  unfold validB
  rw [decide_eq_false this]
  simp
theorem valid_dash (s : ByteArray) (h : 0 < s.size) (h1 : s[0].toNat = 45) : validB s.data.toList = false := by
  have e : s[0] = 45 := UInt8.toNat_inj.1 (by rw [h1]; rfl)
  simp [validB, head_of s h, e]
theorem valid_end (s : ByteArray) (k : Nat) (h : ¬ k < s.size) (h0 : 1 ≤ s.size) (h2 : s.size ≤ 200) (h1 : s[0].toNat ≠ 45) (ha : (s.data.toList.take k).all okn = true) : validB s.data.toList = true := by
  rw [List.take_of_length_le (by simp; omega)] at ha
  have e : s[0] ≠ 45 := fun e => h1 (by rw [e]; rfl)
  have : s.data.toList.length = s.size := by simp
  have i1 : 1 ≤ s.data.toList.length := by omega
  have i2 : s.data.toList.length ≤ 200 := by omega
  unfold validB
  rw [ha, head_of s h0, decide_eq_true i1, decide_eq_true i2]
  simp [e]
end Go.Proofs.YtomgnailgddchaaDoor

namespace Go.Proofs.YtomgnailgddchaaDoor
open Go.RowKit

/-- The words, and the fields behind them, by kinds. -/
def wordT : List (List UInt8) := [[], [73, 78, 83, 69, 82, 84, 69, 68], [85, 83, 73, 78, 71], [82, 69, 83, 69, 82, 86, 69, 68], [68, 69, 65, 68, 76, 73, 78, 69, 95, 83, 79, 79, 78], [84, 73, 77, 69, 68, 95, 79, 85, 84], [68, 69, 76, 69, 84, 69, 68], [82, 69, 76, 69, 65, 83, 69, 68], [66, 85, 82, 73, 69, 68], [84, 79, 85, 67, 72, 69, 68], [87, 65, 84, 67, 72, 73, 78, 71], [78, 79, 84, 95, 73, 71, 78, 79, 82, 69, 68], [70, 79, 85, 78, 68], [75, 73, 67, 75, 69, 68], [75, 73, 67, 75, 69, 68], [80, 65, 85, 83, 69, 68], [79, 75], [78, 79, 84, 95, 70, 79, 85, 78, 68], [79, 85, 84, 95, 79, 70, 95, 77, 69, 77, 79, 82, 89], [66, 65, 68, 95, 70, 79, 82, 77, 65, 84], [85, 78, 75, 78, 79, 87, 78, 95, 67, 79, 77, 77, 65, 78, 68], [69, 88, 80, 69, 67, 84, 69, 68, 95, 67, 82, 76, 70], [74, 79, 66, 95, 84, 79, 79, 95, 66, 73, 71], [68, 82, 65, 73, 78, 73, 78, 71]]
def wordOf (k : Nat) : List UInt8 := wordT.getD k []
def idOf (k : Nat) : Int := ([0, 1099511627776, 0, 1099511627776, 0, 0, 0, 0, 0, 0, 0, 0, 1099511627776, 0, 0, 0, 0, 0, 0, 0, 0, 0, 0, 0] : List Int).getD k 0
def nuOf (k : Nat) : Int := ([0, 0, 0, 0, 0, 0, 0, 0, 0, 0, 4294967295, 0, 0, 4294967295, 0, 0, 0, 0, 0, 0, 0, 0, 0, 0] : List Int).getD k 0
def boOf (k : Nat) : Int := ([0, 0, 0, 65535, 0, 0, 0, 0, 0, 0, 0, 0, 65535, 0, 0, 0, 4294967295, 0, 0, 0, 0, 0, 0, 0] : List Int).getD k 0
def tuOf (k : Nat) : Bool := ([false, false, true, false, false, false, false, false, false, false, false, false, false, false, false, false, false, false, false, false, false, false, false, false] : List Bool).getD k false

/-- A reply. -/
structure Rp where
  kind : Int
  id : Int
  num : Int
  tube : List UInt8
  body : List UInt8

/-- May a reply be? -/
def rightB (r : Rp) : Bool := decide (1 ≤ r.kind) && decide (r.kind ≤ 23) && decide (min (idOf r.kind.toNat) 1 ≤ r.id) && decide (r.id ≤ idOf r.kind.toNat) && decide (0 ≤ r.num) && decide (r.num ≤ nuOf r.kind.toNat) && decide ((r.body.length : Int) ≤ boOf r.kind.toNat) &&
  (if tuOf r.kind.toNat then validB r.tube else r.tube.isEmpty)
def checkE (r : Rp) : Int := if 1 ≤ r.kind ∧ r.kind ≤ 23 then (if rightB r then 0 else 81) else 80
/-- A number's figures. -/
def decL (n : Int) : List UInt8 := Lib.decDigits n.toNat
/-- The fields of a reply's line, each with its blank. -/
def fieldsL (r : Rp) : List UInt8 :=
  (if 0 < idOf r.kind.toNat then 32 :: decL r.id else []) ++ (if 0 < nuOf r.kind.toNat then 32 :: decL r.num else []) ++
  (if tuOf r.kind.toNat then 32 :: r.tube else []) ++ (if 0 < boOf r.kind.toNat then 32 :: decL r.body.length else [])
/-- A reply's bytes. -/
def putL (r : Rp) : List UInt8 := wordOf r.kind.toNat ++ fieldsL r ++ [13, 10] ++ (if 0 < boOf r.kind.toNat then r.body ++ [13, 10] else [])

/-- A text, held against bytes from a place on: where it got to, and 0: it stands there, 1: they end, 2: one is wrong. -/
def textP (b : List UInt8) : List UInt8 → Nat → Nat × Nat
  | [], p => (p, 0)
  | c :: s, p => match b[p]? with
    | none => (p, 1)
    | some x => if x = c then textP b s (p + 1) else (p, 2)
/-- How long the longest beginning is that fits. -/
def fitN (fits : List UInt8 → Bool) (s : List UInt8) : Nat := (List.range s.length).countP (fun i => fits (s.take (i + 1)))
/-- A blank and a word. -/
def wordP (b : List UInt8) (fits : List UInt8 → Bool) (p : Nat) : List UInt8 × Nat × Nat :=
  if (textP b [32] p).2 = 0 then
    (((b.drop (p + 1)).take 200).take (fitN fits ((b.drop (p + 1)).take 200)), p + 1 + fitN fits ((b.drop (p + 1)).take 200),
      if p + 1 + fitN fits ((b.drop (p + 1)).take 200) = b.length then 1 else if fitN fits ((b.drop (p + 1)).take 200) = 0 then 2 else 0)
  else ([], textP b [32] p)
def numFits (least most : Int) (s : List UInt8) : Bool := parseB s most && decide (least ≤ parseV s most) && decide (decL (parseV s most) = s)

/-- How far a reply is read. -/
structure St where
  pos : Nat
  st : Nat
  id : Int
  num : Int
  tube : List UInt8
  size : Int
  body : List UInt8

def textS (w : List UInt8) (b : List UInt8) (s : St) : St := if s.st = 0 then { s with pos := (textP b w s.pos).1, st := (textP b w s.pos).2 } else s
def idS (m : Int) (b : List UInt8) (s : St) : St := if s.st = 0 then { s with pos := (wordP b (numFits 1 m) s.pos).2.1, st := (wordP b (numFits 1 m) s.pos).2.2, id := parseV (wordP b (numFits 1 m) s.pos).1 m } else s
def numS (m : Int) (b : List UInt8) (s : St) : St := if s.st = 0 then { s with pos := (wordP b (numFits 0 m) s.pos).2.1, st := (wordP b (numFits 0 m) s.pos).2.2, num := parseV (wordP b (numFits 0 m) s.pos).1 m } else s
def tubeS (b : List UInt8) (s : St) : St := if s.st = 0 then { s with pos := (wordP b validB s.pos).2.1, st := (wordP b validB s.pos).2.2, tube := (wordP b validB s.pos).1 } else s
def sizeS (m : Int) (b : List UInt8) (s : St) : St := if s.st = 0 then { s with pos := (wordP b (numFits 0 m) s.pos).2.1, st := (wordP b (numFits 0 m) s.pos).2.2, size := parseV (wordP b (numFits 0 m) s.pos).1 m } else s
def takeS (b : List UInt8) (s : St) : St := if s.st = 0 then (if b.length < s.pos + s.size.toNat then { s with pos := s.pos + s.size.toNat, st := 1 } else { s with pos := s.pos + s.size.toNat, body := (b.drop s.pos).take s.size.toNat }) else s

def st0 : St := ⟨0, 0, 0, 0, [], 0, []⟩
/-- The first line of a kind, but for its end. -/
def lineS (k : Nat) (b : List UInt8) (s : St) : St :=
  (fun s => if 0 < boOf k then sizeS (boOf k) b s else s) ((fun s => if tuOf k then tubeS b s else s) ((fun s => if 0 < nuOf k then numS (nuOf k) b s else s) ((fun s => if 0 < idOf k then idS (idOf k) b s else s) (textS (wordOf k) b s))))
/-- And a body, where there is one. -/
def bodyS (k : Nat) (b : List UInt8) (s : St) : St := if 0 < boOf k then takeS b (textS [13, 10] b s) else s
def kindS (k : Nat) (b : List UInt8) : St := textS [13, 10] b (bodyS k b (lineS k b st0))
def rpOf (k : Nat) (s : St) : Rp := ⟨k, s.id, s.num, s.tube, s.body⟩
def rp0 : Rp := ⟨0, 0, 0, [], []⟩
/-- The reply that bytes begin with. -/
def readFrom (b : List UInt8) : Nat → Nat → Nat → Rp × Nat × Nat
  | 0, _, far => (rp0, far, 2)
  | n + 1, k, far => if (kindS k b).st = 2 then readFrom b n (k + 1) (max far (kindS k b).pos) else (rpOf k (kindS k b), (kindS k b).pos, (kindS k b).st)
def readP (b : List UInt8) : Rp × Nat × Nat := readFrom b 23 1 0
end Go.Proofs.YtomgnailgddchaaDoor

namespace Go.Proofs.YtomgnailgddchaaDoor
open Go.RowKit

theorem get_app {b x : List UInt8} {p : Nat} {y : UInt8} (h : b[p]? = some y) : (b ++ x)[p]? = some y := by
  rw [List.getElem?_append_left (List.getElem?_eq_some_iff.1 h).1]
  exact h
theorem text_ext (b x : List UInt8) : ∀ (w : List UInt8) (p : Nat), (textP b w p).2 ≠ 1 → textP (b ++ x) w p = textP b w p
  | [], p, _ => rfl
  | c :: w, p, h => by
    unfold textP at h ⊢
    cases hb : b[p]? with
    | none => rw [hb] at h; exact absurd rfl h
    | some y =>
      rw [hb] at h
      rw [get_app hb]
      simp only at h ⊢
      split
      · rename_i e
        rw [if_pos e] at h
        exact text_ext b x w (p + 1) h
      · rfl
theorem text_low (b : List UInt8) : ∀ (w : List UInt8) (p : Nat), p ≤ (textP b w p).1
  | [], p => Nat.le_refl _
  | c :: w, p => by
    unfold textP
    cases hb : b[p]? with
    | none => exact Nat.le_refl _
    | some y =>
      simp only
      split
      · have := text_low b w (p + 1); omega
      · exact Nat.le_refl _
theorem text_three (b : List UInt8) : ∀ (w : List UInt8) (p : Nat), (textP b w p).2 ≤ 2
  | [], p => by simp [textP]
  | c :: w, p => by
    unfold textP
    cases hb : b[p]? with
    | none => simp
    | some y =>
      simp only
      split
      · exact text_three b w (p + 1)
      · exact Nat.le_refl _
theorem drop_get {b : List UInt8} {p : Nat} {y : UInt8} (h : b[p]? = some y) : b.drop p = y :: b.drop (p + 1) := by
  have hp := (List.getElem?_eq_some_iff.1 h)
  rw [List.drop_eq_getElem_cons hp.1, hp.2]
theorem text_good (b : List UInt8) : ∀ (w : List UInt8) (p : Nat), p ≤ b.length → (textP b w p).2 = 0 → (textP b w p).1 = p + w.length ∧ b.drop p = w ++ b.drop (p + w.length) ∧ p + w.length ≤ b.length
  | [], p, hp, _ => by simpa [textP] using hp
  | c :: w, p, hp, h => by
    unfold textP at h ⊢
    cases hb : b[p]? with
    | none => rw [hb] at h; cases h
    | some y =>
      rw [hb] at h
      simp only at h ⊢
      by_cases e : y = c
      · rw [if_pos e] at h ⊢
        have hl := (List.getElem?_eq_some_iff.1 hb).1
        obtain ⟨h1, h2, h3⟩ := text_good b w (p + 1) hl h
        rw [h1, drop_get hb, h2, e]
        simp only [List.length_cons, List.cons_append]
        refine ⟨by omega, ?_, by omega⟩
        rw [show p + 1 + w.length = p + (w.length + 1) by omega]
      · rw [if_neg e] at h; cases h
theorem text_wrong (b : List UInt8) : ∀ (w : List UInt8) (p : Nat), (textP b w p).2 = 2 → (textP b w p).1 < b.length
  | [], p, h => by cases h
  | c :: w, p, h => by
    unfold textP at h ⊢
    cases hb : b[p]? with
    | none => rw [hb] at h; cases h
    | some y =>
      rw [hb] at h
      simp only at h ⊢
      by_cases e : y = c
      · rw [if_pos e] at h ⊢
        exact text_wrong b w (p + 1) h
      · rw [if_neg e]
        exact (List.getElem?_eq_some_iff.1 hb).1
theorem text_short (b x : List UInt8) : ∀ (w : List UInt8) (p : Nat), p ≤ b.length → (textP b w p).2 = 1 → (textP b w p).1 = b.length ∧ b.length < p + w.length ∧ b.length ≤ (textP (b ++ x) w p).1
  | [], p, _, h => by cases h
  | c :: w, p, hp, h => by
    have hlow := text_low (b ++ x) (c :: w) p
    unfold textP at h ⊢
    cases hb : b[p]? with
    | none =>
      have := List.getElem?_eq_none_iff.1 hb
      simp only [List.length_cons]
      refine ⟨by omega, by omega, ?_⟩
      unfold textP at hlow
      exact Nat.le_trans this hlow
    | some y =>
      rw [hb] at h
      have hl := (List.getElem?_eq_some_iff.1 hb).1
      rw [get_app hb]
      simp only [List.length_cons] at h ⊢
      by_cases e : y = c
      · rw [if_pos e] at h ⊢
        rw [if_pos e]
        obtain ⟨h1, h2, h3⟩ := text_short b x w (p + 1) hl h
        exact ⟨h1, by omega, h3⟩
      · rw [if_neg e] at h; cases h
theorem text_is (b : List UInt8) : ∀ (w r : List UInt8) (p : Nat), b.drop p = w ++ r → textP b w p = (p + w.length, 0)
  | [], r, p, _ => rfl
  | c :: w, r, p, h => by
    have hb : b[p]? = some c := by
      have := congrArg (·[0]?) h
      simpa using this
    have h2 := drop_get hb
    rw [h2, List.cons_append] at h
    unfold textP
    rw [hb]
    simp only [if_pos]
    rw [text_is b w r (p + 1) (List.cons.inj h).2]
    simp only [List.length_cons]
    congr 1
    omega

/-- Each beginning of what fits fits, but the empty one. -/
def Closed (fits : List UInt8 → Bool) : Prop := ∀ s t, s ≠ [] → fits (s ++ t) = true → fits s = true
theorem count_bound (q : Nat → Bool) (m n : Nat) (hn : n ≤ m) (h1 : ∀ i, i < n → q i = true) (h2 : ∀ i, n ≤ i → i < m → q i = false) : (List.range m).countP q = n := by
  have e : List.range m = List.range n ++ (List.range (m - n)).map (n + ·) := by rw [← List.range_add]; congr 1; omega
  have a1 : (List.range n).countP q = n := by
    have : (List.range n).countP q = (List.range n).length := List.countP_eq_length.2 (fun i hi => h1 i (List.mem_range.1 hi))
    rwa [List.length_range] at this
  have a2 : ((List.range (m - n)).map (n + ·)).countP q = 0 := by
    rw [List.countP_eq_zero]
    intro i hi
    obtain ⟨j, hj, rfl⟩ := List.mem_map.1 hi
    have := List.mem_range.1 hj
    rw [h2 (n + j) (by omega) (by omega)]
    simp
  rw [e, List.countP_append, a1, a2]
  omega
theorem first_no (q : Nat → Bool) : ∀ m, ∃ n, n ≤ m ∧ (∀ i, i < n → q i = true) ∧ (n < m → q n = false)
  | 0 => ⟨0, Nat.le_refl _, fun i hi => absurd hi (Nat.not_lt_zero _), fun h => absurd h (Nat.lt_irrefl _)⟩
  | m + 1 => by
    obtain ⟨n, h1, h2, h3⟩ := first_no q m
    by_cases hn : n < m
    · exact ⟨n, by omega, h2, fun _ => h3 hn⟩
    · obtain rfl : n = m := by omega
      cases hq : q n with
      | false => exact ⟨n, by omega, h2, fun _ => hq⟩
      | true =>
        refine ⟨n + 1, Nat.le_refl _, fun i hi => ?_, fun h => absurd h (Nat.lt_irrefl _)⟩
        by_cases hi2 : i < n
        · exact h2 i hi2
        · rw [show i = n by omega]; exact hq
theorem take_closed {fits : List UInt8 → Bool} (hc : Closed fits) (s : List UInt8) (i j : Nat) (hij : i ≤ j) (hi : i < s.length) (h : fits (s.take (j + 1)) = true) : fits (s.take (i + 1)) = true := by
  refine hc (s.take (i + 1)) ((s.take (j + 1)).drop (i + 1)) (fun e => ?_) ?_
  · have := congrArg List.length e
    simp at this
    rw [this] at hi
    exact absurd hi (Nat.not_lt_zero _)
  · have : s.take (i + 1) = (s.take (j + 1)).take (i + 1) := by rw [List.take_take]; congr 1; omega
    rw [this, List.take_append_drop]
    exact h
theorem fit_is {fits : List UInt8 → Bool} (hc : Closed fits) (s : List UInt8) (n : Nat) (hn : n ≤ s.length) (h1 : ∀ i, i < n → fits (s.take (i + 1)) = true) (h2 : n < s.length → fits (s.take (n + 1)) = false) : fitN fits s = n := by
  unfold fitN
  refine count_bound _ _ _ hn h1 (fun i hi hl => ?_)
  cases hq : fits (s.take (i + 1)) with
  | false => rfl
  | true =>
    have := take_closed hc s n i hi (by omega) hq
    rw [h2 (by omega)] at this
    cases this
theorem fit_spec {fits : List UInt8 → Bool} (hc : Closed fits) (s : List UInt8) : fitN fits s ≤ s.length ∧ (∀ i, i < fitN fits s → fits (s.take (i + 1)) = true) ∧ (fitN fits s < s.length → fits (s.take (fitN fits s + 1)) = false) := by
  obtain ⟨n, h1, h2, h3⟩ := first_no (fun i => fits (s.take (i + 1))) s.length
  rw [fit_is hc s n h1 h2 h3]
  exact ⟨h1, h2, h3⟩

theorem text_one (b : List UInt8) (p : Nat) : textP b [32] p = match b[p]? with
    | none => (p, 1)
    | some x => if x = 32 then (p + 1, 0) else (p, 2) := rfl
/-- The bytes that may be of a word. -/
def runOf (b : List UInt8) (p : Nat) : List UInt8 := (b.drop (p + 1)).take 200
theorem word_blank {b : List UInt8} {fits : List UInt8 → Bool} {p : Nat} (h : b[p]? = some 32) : wordP b fits p = ((runOf b p).take (fitN fits (runOf b p)), p + 1 + fitN fits (runOf b p), if p + 1 + fitN fits (runOf b p) = b.length then 1 else if fitN fits (runOf b p) = 0 then 2 else 0) := by
  have e : (textP b [32] p).2 = 0 := by rw [text_one, h]; rfl
  unfold wordP
  rw [if_pos e]
  rfl
theorem word_none {b : List UInt8} {fits : List UInt8 → Bool} {p : Nat} (h : b[p]? = none) : wordP b fits p = ([], p, 1) := by
  have e : textP b [32] p = (p, 1) := by rw [text_one, h]
  unfold wordP
  rw [e]
  rfl
theorem word_other {b : List UInt8} {fits : List UInt8 → Bool} {p : Nat} {y : UInt8} (h : b[p]? = some y) (hy : y ≠ 32) : wordP b fits p = ([], p, 2) := by
  have e : textP b [32] p = (p, 2) := by rw [text_one, h]; simp [hy]
  unfold wordP
  rw [e]
  rfl
theorem run_len (b : List UInt8) (p : Nat) : (runOf b p).length = min 200 (b.length - (p + 1)) := by simp [runOf]
theorem run_app (b x : List UInt8) (p i : Nat) (h : p + 1 ≤ b.length) (hi : i ≤ (runOf b p).length) : (runOf (b ++ x) p).take i = (runOf b p).take i := by
  rw [run_len] at hi
  unfold runOf
  rw [List.take_take, List.take_take, List.drop_append_of_le_length h, List.take_append_of_le_length (by simp; omega)]
theorem run_ext {fits : List UInt8 → Bool} (hc : Closed fits) (b x : List UInt8) (p : Nat) (hp : p + 1 ≤ b.length) (h : ¬ p + 1 + fitN fits (runOf b p) = b.length) : fitN fits (runOf (b ++ x) p) = fitN fits (runOf b p) := by
  obtain ⟨h1, h2, h3⟩ := fit_spec hc (runOf b p)
  have e1 := run_len b p
  have e2 := run_len (b ++ x) p
  simp only [List.length_append] at e2
  refine fit_is hc _ _ (by omega) (fun i hi => ?_) (fun hl => ?_)
  · rw [run_app b x p (i + 1) hp (by omega)]
    exact h2 i hi
  · by_cases hn : fitN fits (runOf b p) < (runOf b p).length
    · rw [run_app b x p _ hp (by omega)]
      exact h3 hn
    · omega
theorem word_ext {fits : List UInt8 → Bool} (hc : Closed fits) (b x : List UInt8) (p : Nat) (h : (wordP b fits p).2.2 ≠ 1) : wordP (b ++ x) fits p = wordP b fits p := by
  cases hb : b[p]? with
  | none => rw [word_none hb] at h; exact absurd rfl h
  | some y =>
    by_cases hy : y = 32
    · subst hy
      have hl := (List.getElem?_eq_some_iff.1 hb).1
      rw [word_blank hb] at h ⊢
      rw [word_blank (get_app hb)]
      have hne : ¬ p + 1 + fitN fits (runOf b p) = b.length := by
        intro e
        rw [if_pos e] at h
        exact h rfl
      have hle := (fit_spec hc (runOf b p)).1
      have e1 := run_len b p
      rw [run_ext hc b x p hl hne, run_app b x p _ hl hle, if_neg hne, if_neg (by simp only [List.length_append]; omega)]
    · rw [word_other hb hy, word_other (get_app hb) hy]
theorem word_low (fits : List UInt8 → Bool) (b : List UInt8) (p : Nat) : p ≤ (wordP b fits p).2.1 := by
  cases hb : b[p]? with
  | none => rw [word_none hb]; exact Nat.le_refl _
  | some y =>
    by_cases hy : y = 32
    · subst hy
      rw [word_blank hb]
      show p ≤ p + 1 + _
      omega
    · rw [word_other hb hy]; exact Nat.le_refl _
theorem word_three (fits : List UInt8 → Bool) (b : List UInt8) (p : Nat) : (wordP b fits p).2.2 ≤ 2 := by
  cases hb : b[p]? with
  | none => rw [word_none hb]; show 1 ≤ 2; omega
  | some y =>
    by_cases hy : y = 32
    · subst hy
      rw [word_blank hb]
      show (if _ then 1 else if _ then 2 else 0) ≤ 2
      split
      · omega
      · split <;> omega
    · rw [word_other hb hy]; exact Nat.le_refl _
theorem word_short {fits : List UInt8 → Bool} (hc : Closed fits) (b x : List UInt8) (p : Nat) (hp : p ≤ b.length) (h : (wordP b fits p).2.2 = 1) : (wordP b fits p).2.1 = b.length ∧ b.length ≤ (wordP (b ++ x) fits p).2.1 := by
  cases hb : b[p]? with
  | none =>
    have := List.getElem?_eq_none_iff.1 hb
    have := word_low fits (b ++ x) p
    rw [word_none hb]
    exact ⟨by show p = b.length; omega, by omega⟩
  | some y =>
    by_cases hy : y = 32
    · subst hy
      have hl := (List.getElem?_eq_some_iff.1 hb).1
      rw [word_blank hb] at h ⊢
      rw [word_blank (get_app hb)]
      have he : p + 1 + fitN fits (runOf b p) = b.length := by
        by_cases e : p + 1 + fitN fits (runOf b p) = b.length
        · exact e
        · exfalso
          simp only at h
          rw [if_neg e] at h
          split at h <;> cases h
      refine ⟨he, ?_⟩
      show b.length ≤ p + 1 + fitN fits (runOf (b ++ x) p)
      obtain ⟨g1, g2, g3⟩ := fit_spec hc (runOf b p)
      obtain ⟨k1, k2, k3⟩ := fit_spec hc (runOf (b ++ x) p)
      have e1 := run_len b p
      have e2 := run_len (b ++ x) p
      simp only [List.length_append] at e2
      by_cases hlt : fitN fits (runOf (b ++ x) p) < fitN fits (runOf b p)
      · have a := g2 _ hlt
        have c := k3 (by omega)
        rw [run_app b x p _ hl (by omega), a] at c
        cases c
      · omega
    · rw [word_other hb hy] at h; cases h
theorem word_wrong (fits : List UInt8 → Bool) (hc : Closed fits) (b : List UInt8) (p : Nat) (h : (wordP b fits p).2.2 = 2) : (wordP b fits p).2.1 < b.length := by
  cases hb : b[p]? with
  | none => rw [word_none hb] at h; cases h
  | some y =>
    have hl := (List.getElem?_eq_some_iff.1 hb).1
    by_cases hy : y = 32
    · subst hy
      rw [word_blank hb] at h ⊢
      have hle := (fit_spec hc (runOf b p)).1
      have e1 := run_len b p
      show p + 1 + fitN fits (runOf b p) < b.length
      by_cases e : p + 1 + fitN fits (runOf b p) = b.length
      · simp only at h
        rw [if_pos e] at h; cases h
      · omega
    · rw [word_other hb hy]; exact hl
theorem word_good {fits : List UInt8 → Bool} (hc : Closed fits) (b : List UInt8) (p : Nat) (h : (wordP b fits p).2.2 = 0) :
    b.drop p = 32 :: ((wordP b fits p).1 ++ b.drop (wordP b fits p).2.1) ∧ (wordP b fits p).1 ≠ [] ∧ fits (wordP b fits p).1 = true ∧ (wordP b fits p).2.1 = p + 1 + (wordP b fits p).1.length ∧ (wordP b fits p).2.1 < b.length ∧ (wordP b fits p).1.length ≤ 200 := by
  cases hb : b[p]? with
  | none => rw [word_none hb] at h; cases h
  | some y =>
    have hl := (List.getElem?_eq_some_iff.1 hb).1
    by_cases hy : y = 32
    · subst hy
      rw [word_blank hb] at h ⊢
      obtain ⟨g1, g2, g3⟩ := fit_spec hc (runOf b p)
      have e1 := run_len b p
      simp only at h ⊢
      have hne : ¬ p + 1 + fitN fits (runOf b p) = b.length := fun e => by rw [if_pos e] at h; cases h
      rw [if_neg hne] at h
      have hz : fitN fits (runOf b p) ≠ 0 := fun e => by rw [if_pos e] at h; cases h
      generalize fitN fits (runOf b p) = n at *
      have hlen : ((runOf b p).take n).length = n := by rw [List.length_take]; omega
      refine ⟨?_, ?_, ?_, by rw [hlen], by omega, by rw [hlen]; omega⟩
      · rw [drop_get hb]
        congr 1
        have : (runOf b p).take n = (b.drop (p + 1)).take n := by unfold runOf; rw [List.take_take]; congr 1; omega
        rw [this, ← List.drop_drop (i := n) (j := p + 1), List.take_append_drop]
      · intro e
        rw [e] at hlen
        exact hz hlen.symm
      · have := g2 (n - 1) (by omega)
        rwa [show n - 1 + 1 = n by omega] at this
    · rw [word_other hb hy] at h; cases h
theorem word_is {fits : List UInt8 → Bool} (hc : Closed fits) (b : List UInt8) (p : Nat) (w : List UInt8) (c : UInt8) (r : List UInt8) (h : b.drop p = 32 :: (w ++ c :: r)) (hw : w ≠ []) (hf : fits w = true) (hl : w.length ≤ 200) (hn : fits (w ++ [c]) = false) :
    wordP b fits p = (w, p + 1 + w.length, 0) := by
  have hb : b[p]? = some 32 := by
    have := congrArg (·[0]?) h
    simpa using this
  have h2 := drop_get hb
  rw [h2] at h
  have h3 := (List.cons.inj h).2
  have hlen : b.length = p + 1 + w.length + 1 + r.length := by
    have := congrArg List.length h3
    simp at this
    have := (List.getElem?_eq_some_iff.1 hb).1
    omega
  have hrun : ∀ i, i ≤ 200 → (runOf b p).take i = (w ++ c :: r).take i := fun i hi => by
    unfold runOf
    rw [h3, List.take_take]
    congr 1
    omega
  have e1 := run_len b p
  have hfit : fitN fits (runOf b p) = w.length := by
    refine fit_is hc _ _ (by omega) (fun i hi => ?_) (fun hlt => ?_)
    · rw [hrun _ (by omega), List.take_append_of_le_length (by omega)]
      refine hc (w.take (i + 1)) (w.drop (i + 1)) (fun e => ?_) (by rw [List.take_append_drop]; exact hf)
      have := congrArg List.length e
      simp at this
      exact hw this
    · rw [hrun _ (by omega), List.take_append, List.take_of_length_le (by omega), show w.length + 1 - w.length = 1 by omega]
      exact hn
  rw [word_blank hb, hfit, hrun _ hl, if_neg (by omega), if_neg (fun e => hw (List.length_eq_zero_iff.1 e))]
  simp
end Go.Proofs.YtomgnailgddchaaDoor

namespace Go.Proofs.YtomgnailgddchaaDoor
open Go.RowKit

theorem fits_dec {l m : Int} {s : List UInt8} : numFits l m s = true ↔ ∃ u : Nat, s = Lib.decDigits u ∧ l ≤ (u : Int) ∧ (u : Int) ≤ m := by
  unfold numFits decL
  simp only [Bool.and_eq_true, decide_eq_true_eq]
  constructor
  · rintro ⟨⟨h1, h2⟩, h3⟩
    refine ⟨(parseV s m).toNat, h3.symm, ?_⟩
    have hp := parsed m 0 (parseV s m).toNat
    simp only [List.replicate_zero, List.nil_append] at hp
    rw [h3, h1] at hp
    have := of_decide_eq_true hp.2.symm
    rw [if_pos this] at hp
    omega
  · rintro ⟨u, rfl, h1, h2⟩
    have hp := parsed m 0 u
    simp only [List.replicate_zero, List.nil_append] at hp
    rw [if_pos h2] at hp
    rw [hp.1, hp.2, decide_eq_true h2]
    simp [h1]
theorem dec_value {m : Int} {u : Nat} (h : (u : Int) ≤ m) : parseV (Lib.decDigits u) m = u := by
  have hp := parsed m 0 u
  simp only [List.replicate_zero, List.nil_append] at hp
  rw [hp.1, if_pos h]
theorem dec_inj {u v : Nat} (h : Lib.decDigits u = Lib.decDigits v) : u = v := by
  have a := dec_value (m := max u v) (u := u) (by omega)
  have b := dec_value (m := max u v) (u := v) (by omega)
  rw [h, b] at a
  omega
theorem num_closed {l m : Int} (hl : l ≤ 1) : Closed (numFits l m) := by
  intro s t hs
  induction h : t.length generalizing t with
  | zero =>
    obtain rfl := List.length_eq_zero_iff.1 h
    rw [List.append_nil]
    exact id
  | succ n ih =>
    intro hf
    obtain ⟨t', c, rfl⟩ : ∃ t' c, t = t' ++ [c] := by
      rcases List.eq_nil_or_concat t with rfl | ⟨t', c, rfl⟩
      · cases h
      · exact ⟨t', c, by simp⟩
    refine ih t' (by simpa using h) ?_
    obtain ⟨u, h1, h2, h3⟩ := fits_dec.1 hf
    rw [← List.append_assoc] at h1
    refine fits_dec.2 ⟨u / 10, ?_⟩
    by_cases h10 : u < 10
    · rw [dec_small h10] at h1
      have := congrArg List.length h1
      simp at this
      exact absurd (List.length_eq_zero_iff.1 (by omega)) hs
    · rw [dec_big h10] at h1
      exact ⟨(List.append_inj' h1 rfl).1, by omega, by omega⟩
theorem digit_of {u : Nat} : ∀ c ∈ Lib.decDigits u, 48 ≤ c.toNat ∧ c.toNat ≤ 57 := by
  induction u using Nat.strongRecOn with
  | _ u ih =>
    have hd : ∀ d, d < 10 → (UInt8.ofNat (48 + d)).toNat = 48 + d := fun d hd => by rw [UInt8.toNat_ofNat']; omega
    by_cases h : u < 10
    · rw [dec_small h]
      intro c hc
      obtain rfl := List.mem_singleton.1 hc
      rw [hd u h]; omega
    · rw [dec_big h]
      intro c hc
      rcases List.mem_append.1 hc with hc | hc
      · exact ih (u / 10) (by omega) c hc
      · obtain rfl := List.mem_singleton.1 hc
        rw [hd _ (by omega)]; omega
theorem num_ends {l m : Int} (s : List UInt8) (c : UInt8) (hc : c.toNat < 48) : numFits l m (s ++ [c]) = false := by
  cases h : numFits l m (s ++ [c]) with
  | false => rfl
  | true =>
    obtain ⟨u, h1, _, _⟩ := fits_dec.1 h
    have := digit_of (u := u) c (by rw [← h1]; simp)
    omega
theorem valid_closed : Closed validB := by
  intro s t hs h
  unfold validB at h ⊢
  simp only [Bool.and_eq_true, decide_eq_true_eq, List.length_append, List.all_append] at h ⊢
  obtain ⟨⟨⟨h1, h2⟩, h3⟩, h4, h5⟩ := h
  obtain ⟨c, r, rfl⟩ : ∃ c r, s = c :: r := by cases s with | nil => exact absurd rfl hs | cons c r => exact ⟨c, r, rfl⟩
  refine ⟨⟨⟨by simp, by omega⟩, ?_⟩, h4⟩
  simpa using h3
theorem valid_ends (s : List UInt8) (c : UInt8) (hc : okn c = false) : validB (s ++ [c]) = false := by
  unfold validB
  rw [List.all_append]
  simp [hc]

/-- A step of a trial: it stays where it is when it is over; more bytes turn nothing but where it was short. -/
structure Fine (p : List UInt8 → St → St) : Prop where
  stuck : ∀ b s, s.st ≠ 0 → p b s = s
  ext : ∀ b x s, s.st = 0 → s.pos ≤ b.length → (p b s).st ≠ 1 → p (b ++ x) s = p b s
  low : ∀ b s, s.st = 0 → s.pos ≤ b.length → s.pos ≤ (p b s).pos
  good : ∀ b s, s.st = 0 → s.pos ≤ b.length → (p b s).st = 0 → (p b s).pos ≤ b.length
  wrong : ∀ b s, s.st = 0 → s.pos ≤ b.length → (p b s).st = 2 → (p b s).pos < b.length
  three : ∀ b s, s.st = 0 → s.pos ≤ b.length → (p b s).st ≤ 2
  short : ∀ b x s, s.st = 0 → s.pos ≤ b.length → (p b s).st = 1 → b.length ≤ (p b s).pos ∧ b.length ≤ (p (b ++ x) s).pos

theorem Fine.skip : Fine (fun _ s => s) :=
  ⟨fun _ _ _ => rfl, fun _ _ _ _ _ _ => rfl, fun _ _ _ _ => Nat.le_refl _, fun _ _ _ h _ => h, fun b s h _ h2 => absurd (h.symm.trans h2) (by decide), fun _ s h _ => (by rw [h]; omega), fun b x s h _ h2 => absurd (h.symm.trans h2) (by decide)⟩
theorem Fine.opt {p : List UInt8 → St → St} (h : Fine p) (c : Prop) [Decidable c] : Fine (fun b s => if c then p b s else s) := by
  by_cases hc : c
  · simp only [if_pos hc]; exact h
  · simp only [if_neg hc]; exact Fine.skip
theorem Fine.low' {p : List UInt8 → St → St} (h : Fine p) (b : List UInt8) (s : St) (hs : s.st = 0 → s.pos ≤ b.length) : s.pos ≤ (p b s).pos := by
  by_cases h0 : s.st = 0
  · exact h.low b s h0 (hs h0)
  · rw [h.stuck b s h0]; exact Nat.le_refl _
theorem Fine.comp {p q : List UInt8 → St → St} (h : Fine p) (k : Fine q) : Fine (fun b s => q b (p b s)) where
  stuck b s h0 := by show q b (p b s) = s; rw [h.stuck b s h0, k.stuck b s h0]
  ext b x s h0 hp h1 := by
    show q (b ++ x) (p (b ++ x) s) = q b (p b s)
    have hs : (p b s).st ≠ 1 := fun e => h1 (by show (q b (p b s)).st = 1; rw [k.stuck b _ (by rw [e]; decide)]; exact e)
    rw [h.ext b x s h0 hp hs]
    by_cases hz : (p b s).st = 0
    · exact k.ext b x _ hz (h.good b s h0 hp hz) h1
    · rw [k.stuck _ _ hz, k.stuck _ _ hz]
  low b s h0 hp := Nat.le_trans (h.low b s h0 hp) (k.low' b _ (h.good b s h0 hp))
  good b s h0 hp hq := by
    by_cases hz : (p b s).st = 0
    · exact k.good b _ hz (h.good b s h0 hp hz) hq
    · exfalso
      have : (q b (p b s)).st = (p b s).st := by rw [k.stuck b _ hz]
      exact hz (this.symm.trans hq)
  wrong b s h0 hp hq := by
    by_cases hz : (p b s).st = 0
    · exact k.wrong b _ hz (h.good b s h0 hp hz) hq
    · have e : q b (p b s) = p b s := k.stuck b _ hz
      show (q b (p b s)).pos < _
      rw [e]
      exact h.wrong b s h0 hp (by rw [← e]; exact hq)
  three b s h0 hp := by
    by_cases hz : (p b s).st = 0
    · exact k.three b _ hz (h.good b s h0 hp hz)
    · show (q b (p b s)).st ≤ 2
      rw [k.stuck b _ hz]; exact h.three b s h0 hp
  short b x s h0 hp hq := by
    show b.length ≤ (q b (p b s)).pos ∧ b.length ≤ (q (b ++ x) (p (b ++ x) s)).pos
    have hq : (q b (p b s)).st = 1 := hq
    by_cases hz : (p b s).st = 0
    · rw [h.ext b x s h0 hp (by rw [hz]; decide)]
      exact k.short b x _ hz (h.good b s h0 hp hz) hq
    · rw [k.stuck b _ hz] at hq ⊢
      obtain ⟨a, c⟩ := h.short b x s h0 hp hq
      refine ⟨a, Nat.le_trans c (k.low' (b ++ x) _ (h.good (b ++ x) s h0 (by simp; omega)))⟩

theorem fine_text (w : List UInt8) : Fine (textS w) where
  stuck b s h0 := by unfold textS; rw [if_neg h0]
  ext b x s h0 hp h1 := by
    unfold textS at h1 ⊢
    rw [if_pos h0] at h1
    rw [if_pos h0, if_pos h0, text_ext b x w s.pos h1]
  low b s h0 hp := by unfold textS; rw [if_pos h0]; exact text_low b w s.pos
  good b s h0 hp h1 := by
    unfold textS at h1 ⊢
    rw [if_pos h0] at h1 ⊢
    obtain ⟨a, _, c⟩ := text_good b w s.pos hp h1
    show (textP b w s.pos).1 ≤ _
    omega
  wrong b s h0 hp h1 := by
    unfold textS at h1 ⊢
    rw [if_pos h0] at h1 ⊢
    exact text_wrong b w s.pos h1
  three b s h0 hp := by unfold textS; rw [if_pos h0]; exact text_three b w s.pos
  short b x s h0 hp h1 := by
    unfold textS at h1 ⊢
    rw [if_pos h0] at h1 ⊢
    rw [if_pos h0]
    obtain ⟨a, _, c⟩ := text_short b x w s.pos hp h1
    exact ⟨Nat.le_of_eq a.symm, c⟩
/-- A step that takes a word. -/
theorem fine_word {fits : List UInt8 → Bool} (hc : Closed fits) (f : St → List UInt8 → Nat → Nat → St) (hf : ∀ s w p e, (f s w p e).pos = p ∧ (f s w p e).st = e) (p : List UInt8 → St → St)
    (hp : ∀ b s, p b s = if s.st = 0 then f s (wordP b fits s.pos).1 (wordP b fits s.pos).2.1 (wordP b fits s.pos).2.2 else s) : Fine p where
  stuck b s h0 := by rw [hp, if_neg h0]
  ext b x s h0 h2 h1 := by
    rw [hp, if_pos h0, (hf _ _ _ _).2] at h1
    rw [hp, hp, if_pos h0, if_pos h0, word_ext hc b x s.pos h1]
  low b s h0 h2 := by rw [hp, if_pos h0, (hf _ _ _ _).1]; exact word_low fits b s.pos
  good b s h0 h2 h1 := by
    rw [hp, if_pos h0, (hf _ _ _ _).2] at h1
    rw [hp, if_pos h0, (hf _ _ _ _).1]
    exact Nat.le_of_lt (word_good hc b s.pos h1).2.2.2.2.1
  wrong b s h0 h2 h1 := by
    rw [hp, if_pos h0, (hf _ _ _ _).2] at h1
    rw [hp, if_pos h0, (hf _ _ _ _).1]
    exact word_wrong fits hc b s.pos h1
  three b s h0 h2 := by rw [hp, if_pos h0, (hf _ _ _ _).2]; exact word_three fits b s.pos
  short b x s h0 h2 h1 := by
    rw [hp, if_pos h0, (hf _ _ _ _).2] at h1
    rw [hp, hp, if_pos h0, if_pos h0, (hf _ _ _ _).1, (hf _ _ _ _).1]
    obtain ⟨a, c⟩ := word_short hc b x s.pos h2 h1
    exact ⟨Nat.le_of_eq a.symm, c⟩
theorem fine_id (m : Int) : Fine (idS m) := fine_word (num_closed (l := 1) (m := m) (by decide)) (fun s w p e => { s with pos := p, st := e, id := parseV w m }) (fun _ _ _ _ => ⟨rfl, rfl⟩) _ (fun _ _ => rfl)
theorem fine_num (m : Int) : Fine (numS m) := fine_word (num_closed (l := 0) (m := m) (by decide)) (fun s w p e => { s with pos := p, st := e, num := parseV w m }) (fun _ _ _ _ => ⟨rfl, rfl⟩) _ (fun _ _ => rfl)
theorem fine_size (m : Int) : Fine (sizeS m) := fine_word (num_closed (l := 0) (m := m) (by decide)) (fun s w p e => { s with pos := p, st := e, size := parseV w m }) (fun _ _ _ _ => ⟨rfl, rfl⟩) _ (fun _ _ => rfl)
theorem fine_tube : Fine tubeS := fine_word valid_closed (fun s w p e => { s with pos := p, st := e, tube := w }) (fun _ _ _ _ => ⟨rfl, rfl⟩) _ (fun _ _ => rfl)
theorem fine_take : Fine takeS where
  stuck b s h0 := by unfold takeS; rw [if_neg h0]
  ext b x s h0 hp h1 := by
    unfold takeS at h1 ⊢
    rw [if_pos h0] at h1
    rw [if_pos h0, if_pos h0]
    by_cases hl : b.length < s.pos + s.size.toNat
    · rw [if_pos hl] at h1; exact absurd rfl h1
    · rw [if_neg hl, if_neg (by simp; omega), List.drop_append_of_le_length hp, List.take_append_of_le_length (by simp; omega)]
  low b s h0 hp := by
    unfold takeS
    rw [if_pos h0]
    split
    · show s.pos ≤ s.pos + _; omega
    · show s.pos ≤ s.pos + _; omega
  good b s h0 hp h1 := by
    unfold takeS at h1 ⊢
    rw [if_pos h0] at h1 ⊢
    by_cases hl : b.length < s.pos + s.size.toNat
    · rw [if_pos hl] at h1; cases h1
    · rw [if_neg hl]; show s.pos + _ ≤ _; omega
  wrong b s h0 hp h1 := by
    unfold takeS at h1
    rw [if_pos h0] at h1
    by_cases hl : b.length < s.pos + s.size.toNat
    · rw [if_pos hl] at h1; cases h1
    · rw [if_neg hl] at h1; rw [show s.st = 2 from h1] at h0; cases h0
  three b s h0 hp := by
    unfold takeS
    rw [if_pos h0]
    split
    · show 1 ≤ 2; omega
    · show s.st ≤ 2; omega
  short b x s h0 hp h1 := by
    unfold takeS at h1 ⊢
    rw [if_pos h0] at h1 ⊢
    rw [if_pos h0]
    by_cases hl : b.length < s.pos + s.size.toNat
    · rw [if_pos hl]
      refine ⟨Nat.le_of_lt hl, ?_⟩
      split
      · exact Nat.le_of_lt hl
      · exact Nat.le_of_lt hl
    · rw [if_neg hl] at h1; rw [show s.st = 1 from h1] at h0; cases h0
theorem fine_line (k : Nat) : Fine (lineS k) :=
  ((((fine_text (wordOf k)).comp ((fine_id (idOf k)).opt (0 < idOf k))).comp ((fine_num (nuOf k)).opt (0 < nuOf k))).comp (fine_tube.opt (tuOf k = true))).comp ((fine_size (boOf k)).opt (0 < boOf k))
theorem fine_body (k : Nat) : Fine (bodyS k) := ((fine_text [13, 10]).comp fine_take).opt (0 < boOf k)
theorem fine_all (k : Nat) : Fine (fun b s => bodyS k b (lineS k b s)) := (fine_line k).comp (fine_body k)
theorem fine_kind (k : Nat) : Fine (fun b s => textS [13, 10] b (bodyS k b (lineS k b s))) := (fine_all k).comp (fine_text [13, 10])

/-- More bytes turn nothing but where a kind was short. -/
theorem kind_ext (k : Nat) (b x : List UInt8) (h : (kindS k b).st ≠ 1) : kindS k (b ++ x) = kindS k b := (fine_kind k).ext b x st0 rfl (Nat.zero_le _) h
theorem kind_three (k : Nat) (b : List UInt8) : (kindS k b).st ≤ 2 := (fine_kind k).three b st0 rfl (Nat.zero_le _)
theorem kind_good (k : Nat) (b : List UInt8) (h : (kindS k b).st = 0) : (kindS k b).pos ≤ b.length := (fine_kind k).good b st0 rfl (Nat.zero_le _) h
theorem kind_wrong (k : Nat) (b : List UInt8) (h : (kindS k b).st = 2) : (kindS k b).pos < b.length := (fine_kind k).wrong b st0 rfl (Nat.zero_le _) h
theorem kind_short (k : Nat) (b x : List UInt8) (h : (kindS k b).st = 1) : b.length ≤ (kindS k b).pos ∧ b.length ≤ (kindS k (b ++ x)).pos := (fine_kind k).short b x st0 rfl (Nat.zero_le _) h
/-- A reply that is whole ends behind what was short of it. -/
theorem kind_strict (k : Nat) (b x : List UInt8) (h : (kindS k b).st = 1) (h0 : (kindS k (b ++ x)).st = 0) : b.length < (kindS k (b ++ x)).pos := by
  have F := fine_all k
  obtain ⟨s5, e5⟩ : ∃ s, s = bodyS k b (lineS k b st0) := ⟨_, rfl⟩
  obtain ⟨s6, e6⟩ : ∃ s, s = bodyS k (b ++ x) (lineS k (b ++ x) st0) := ⟨_, rfl⟩
  have hk : kindS k b = textS [13, 10] b s5 := by rw [e5]; rfl
  have hk6 : kindS k (b ++ x) = textS [13, 10] (b ++ x) s6 := by rw [e6]; rfl
  rw [hk] at h
  rw [hk6] at h0 ⊢
  have g6 : s6.st = 0 := by
    by_cases hz : s6.st = 0
    · exact hz
    · rw [(fine_text _).stuck _ _ hz] at h0; exact h0
  have p6 : s6.pos ≤ (b ++ x).length := by rw [e6] at g6 ⊢; exact F.good (b ++ x) st0 rfl (Nat.zero_le _) g6
  unfold textS at h0 ⊢
  rw [if_pos g6] at h0 ⊢
  have q := (text_good (b ++ x) [13, 10] s6.pos p6 h0).1
  show b.length < (textP (b ++ x) [13, 10] s6.pos).1
  rw [q]
  by_cases hz : s5.st = 0
  · have p5 : s5.pos ≤ b.length := by rw [e5] at hz ⊢; exact F.good b st0 rfl (Nat.zero_le _) hz
    have e : s6 = s5 := by
      rw [e5, e6]
      exact F.ext b x st0 rfl (Nat.zero_le _) (by rw [e5] at hz; show (bodyS k b (lineS k b st0)).st ≠ 1; rw [hz]; decide)
    unfold textS at h
    rw [if_pos hz] at h
    have := (text_short b x [13, 10] s5.pos p5 h).2.1
    rw [e]
    exact this
  · rw [(fine_text _).stuck _ _ hz] at h
    have := (F.short b x st0 rfl (Nat.zero_le _) (by show (bodyS k b (lineS k b st0)).st = 1; rw [← e5]; exact h)).2
    have : b.length ≤ s6.pos := by rw [e6]; exact this
    simp only [List.length_cons, List.length_nil]
    omega
end Go.Proofs.YtomgnailgddchaaDoor

namespace Go.Proofs.YtomgnailgddchaaDoor
open Go.RowKit

/-- The byte behind a kind's word. -/
def sepOf (k : Nat) : UInt8 := if 0 < idOf k ∨ 0 < nuOf k ∨ tuOf k = true ∨ 0 < boOf k then 32 else 13
def differ : List UInt8 → List UInt8 → Bool
  | c :: w, d :: u => c != d || differ w u
  | _, _ => false
theorem unlike : ∀ i, i < 24 → ∀ j, j < 24 → 1 ≤ i → 1 ≤ j → i ≠ j → differ (wordOf i ++ [sepOf i]) (wordOf j ++ [sepOf j]) = true := by decide
theorem text_differ (b : List UInt8) : ∀ (w u r : List UInt8) (p : Nat), b.drop p = u ++ r → differ w u = true → (textP b w p).2 = 2 ∧ (textP b w p).1 < p + u.length
  | [], u, r, p, _, h => by simp [differ] at h
  | c :: w, [], r, p, _, h => by simp [differ] at h
  | c :: w, d :: u, r, p, hb, h => by
    have hd : b[p]? = some d := by
      have := congrArg (·[0]?) hb
      simpa using this
    rw [drop_get hd, List.cons_append] at hb
    unfold textP
    rw [hd]
    simp only [List.length_cons]
    by_cases e : d = c
    · rw [if_pos e]
      have hw : differ w u = true := by
        rw [differ, e] at h
        simpa using h
      obtain ⟨h1, h2⟩ := text_differ b w u r (p + 1) (List.cons.inj hb).2 hw
      exact ⟨h1, by omega⟩
    · rw [if_neg e]
      exact ⟨rfl, by show p < _; omega⟩
theorem text_cons (b : List UInt8) (c : UInt8) (w : List UInt8) (p : Nat) : textP b (c :: w) p = match b[p]? with
    | none => (p, 1)
    | some x => if x = c then textP b w (p + 1) else (p, 2) := rfl
theorem text_app (b : List UInt8) : ∀ (w u : List UInt8) (p : Nat), textP b (w ++ u) p = if (textP b w p).2 = 0 then textP b u (textP b w p).1 else textP b w p
  | [], u, p => rfl
  | c :: w, u, p => by
    rw [List.cons_append, text_cons, text_cons b c w]
    cases b[p]? with
    | none => rfl
    | some y =>
      simp only
      by_cases hy : y = c
      · rw [if_pos hy, if_pos hy]
        exact text_app b w u (p + 1)
      · rw [if_neg hy, if_neg hy]
        rfl

/-- What a kind's bytes begin with. -/
def leadL (k : Nat) : List UInt8 := wordOf k ++ [sepOf k]
/-- A step that takes something begins with a byte. -/
theorem word_lead {fits : List UInt8 → Bool} (b : List UInt8) (p : Nat) : ((textP b [32] p).2 = 2 → (wordP b fits p).2 = (textP b [32] p)) ∧ ((wordP b fits p).2.2 = 0 → (textP b [32] p).2 = 0 ∧ p < (wordP b fits p).2.1) := by
  rw [text_one]
  cases hb : b[p]? with
  | none => rw [word_none hb]; exact ⟨fun h => (by cases h), fun h => (by cases h)⟩
  | some y =>
    by_cases hy : y = 32
    · subst hy
      rw [word_blank hb]
      exact ⟨fun h => (by cases h), fun _ => ⟨rfl, by show p < p + 1 + _; omega⟩⟩
    · rw [word_other hb hy]
      refine ⟨fun _ => by simp [hy], fun h => (by cases h)⟩
theorem end_lead (b : List UInt8) (p : Nat) : ((textP b [13] p).2 = 2 → textP b [13, 10] p = (textP b [13] p)) ∧ ((textP b [13, 10] p).2 = 0 → (textP b [13] p).2 = 0) := by
  have e := text_app b [13] [10] p
  rw [show ([13] : List UInt8) ++ [10] = [13, 10] from rfl] at e
  rw [e]
  by_cases h : (textP b [13] p).2 = 0
  · rw [if_pos h]
    exact ⟨fun h2 => absurd (h.symm.trans h2) (by decide), fun _ => h⟩
  · rw [if_neg h]
    exact ⟨fun _ => rfl, fun h2 => h2⟩
/-- A first step whose own first byte is c. -/
structure Leads (c : UInt8) (p : List UInt8 → St → St) : Prop where
  no : ∀ b s, s.st = 0 → (textP b [c] s.pos).2 = 2 → (p b s).st = 2 ∧ (p b s).pos = (textP b [c] s.pos).1
  yes : ∀ b s, s.st = 0 → (p b s).st = 0 → (textP b [c] s.pos).2 = 0
theorem Leads.comp {c : UInt8} {p q : List UInt8 → St → St} (h : Leads c p) (k : Fine q) : Leads c (fun b s => q b (p b s)) where
  no b s h0 h2 := by
    obtain ⟨a, e⟩ := h.no b s h0 h2
    show (q b (p b s)).st = 2 ∧ (q b (p b s)).pos = _
    rw [k.stuck b _ (by rw [a]; decide)]
    exact ⟨a, e⟩
  yes b s h0 h2 := by
    refine h.yes b s h0 ?_
    by_cases hz : (p b s).st = 0
    · exact hz
    · have h2 : (q b (p b s)).st = 0 := h2
      rw [k.stuck b _ hz] at h2
      exact h2
theorem leads_word {fits : List UInt8 → Bool} (f : St → List UInt8 → Nat → Nat → St) (hf : ∀ s w p e, (f s w p e).pos = p ∧ (f s w p e).st = e) (p : List UInt8 → St → St)
    (hp : ∀ b s, p b s = if s.st = 0 then f s (wordP b fits s.pos).1 (wordP b fits s.pos).2.1 (wordP b fits s.pos).2.2 else s) : Leads 32 p where
  no b s h0 h2 := by
    rw [hp, if_pos h0, (hf _ _ _ _).1, (hf _ _ _ _).2]
    have := (word_lead (fits := fits) b s.pos).1 h2
    rw [this]
    exact ⟨h2, rfl⟩
  yes b s h0 h2 := by
    rw [hp, if_pos h0, (hf _ _ _ _).2] at h2
    exact ((word_lead (fits := fits) b s.pos).2 h2).1
theorem leads_end : Leads 13 (textS [13, 10]) where
  no b s h0 h2 := by
    unfold textS
    rw [if_pos h0]
    have := (end_lead b s.pos).1 h2
    rw [this]
    exact ⟨h2, rfl⟩
  yes b s h0 h2 := by
    unfold textS at h2
    rw [if_pos h0] at h2
    exact (end_lead b s.pos).2 h2
/-- What comes behind a kind's word. -/
def tailS (k : Nat) (b : List UInt8) (s : St) : St :=
  textS [13, 10] b (bodyS k b ((fun s => if 0 < boOf k then sizeS (boOf k) b s else s) ((fun s => if tuOf k then tubeS b s else s) ((fun s => if 0 < nuOf k then numS (nuOf k) b s else s) ((fun s => if 0 < idOf k then idS (idOf k) b s else s) s)))))
theorem leads_tail (k : Nat) : Leads (sepOf k) (tailS k) := by
  have F5 := (fine_body k).comp (fine_text [13, 10])
  have F4 := ((fine_size (boOf k)).opt (0 < boOf k)).comp F5
  have F3 := (fine_tube.opt (tuOf k = true)).comp F4
  have F2 := ((fine_num (nuOf k)).opt (0 < nuOf k)).comp F3
  by_cases h1 : 0 < idOf k
  · rw [show sepOf k = 32 from if_pos (.inl h1)]
    have L : Leads 32 (idS (idOf k)) := leads_word (fits := numFits 1 (idOf k)) (fun s w p e => { s with pos := p, st := e, id := parseV w (idOf k) }) (fun _ _ _ _ => ⟨rfl, rfl⟩) _ (fun _ _ => rfl)
    have := L.comp F2
    unfold tailS
    simp only [if_pos h1]
    exact this
  by_cases h2 : 0 < nuOf k
  · rw [show sepOf k = 32 from if_pos (.inr (.inl h2))]
    have L : Leads 32 (numS (nuOf k)) := leads_word (fits := numFits 0 (nuOf k)) (fun s w p e => { s with pos := p, st := e, num := parseV w (nuOf k) }) (fun _ _ _ _ => ⟨rfl, rfl⟩) _ (fun _ _ => rfl)
    have := L.comp F3
    unfold tailS
    simp only [if_neg h1, if_pos h2]
    exact this
  by_cases h3 : tuOf k = true
  · rw [show sepOf k = 32 from if_pos (.inr (.inr (.inl h3)))]
    have L : Leads 32 tubeS := leads_word (fits := validB) (fun s w p e => { s with pos := p, st := e, tube := w }) (fun _ _ _ _ => ⟨rfl, rfl⟩) _ (fun _ _ => rfl)
    have := L.comp F4
    unfold tailS
    simp only [if_neg h1, if_neg h2, if_pos h3]
    exact this
  by_cases h4 : 0 < boOf k
  · rw [show sepOf k = 32 from if_pos (.inr (.inr (.inr h4)))]
    have L : Leads 32 (sizeS (boOf k)) := leads_word (fits := numFits 0 (boOf k)) (fun s w p e => { s with pos := p, st := e, size := parseV w (boOf k) }) (fun _ _ _ _ => ⟨rfl, rfl⟩) _ (fun _ _ => rfl)
    have := L.comp F5
    unfold tailS
    simp only [if_neg h1, if_neg h2, if_neg h3, if_pos h4]
    exact this
  · rw [show sepOf k = 13 from if_neg (fun h => by rcases h with h | h | h | h; exact h1 h; exact h2 h; exact h3 h; exact h4 h)]
    unfold tailS bodyS
    simp only [if_neg h1, if_neg h2, if_neg h3, if_neg h4]
    exact leads_end
theorem fine_tail (k : Nat) : Fine (tailS k) :=
  ((fine_id (idOf k)).opt (0 < idOf k)).comp (((fine_num (nuOf k)).opt (0 < nuOf k)).comp ((fine_tube.opt (tuOf k = true)).comp (((fine_size (boOf k)).opt (0 < boOf k)).comp ((fine_body k).comp (fine_text [13, 10])))))
theorem kind_tail (k : Nat) (b : List UInt8) : kindS k b = tailS k b (textS (wordOf k) b st0) := rfl
theorem kind_no (k : Nat) (b : List UInt8) (h : (textP b (leadL k) 0).2 = 2) : (kindS k b).st = 2 ∧ (kindS k b).pos = (textP b (leadL k) 0).1 := by
  unfold leadL at h ⊢
  rw [text_app] at h ⊢
  rw [kind_tail]
  have e : textS (wordOf k) b st0 = { st0 with pos := (textP b (wordOf k) 0).1, st := (textP b (wordOf k) 0).2 } := rfl
  by_cases hz : (textP b (wordOf k) 0).2 = 0
  · rw [if_pos hz] at h ⊢
    refine (leads_tail k).no b _ ?_ ?_
    · rw [e]; exact hz
    · rw [e]; exact h
  · rw [if_neg hz] at h ⊢
    rw [(fine_tail k).stuck b _ (by rw [e]; exact hz), e]
    exact ⟨h, rfl⟩
theorem kind_yes (k : Nat) (b : List UInt8) (h : (kindS k b).st = 0) : ∃ r, b = leadL k ++ r := by
  rw [kind_tail] at h
  have e : textS (wordOf k) b st0 = { st0 with pos := (textP b (wordOf k) 0).1, st := (textP b (wordOf k) 0).2 } := rfl
  have hz : (textP b (wordOf k) 0).2 = 0 := by
    by_cases hz : (textP b (wordOf k) 0).2 = 0
    · exact hz
    · rw [(fine_tail k).stuck b _ (by rw [e]; exact hz), e] at h
      exact h
  have h2 := (leads_tail k).yes b _ (by rw [e]; exact hz) h
  have h3 : (textP b (leadL k) 0).2 = 0 := by
    unfold leadL
    rw [text_app, if_pos hz]
    rw [e] at h2
    exact h2
  have := (text_good b (leadL k) 0 (Nat.zero_le _) h3).2.1
  rw [List.drop_zero] at this
  exact ⟨_, this⟩
theorem kind_lead (k : Nat) (b : List UInt8) (h : (kindS k b).st = 0) : (leadL k).length < (kindS k b).pos := by
  by_cases hlt : (leadL k).length < (kindS k b).pos
  · exact hlt
  · exfalso
    -- cut ahead of its last byte
    have hp := kind_good k b h
    obtain ⟨r, hr⟩ := kind_yes k b h
    have hb : b = b.take (leadL k).length ++ b.drop (leadL k).length := (List.take_append_drop _ _).symm
    have hl : (b.take (leadL k).length).length = (leadL k).length := by rw [hr]; simp
    have hk := kind_ext k (b.take (leadL k).length) (b.drop (leadL k).length)
    have hs := kind_strict k (b.take (leadL k).length) (b.drop (leadL k).length)
    rw [← hb] at hk hs
    by_cases h1 : (kindS k (b.take (leadL k).length)).st = 1
    · have := hs h1 h
      omega
    · have e := hk h1
      -- the last byte of a reply is 10
      have g0 : (kindS k (b.take (leadL k).length)).st = 0 := by rw [← e]; exact h
      have F := fine_all k
      obtain ⟨s5, e5⟩ : ∃ s, s = bodyS k (b.take (leadL k).length) (lineS k (b.take (leadL k).length) st0) := ⟨_, rfl⟩
      have hk5 : kindS k (b.take (leadL k).length) = textS [13, 10] (b.take (leadL k).length) s5 := by rw [e5]; rfl
      have g5 : s5.st = 0 := by
        by_cases hz : s5.st = 0
        · exact hz
        · rw [hk5, (fine_text _).stuck _ _ hz] at g0; exact g0
      have p5 : s5.pos ≤ (b.take (leadL k).length).length := by rw [e5] at g5 ⊢; exact F.good _ st0 rfl (Nat.zero_le _) g5
      have hlow : (wordOf k).length ≤ s5.pos := by
        have F2 := (((fine_id (idOf k)).opt (0 < idOf k)).comp (((fine_num (nuOf k)).opt (0 < nuOf k)).comp ((fine_tube.opt (tuOf k = true)).comp (((fine_size (boOf k)).opt (0 < boOf k)).comp (fine_body k)))))
        have es : s5 = (fun b s => bodyS k b ((fun s => if 0 < boOf k then sizeS (boOf k) b s else s) ((fun s => if tuOf k then tubeS b s else s) ((fun s => if 0 < nuOf k then numS (nuOf k) b s else s) ((fun s => if 0 < idOf k then idS (idOf k) b s else s) s))))) (b.take (leadL k).length) (textS (wordOf k) (b.take (leadL k).length) st0) := e5
        have hw : (textP (b.take (leadL k).length) (wordOf k) 0) = ((wordOf k).length, 0) := by
          rw [text_is _ (wordOf k) [sepOf k] 0 (by rw [List.drop_zero, hr, List.take_left']; rfl; rfl)]
          simp
        have ew : textS (wordOf k) (b.take (leadL k).length) st0 = { st0 with pos := (wordOf k).length, st := 0 } := by
          show { st0 with pos := (textP (b.take (leadL k).length) (wordOf k) 0).1, st := (textP (b.take (leadL k).length) (wordOf k) 0).2 } = _
          rw [hw]
        rw [ew] at es
        have := F2.low' (b.take (leadL k).length) { st0 with pos := (wordOf k).length, st := 0 } (fun _ => by rw [hl]; unfold leadL; simp)
        rw [es]
        exact this
      have q : (kindS k (b.take (leadL k).length)).pos = s5.pos + 2 := by
        rw [hk5] at g0 ⊢
        unfold textS at g0 ⊢
        rw [if_pos g5] at g0 ⊢
        exact (text_good _ [13, 10] s5.pos p5 g0).1
      have hle := kind_good k _ g0
      rw [hl] at hle
      have : (leadL k).length = (wordOf k).length + 1 := by unfold leadL; simp
      omega
/-- A whole reply of one kind is wrong for each other one, and that early. -/
theorem kind_other (i j : Nat) (b : List UInt8) (hi : 1 ≤ i ∧ i ≤ 23) (hj : 1 ≤ j ∧ j ≤ 23) (hij : i ≠ j) (h : (kindS j b).st = 0) : (kindS i b).st = 2 ∧ (kindS i b).pos < (kindS j b).pos := by
  obtain ⟨r, hr⟩ := kind_yes j b h
  obtain ⟨h1, h2⟩ := text_differ b (leadL i) (leadL j) r 0 (by rw [List.drop_zero]; exact hr) (unlike i (by omega) j (by omega) hi.1 hj.1 hij)
  obtain ⟨a, c⟩ := kind_no i b h1
  have := kind_lead j b h
  exact ⟨a, by omega⟩

theorem from_first (b : List UInt8) : ∀ (n k far j : Nat), k ≤ j → j < k + n → (∀ i, k ≤ i → i < j → (kindS i b).st = 2) → (kindS j b).st ≠ 2 → readFrom b n k far = (rpOf j (kindS j b), (kindS j b).pos, (kindS j b).st)
  | 0, k, far, j, h1, h2, _, _ => by omega
  | n + 1, k, far, j, h1, h2, h3, h4 => by
    rw [readFrom]
    by_cases e : k = j
    · subst e
      rw [if_neg h4]
    · rw [if_pos (h3 k (Nat.le_refl _) (by omega))]
      exact from_first b n (k + 1) _ j (by omega) (by omega) (fun i hi hi2 => h3 i (by omega) hi2) h4
theorem from_wrong (b : List UInt8) : ∀ (n k far : Nat), (∀ i, k ≤ i → i < k + n → (kindS i b).st = 2) → (far < b.length ∨ n ≠ 0) → far ≤ b.length - 1 → (readFrom b n k far).2.2 = 2 ∧ (readFrom b n k far).2.1 < b.length ∧ (readFrom b n k far).1 = rp0
  | 0, k, far, _, h, _ => ⟨rfl, by rcases h with h | h; exact h; exact absurd rfl h, rfl⟩
  | n + 1, k, far, h1, h2, h3 => by
    have hk := h1 k (Nat.le_refl _) (by omega)
    have hp := kind_wrong k b hk
    rw [readFrom, if_pos hk]
    exact from_wrong b n (k + 1) _ (fun i hi hi2 => h1 i (by omega) (by omega)) (.inl (by omega)) (by omega)
theorem from_pick (b : List UInt8) : ∀ (n k : Nat), (∃ j, k ≤ j ∧ j < k + n ∧ (∀ i, k ≤ i → i < j → (kindS i b).st = 2) ∧ (kindS j b).st ≠ 2) ∨ (∀ i, k ≤ i → i < k + n → (kindS i b).st = 2)
  | 0, k => .inr (fun i h1 h2 => by omega)
  | n + 1, k => by
    by_cases hk : (kindS k b).st = 2
    · rcases from_pick b n (k + 1) with ⟨j, h1, h2, h3, h4⟩ | h
      · refine .inl ⟨j, by omega, by omega, fun i hi hi2 => ?_, h4⟩
        by_cases e : i = k
        · rw [e]; exact hk
        · exact h3 i (by omega) hi2
      · refine .inr (fun i hi hi2 => ?_)
        by_cases e : i = k
        · rw [e]; exact hk
        · exact h i (by omega) (by omega)
    · exact .inl ⟨k, Nat.le_refl _, by omega, fun i h1 h2 => by omega, hk⟩
/-- How bytes are read: by the first kind that isn't wrong. -/
theorem read_pick (b : List UInt8) : (∃ j, 1 ≤ j ∧ j ≤ 23 ∧ (∀ i, 1 ≤ i → i < j → (kindS i b).st = 2) ∧ (kindS j b).st ≠ 2 ∧ readP b = (rpOf j (kindS j b), (kindS j b).pos, (kindS j b).st)) ∨ ((∀ i, 1 ≤ i → i ≤ 23 → (kindS i b).st = 2) ∧ (readP b).2.2 = 2 ∧ (readP b).2.1 < b.length ∧ (readP b).1 = rp0) := by
  rcases from_pick b 23 1 with ⟨j, h1, h2, h3, h4⟩ | h
  · exact .inl ⟨j, h1, by omega, h3, h4, from_first b 23 1 0 j h1 h2 h3 h4⟩
  · exact .inr ⟨fun i h1 h2 => h i h1 (by omega), from_wrong b 23 1 0 h (.inr (by decide)) (Nat.zero_le _)⟩
theorem from_ext (b x : List UInt8) : ∀ (n k far : Nat), (readFrom b n k far).2.2 ≠ 1 → readFrom (b ++ x) n k far = readFrom b n k far
  | 0, k, far, _ => rfl
  | n + 1, k, far, h => by
    simp only [readFrom] at h ⊢
    by_cases hk : (kindS k b).st = 2
    · rw [if_pos hk] at h
      have e := kind_ext k b x (by rw [hk]; decide)
      rw [e, if_pos hk, if_pos hk]
      exact from_ext b x n (k + 1) _ h
    · rw [if_neg hk] at h
      have e := kind_ext k b x h
      rw [e, if_neg hk, if_neg hk]
theorem read_ext (b x : List UInt8) (h : (readP b).2.2 ≠ 1) : readP (b ++ x) = readP b := from_ext b x 23 1 0 h
theorem read_three (b : List UInt8) : (readP b).2.2 ≤ 2 := by
  rcases read_pick b with ⟨j, _, _, _, _, e⟩ | ⟨_, h, _⟩
  · rw [e]; exact kind_three j b
  · omega
theorem lead_pos (k : Nat) : 1 ≤ (leadL k).length := by unfold leadL; simp
theorem read_good (b : List UInt8) (h : (readP b).2.2 = 0) : 2 ≤ (readP b).2.1 ∧ (readP b).2.1 ≤ b.length := by
  rcases read_pick b with ⟨j, _, _, _, _, e⟩ | ⟨_, h2, _⟩
  · rw [e] at h ⊢
    have := kind_lead j b h
    have := lead_pos j
    exact ⟨by show 2 ≤ (kindS j b).pos; omega, kind_good j b h⟩
  · omega
theorem read_wrong (b : List UInt8) (h : (readP b).2.2 = 2) : (readP b).2.1 < b.length ∧ (readP b).1 = rp0 := by
  rcases read_pick b with ⟨j, _, _, _, h4, e⟩ | ⟨_, _, h3⟩
  · rw [e] at h; exact absurd h h4
  · exact h3
theorem read_short (b : List UInt8) (h : (readP b).2.2 = 1) : b.length ≤ (readP b).2.1 := by
  rcases read_pick b with ⟨j, _, _, _, _, e⟩ | ⟨_, h2, _⟩
  · rw [e] at h ⊢
    exact (kind_short j b [] h).1
  · omega
/-- What stands behind a whole reply is not looked at. -/
theorem read_cut (b : List UInt8) (m : Nat) (h : (readP b).2.2 = 0) (hm : (readP b).2.1 ≤ m) : readP (b.take m) = readP b := by
  rcases read_pick b with ⟨j, h1, h2, h3, h4, e⟩ | ⟨_, h2, _⟩
  · rw [e] at h hm ⊢
    have h : (kindS j b).st = 0 := h
    have hm : (kindS j b).pos ≤ m := hm
    have hp := kind_good j b h
    have hb : b = b.take m ++ b.drop m := (List.take_append_drop _ _).symm
    have hl : (b.take m).length = min m b.length := List.length_take
    have same : ∀ i, 1 ≤ i → i ≤ j → kindS i (b.take m) = kindS i b := fun i hi hij => by
      have hx := kind_ext i (b.take m) (b.drop m)
      rw [← hb] at hx
      by_cases hs : (kindS i (b.take m)).st = 1
      · exfalso
        by_cases hij2 : i = j
        · subst hij2
          have := kind_strict i (b.take m) (b.drop m) hs (by rw [← hb]; exact h)
          rw [← hb] at this
          omega
        · have a := (kind_other i j b ⟨hi, by omega⟩ ⟨h1, h2⟩ hij2 h).2
          have c := (kind_short i (b.take m) (b.drop m) hs).2
          rw [← hb] at c
          omega
      · exact (hx hs).symm
    have := from_first (b.take m) 23 1 0 j h1 (by omega) (fun i hi hi2 => by rw [same i hi (by omega)]; exact h3 i hi hi2) (by rw [same j h1 (Nat.le_refl _)]; exact h4)
    show readFrom (b.take m) 23 1 0 = _
    rw [this, same j h1 (Nat.le_refl _)]
  · omega
end Go.Proofs.YtomgnailgddchaaDoor
