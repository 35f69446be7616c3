/-
  Plain, PlainParse, PlainDec, PlainNames, PlainAns.
-/
import Derived.WalkKit
import Derived.Lib.ItoaLen
import Derived.Lib.Bytealg
namespace Go.Proofs.YtienggblpmkjjaaDoor
open Go.RowKit

/-- A byte that a word may hold. -/
def okc (c : UInt8) : Bool := decide (33 ≤ c.toNat) && decide (c.toNat ≤ 126)
/-- Is a list of bytes a word? -/
def wordB (l : List UInt8) : Bool := !l.isEmpty && l.all okc

theorem width_pos (s : ByteArray) (pos : Nat) (h : pos < s.size) : 1 ≤ (Utf8.decode s pos).2 := by
  by_cases ha : (s[pos]'h).toNat < 128
  · rw [decode_ascii s pos h ha]
    exact Nat.le_refl _
  · exact (decode_high s pos h (by omega)).2

/-- What a rune says of the byte at its place: within 0 .. 127 it is that byte. -/
theorem rune_byte (s : ByteArray) (pos : Nat) (h : pos < s.size) : (Utf8.decode s pos).1 < 128 ∧ (Utf8.decode s pos).1 = (s[pos]'h).toNat ∧ (Utf8.decode s pos).2 = 1 ∨ 128 ≤ (Utf8.decode s pos).1 ∧ 128 ≤ (s[pos]'h).toNat := by
  by_cases ha : (s[pos]'h).toNat < 128
  · left
    rw [decode_ascii s pos h ha]
    exact ⟨ha, rfl, rfl⟩
  · right
    exact ⟨(decode_high s pos h (by omega)).1, by omega⟩

theorem take_snoc (s : ByteArray) (k : Nat) (h : k < s.size) : s.data.toList.take (k + 1) = s.data.toList.take k ++ [s[k]] := by
  rw [List.take_succ_eq_append_getElem (by simpa using h)]; rfl

theorem word_step (s : ByteArray) (k : Nat) (h : k < s.size) (ha : (s.data.toList.take k).all okc = true) (h1 : 33 ≤ s[k].toNat) (h2 : s[k].toNat ≤ 126) :
    (s.data.toList.take (k + 1)).all okc = true := by
  rw [take_snoc s k h, List.all_append, ha]; simp [okc, h1, h2]

theorem word_no (s : ByteArray) (k : Nat) (h : k < s.size) (h1 : s[k].toNat < 33 ∨ 126 < s[k].toNat) : wordB s.data.toList = false := by
  have hm : s[k] ∈ s.data.toList := by
    have : s[k] = s.data[k] := rfl
    rw [this]; simp
  have : s.data.toList.all okc = false := by
    rw [List.all_eq_false]
    refine ⟨s[k], hm, ?_⟩
    simp [okc]; omega
  simp [wordB, this]

theorem word_end (s : ByteArray) (k : Nat) (h : ¬ k < s.size) (ha : (s.data.toList.take k).all okc = true) : wordB s.data.toList = !s.data.toList.isEmpty := by
  rw [List.take_of_length_le (by simp; omega)] at ha
  simp [wordB, ha]
theorem pos_empty (s : ByteArray) : decide (0 < s.size) = !s.data.isEmpty := by
  rcases s with ⟨⟨l⟩⟩
  cases l <;> simp [ByteArray.size]
theorem size_zero (s : ByteArray) (h : s.data.isEmpty = true) : s.size = 0 := by
  have := pos_empty s
  rw [h] at this
  rcases Nat.eq_zero_or_pos s.size with h | h
  · exact h
  · simp [h] at this
theorem beq_zero {n : Nat} (h : n ≠ 0) : ((n : Int) == 0) = false := beq_eq_false_iff_ne.2 (by omega)
end Go.Proofs.YtienggblpmkjjaaDoor

namespace Go.Proofs.YtienggblpmkjjaaDoor
open Go.RowKit

/-- What is read of the bytes that are left, n read so far; none: refused. -/
def parseFrom (most : Int) : List UInt8 → Int → Option Int
  | [], n => some n
  | c :: r, n => if 48 ≤ (c.toNat : Int) ∧ (c.toNat : Int) ≤ 57 then
      (if most < (c.toNat : Int) - 48 ∨ (most - ((c.toNat : Int) - 48)) / 10 < n then none else parseFrom most r (n * 10 + ((c.toNat : Int) - 48)))
    else none
/-- Parse's answer. -/
def parseV (l : List UInt8) (most : Int) : Int := if l.isEmpty then 0 else (parseFrom most l 0).getD 0
def parseB (l : List UInt8) (most : Int) : Bool := !l.isEmpty && (parseFrom most l 0).isSome

theorem drop_cons (s : ByteArray) (k : Nat) (h : k < s.size) : s.data.toList.drop k = s[k] :: s.data.toList.drop (k + 1) := by
  rw [List.drop_eq_getElem_cons (by simpa using h)]; rfl

theorem parse_step (s : ByteArray) (k : Nat) (h : k < s.size) (most n : Int) (h1 : 48 ≤ (s[k].toNat : Int)) (h2 : (s[k].toNat : Int) ≤ 57) (h3 : (s[k].toNat : Int) - 48 ≤ most)
    (h4 : n ≤ (most - ((s[k].toNat : Int) - 48)) / 10) : parseFrom most (s.data.toList.drop k) n = parseFrom most (s.data.toList.drop (k + 1)) (n * 10 + ((s[k].toNat : Int) - 48)) := by
  rw [drop_cons s k h, parseFrom, if_pos ⟨h1, h2⟩, if_neg (by omega)]

theorem parse_no (s : ByteArray) (k : Nat) (h : k < s.size) (most n : Int) (h1 : (s[k].toNat : Int) < 48 ∨ 57 < (s[k].toNat : Int)) : parseFrom most (s.data.toList.drop k) n = none := by
  rw [drop_cons s k h, parseFrom, if_neg (by omega)]

theorem parse_much (s : ByteArray) (k : Nat) (h : k < s.size) (most n : Int) (h3 : most < (s[k].toNat : Int) - 48 ∨ (most - ((s[k].toNat : Int) - 48)) / 10 < n) : parseFrom most (s.data.toList.drop k) n = none := by
  rw [drop_cons s k h, parseFrom]
  by_cases hc : 48 ≤ (s[k].toNat : Int) ∧ (s[k].toNat : Int) ≤ 57
  · rw [if_pos hc, if_pos h3]
  · rw [if_neg hc]

theorem parse_end (s : ByteArray) (k : Nat) (h : ¬ k < s.size) (most n : Int) : parseFrom most (s.data.toList.drop k) n = some n := by
  rw [List.drop_of_length_le (by simp; omega), parseFrom]

theorem parse_none (s : ByteArray) (most : Int) (h : parseFrom most s.data.toList 0 = none) : parseV s.data.toList most = 0 ∧ parseB s.data.toList most = false := by
  simp [parseV, parseB, h]
theorem parse_some (s : ByteArray) (most n : Int) (h : parseFrom most s.data.toList 0 = some n) (h0 : s.data.isEmpty = true → n = 0) : parseV s.data.toList most = n ∧ parseB s.data.toList most = !s.data.isEmpty := by
  have e : s.data.toList.isEmpty = s.data.isEmpty := by rcases s with ⟨⟨l⟩⟩; cases l <;> simp
  unfold parseV parseB
  rw [h, e]
  cases hh : s.data.isEmpty
  · simp
  · simp [h0 hh]

theorem parse_neg (s : ByteArray) (most : Int) (h : s.data.isEmpty = true ∨ most < 0) : parseV s.data.toList most = 0 ∧ parseB s.data.toList most = false := by
  have e : s.data.toList.isEmpty = s.data.isEmpty := by rcases s with ⟨⟨l⟩⟩; cases l <;> simp
  unfold parseV parseB
  rw [e]
  rcases h with h | h
  · simp [h]
  · cases hh : s.data.isEmpty
    · have hp : 0 < s.size := by have := pos_empty s; rw [hh] at this; simpa using this
      have : parseFrom most s.data.toList 0 = none := by
        have := drop_cons s 0 hp
        rw [List.drop_zero] at this
        rw [this, parseFrom]
        by_cases hc : (48 : Int) ≤ (s[0].toNat : Int) ∧ (s[0].toNat : Int) ≤ 57
        · rw [if_pos hc, if_pos (by omega)]
        · rw [if_neg hc]
      simp [this]
    · simp
end Go.Proofs.YtienggblpmkjjaaDoor

namespace Go.Proofs.YtienggblpmkjjaaDoor
open Go.RowKit Go.Lib

/-- What Print writes. -/
def printL (n : Int) : List UInt8 := if n < 0 then [] else Lib.itoa n
theorem dec_small {u : Nat} (h : u < 10) : Lib.decDigits u = [UInt8.ofNat (48 + u)] := Lib.decDigits_one h
theorem dec_big {u : Nat} (h : ¬ u < 10) : Lib.decDigits u = Lib.decDigits (u / 10) ++ [UInt8.ofNat (48 + u % 10)] := by rw [Lib.decDigits, dif_neg h]
/-- The digits that are still to be written ahead of the last one of m. -/
def ahead (m : Nat) : List UInt8 := if m < 10 then [] else Lib.decDigits (m / 10)
theorem dec_ahead (m : Nat) : Lib.decDigits m = ahead m ++ [UInt8.ofNat (48 + m % 10)] := by
  unfold ahead
  split
  · rename_i h; rw [dec_small h, Nat.mod_eq_of_lt h]; rfl
  · rename_i h; rw [dec_big h]
theorem parse_append (most : Int) : ∀ (l1 l2 : List UInt8) (n : Int), parseFrom most (l1 ++ l2) n = (parseFrom most l1 n).bind (parseFrom most l2)
  | [], l2, n => by simp [parseFrom]
  | c :: r, l2, n => by
    rw [List.cons_append, parseFrom, parseFrom]
    by_cases h : 48 ≤ (c.toNat : Int) ∧ (c.toNat : Int) ≤ 57
    · rw [if_pos h, if_pos h]
      by_cases h2 : most < (c.toNat : Int) - 48 ∨ (most - ((c.toNat : Int) - 48)) / 10 < n
      · rw [if_pos h2, if_pos h2]; rfl
      · rw [if_neg h2, if_neg h2]; exact parse_append most r l2 _
    · rw [if_neg h, if_neg h]; rfl

theorem parse_one (most n : Int) (d : Nat) (hd : d < 10) : parseFrom most [UInt8.ofNat (48 + d)] n = if most < (d : Int) ∨ (most - (d : Int)) / 10 < n then none else some (n * 10 + (d : Int)) := by
  have e : ((UInt8.ofNat (48 + d)).toNat : Int) = 48 + (d : Int) := by
    rw [UInt8.toNat_ofNat']
    omega
  rw [parseFrom, e, if_pos (by omega), show (48 + (d : Int) - 48) = (d : Int) by omega, parseFrom]

theorem parse_dec (most : Int) (u : Nat) : parseFrom most (Lib.decDigits u) 0 = if (u : Int) ≤ most then some (u : Int) else none := by
  induction u using Nat.strongRecOn with
  | _ u ih =>
    by_cases h : u < 10
    · rw [dec_small h, parse_one most 0 u h]
      by_cases hm : (u : Int) ≤ most
      · rw [if_neg (by omega), if_pos hm]; congr 1; omega
      · rw [if_pos (by omega), if_neg hm]
    · rw [dec_big h, parse_append, ih (u / 10) (by omega)]
      by_cases hm : ((u / 10 : Nat) : Int) ≤ most
      · rw [if_pos hm, Option.bind_some, parse_one most _ (u % 10) (by omega)]
        by_cases hu : (u : Int) ≤ most
        · rw [if_neg (by omega), if_pos hu]; congr 1; omega
        · rw [if_pos (by omega), if_neg hu]
      · rw [if_neg hm, if_neg (by omega)]; rfl

theorem parse_zeros (most : Int) (hm : 0 ≤ most) : ∀ z : Nat, parseFrom most (List.replicate z 48) 0 = some 0
  | 0 => rfl
  | z + 1 => by
    rw [List.replicate_succ, parseFrom, if_pos (by decide), if_neg (by simp; omega)]
    exact parse_zeros most hm z

theorem parse_printed (most : Int) (z u : Nat) : parseFrom most (List.replicate z 48 ++ Lib.decDigits u) 0 = if (u : Int) ≤ most then some (u : Int) else none := by
  by_cases hm : 0 ≤ most
  · rw [parse_append, parse_zeros most hm z, Option.bind_some, parse_dec]
  · rw [if_neg (by omega)]
    cases z with
    | zero => rw [List.replicate_zero, List.nil_append, parse_dec, if_neg (by omega)]
    | succ z => rw [List.replicate_succ, List.cons_append, parseFrom, if_pos (by decide), if_pos (by simp; omega)]

theorem dec_ne (u : Nat) : Lib.decDigits u ≠ [] := by rw [dec_ahead]; simp

theorem parsed (most : Int) (z u : Nat) : parseV (List.replicate z 48 ++ Lib.decDigits u) most = (if (u : Int) ≤ most then (u : Int) else 0) ∧ parseB (List.replicate z 48 ++ Lib.decDigits u) most = decide ((u : Int) ≤ most) := by
  have hne : (List.replicate z 48 ++ Lib.decDigits u).isEmpty = false := by
    rw [Bool.eq_false_iff]; intro h
    rw [List.isEmpty_iff, List.append_eq_nil_iff] at h
    exact dec_ne u h.2
  unfold parseV parseB
  rw [hne, parse_printed]
  by_cases h : (u : Int) ≤ most
  · simp [h]
  · simp [h]
theorem print_dec {n : Int} (h : 0 ≤ n) : printL n = Lib.decDigits n.toNat := by
  unfold printL
  rw [if_neg (by omega)]
  obtain ⟨m, rfl⟩ := Int.eq_ofNat_of_zero_le h
  rw [Lib.itoa_nonneg]
  rfl
end Go.Proofs.YtienggblpmkjjaaDoor

namespace Go.Proofs.YtienggblpmkjjaaDoor
open Go.RowKit

/-- The bytes that a name may have besides letters and figures. -/
def others : List UInt8 := [45, 43, 47, 59, 46, 36, 95, 40, 41]
/-- A byte that a name may have. -/
def okn (c : UInt8) : Bool := (decide (97 ≤ c.toNat) && decide (c.toNat ≤ 122)) || (decide (65 ≤ c.toNat) && decide (c.toNat ≤ 90)) || (decide (48 ≤ c.toNat) && decide (c.toNat ≤ 57)) || others.contains c
/-- May a text be a name? -/
def validB (l : List UInt8) : Bool := decide (1 ≤ l.length) && decide (l.length ≤ 200) && !(l.head? == some 45) && l.all okn

theorem index_has (c : UInt8) : ∀ l : List UInt8, decide (0 ≤ Lib.indexByte l c) = l.contains c
  | [] => by simp [Lib.indexByte]
  | b :: l => by
    have ih := index_has c l
    have hge := Lib.indexByte_ge l c
    unfold Lib.indexByte
    by_cases h : b = c
    · subst h
      simp
    · have h2 : (c == b) = false := beq_eq_false_iff_ne.2 fun e => h e.symm
      rw [List.contains_cons, h2, Bool.false_or, ← ih, if_neg (by simpa using h)]
      by_cases h3 : Lib.indexByte l c = -1
      · simp [h3]
      · rw [if_neg (by simpa using h3)]
        have : 0 ≤ Lib.indexByte l c := by omega
        simp [this]
        omega
theorem index_others (c : UInt8) : decide (0 ≤ Lib.indexByte others c) = others.contains c := index_has c others
theorem okn_in {c : UInt8} (h : 97 ≤ c.toNat ∧ c.toNat ≤ 122 ∨ 65 ≤ c.toNat ∧ c.toNat ≤ 90 ∨ 48 ≤ c.toNat ∧ c.toNat ≤ 57) : okn c = true := by
  unfold okn
  rcases h with ⟨h, k⟩ | ⟨h, k⟩ | ⟨h, k⟩ <;> simp [h, k]
theorem okn_out {c : UInt8} (h : c.toNat < 97 ∨ 122 < c.toNat) (k : c.toNat < 65 ∨ 90 < c.toNat) (l : c.toNat < 48 ∨ 57 < c.toNat) : okn c = others.contains c := by
  unfold okn
  rw [show (decide (97 ≤ c.toNat) && decide (c.toNat ≤ 122)) = false by simp; omega, show (decide (65 ≤ c.toNat) && decide (c.toNat ≤ 90)) = false by simp; omega, show (decide (48 ≤ c.toNat) && decide (c.toNat ≤ 57)) = false by simp; omega]
  simp
/-- A letter or a figure. -/
def alnum (c : UInt8) : Bool := (decide (97 ≤ c.toNat) && decide (c.toNat ≤ 122)) || (decide (65 ≤ c.toNat) && decide (c.toNat ≤ 90)) || (decide (48 ≤ c.toNat) && decide (c.toNat ≤ 57))
theorem okn_alnum (c : UInt8) : okn c = (alnum c || others.contains c) := rfl
theorem alnum_in {c : UInt8} (h : 97 ≤ c.toNat ∧ c.toNat ≤ 122 ∨ 65 ≤ c.toNat ∧ c.toNat ≤ 90 ∨ 48 ≤ c.toNat ∧ c.toNat ≤ 57) : alnum c = true := by
  unfold alnum
  rcases h with ⟨h, k⟩ | ⟨h, k⟩ | ⟨h, k⟩ <;> simp [h, k]
theorem alnum_out {c : UInt8} (h : c.toNat < 97 ∨ 122 < c.toNat) (k : c.toNat < 65 ∨ 90 < c.toNat) (l : c.toNat < 48 ∨ 57 < c.toNat) : alnum c = false := by
  unfold alnum
  rw [show (decide (97 ≤ c.toNat) && decide (c.toNat ≤ 122)) = false by simp; omega, show (decide (65 ≤ c.toNat) && decide (c.toNat ≤ 90)) = false by simp; omega, show (decide (48 ≤ c.toNat) && decide (c.toNat ≤ 57)) = false by simp; omega]
  rfl
/-- The bytes besides letters and figures, as a text. -/
def otherB : ByteArray := ⟨#[45, 43, 47, 59, 46, 36, 95, 40, 41]⟩
theorem others_step {c : UInt8} {k : Nat} (h : k < otherB.size) : (others.take (k + 1)).contains c = ((others.take k).contains c || decide (c.toNat = otherB[k].toNat)) := by
  have hk : k < others.length := h
  show _ = (_ || decide (c.toNat = others[k].toNat))
  rw [List.take_succ_eq_append_getElem hk, List.contains_eq_any_beq, List.any_append, ← List.contains_eq_any_beq]
  congr 1
  by_cases h2 : c = others[k]
  · simp [h2]
  · simp [h2, UInt8.toNat_inj]
theorem valid_step (s : ByteArray) (k : Nat) (h : k < s.size) (ha : (s.data.toList.take k).all okn = true) (h1 : okn s[k] = true) : (s.data.toList.take (k + 1)).all okn = true := by
  rw [take_snoc s k h, List.all_append, ha]; simp [h1]
theorem valid_no (s : ByteArray) (k : Nat) (h : k < s.size) (h1 : okn s[k] = false) : validB s.data.toList = false := by
  have hm : s[k] ∈ s.data.toList := by
    have : s[k] = s.data[k] := rfl
    rw [this]; simp
  have : s.data.toList.all okn = false := by
    rw [List.all_eq_false]
    exact ⟨s[k], hm, by simp [h1]⟩
  simp [validB, this]
theorem head_of (s : ByteArray) (h : 0 < s.size) : s.data.toList.head? = some s[0] := by
  rw [List.head?_eq_getElem?, List.getElem?_eq_getElem (by simpa using h)]; rfl
theorem valid_short (s : ByteArray) (h : s.size < 1) : validB s.data.toList = false := by
  have : s.data.toList.length = s.size := by simp
  simp [validB]; omega
theorem valid_long (s : ByteArray) (h : 200 < s.size) : validB s.data.toList = false := by
  have : s.data.toList.length = s.size := by simp
  have : ¬ s.data.toList.length ≤ 200 := by omega
  unfold validB
  rw [decide_eq_false this]
  simp
theorem valid_dash (s : ByteArray) (h : 0 < s.size) (h1 : s[0].toNat = 45) : validB s.data.toList = false := by
  have e : s[0] = 45 := UInt8.toNat_inj.1 (by rw [h1]; rfl)
  simp [validB, head_of s h, e]
theorem valid_end (s : ByteArray) (k : Nat) (h : ¬ k < s.size) (h0 : 1 ≤ s.size) (h2 : s.size ≤ 200) (h1 : s[0].toNat ≠ 45) (ha : (s.data.toList.take k).all okn = true) : validB s.data.toList = true := by
  rw [List.take_of_length_le (by simp; omega)] at ha
  have e : s[0] ≠ 45 := fun e => h1 (by rw [e]; rfl)
  have : s.data.toList.length = s.size := by simp
  have i1 : 1 ≤ s.data.toList.length := by omega
  have i2 : s.data.toList.length ≤ 200 := by omega
  unfold validB
  rw [ha, head_of s h0, decide_eq_true i1, decide_eq_true i2]
  simp [e]
end Go.Proofs.YtienggblpmkjjaaDoor

namespace Go.Proofs.YtienggblpmkjjaaDoor
open Go.RowKit

/-- The words, and the fields behind them, by kinds. -/
def wordT : List (List UInt8) := [[], [73, 78, 83, 69, 82, 84, 69, 68], [85, 83, 73, 78, 71], [82, 69, 83, 69, 82, 86, 69, 68], [68, 69, 65, 68, 76, 73, 78, 69, 95, 83, 79, 79, 78], [84, 73, 77, 69, 68, 95, 79, 85, 84], [68, 69, 76, 69, 84, 69, 68], [82, 69, 76, 69, 65, 83, 69, 68], [66, 85, 82, 73, 69, 68], [84, 79, 85, 67, 72, 69, 68], [87, 65, 84, 67, 72, 73, 78, 71], [78, 79, 84, 95, 73, 71, 78, 79, 82, 69, 68], [70, 79, 85, 78, 68], [75, 73, 67, 75, 69, 68], [75, 73, 67, 75, 69, 68], [80, 65, 85, 83, 69, 68], [79, 75], [78, 79, 84, 95, 70, 79, 85, 78, 68], [79, 85, 84, 95, 79, 70, 95, 77, 69, 77, 79, 82, 89], [66, 65, 68, 95, 70, 79, 82, 77, 65, 84], [85, 78, 75, 78, 79, 87, 78, 95, 67, 79, 77, 77, 65, 78, 68], [69, 88, 80, 69, 67, 84, 69, 68, 95, 67, 82, 76, 70], [74, 79, 66, 95, 84, 79, 79, 95, 66, 73, 71], [68, 82, 65, 73, 78, 73, 78, 71]]
def wordOf (k : Nat) : List UInt8 := wordT.getD k []
def idOf (k : Nat) : Int := ([0, 1099511627776, 0, 1099511627776, 0, 0, 0, 0, 0, 0, 0, 0, 1099511627776, 0, 0, 0, 0, 0, 0, 0, 0, 0, 0, 0] : List Int).getD k 0
def nuOf (k : Nat) : Int := ([0, 0, 0, 0, 0, 0, 0, 0, 0, 0, 4294967295, 0, 0, 4294967295, 0, 0, 0, 0, 0, 0, 0, 0, 0, 0] : List Int).getD k 0
def boOf (k : Nat) : Int := ([0, 0, 0, 65535, 0, 0, 0, 0, 0, 0, 0, 0, 65535, 0, 0, 0, 4294967295, 0, 0, 0, 0, 0, 0, 0] : List Int).getD k 0
def tuOf (k : Nat) : Bool := ([false, false, true, false, false, false, false, false, false, false, false, false, false, false, false, false, false, false, false, false, false, false, false, false] : List Bool).getD k false

/-- A reply. -/
structure Rp where
  kind : Int
  id : Int
  num : Int
  tube : List UInt8
  body : List UInt8

/-- May a reply be? -/
def rightB (r : Rp) : Bool := decide (1 ≤ r.kind) && decide (r.kind ≤ 23) && decide (min (idOf r.kind.toNat) 1 ≤ r.id) && decide (r.id ≤ idOf r.kind.toNat) && decide (0 ≤ r.num) && decide (r.num ≤ nuOf r.kind.toNat) && decide ((r.body.length : Int) ≤ boOf r.kind.toNat) &&
  (if tuOf r.kind.toNat then validB r.tube else r.tube.isEmpty)
def checkE (r : Rp) : Int := if 1 ≤ r.kind ∧ r.kind ≤ 23 then (if rightB r then 0 else 81) else 80
/-- A number's figures. -/
def decL (n : Int) : List UInt8 := Lib.decDigits n.toNat
/-- The fields of a reply's line, each with its blank. -/
def fieldsL (r : Rp) : List UInt8 :=
  (if 0 < idOf r.kind.toNat then 32 :: decL r.id else []) ++ (if 0 < nuOf r.kind.toNat then 32 :: decL r.num else []) ++
  (if tuOf r.kind.toNat then 32 :: r.tube else []) ++ (if 0 < boOf r.kind.toNat then 32 :: decL r.body.length else [])
/-- A reply's bytes. -/
def putL (r : Rp) : List UInt8 := wordOf r.kind.toNat ++ fieldsL r ++ [13, 10] ++ (if 0 < boOf r.kind.toNat then r.body ++ [13, 10] else [])

/-- A text, held against bytes from a place on: where it got to, and 0: it stands there, 1: they end, 2: one is wrong. -/
def textP (b : List UInt8) : List UInt8 → Nat → Nat × Nat
  | [], p => (p, 0)
  | c :: s, p => match b[p]? with
    | none => (p, 1)
    | some x => if x = c then textP b s (p + 1) else (p, 2)
/-- How long the longest beginning is that fits. -/
def fitN (fits : List UInt8 → Bool) (s : List UInt8) : Nat := (List.range s.length).countP (fun i => fits (s.take (i + 1)))
/-- A blank and a word. -/
def wordP (b : List UInt8) (fits : List UInt8 → Bool) (p : Nat) : List UInt8 × Nat × Nat :=
  if (textP b [32] p).2 = 0 then
    (((b.drop (p + 1)).take 200).take (fitN fits ((b.drop (p + 1)).take 200)), p + 1 + fitN fits ((b.drop (p + 1)).take 200),
      if p + 1 + fitN fits ((b.drop (p + 1)).take 200) = b.length then 1 else if fitN fits ((b.drop (p + 1)).take 200) = 0 then 2 else 0)
  else ([], textP b [32] p)
def numFits (least most : Int) (s : List UInt8) : Bool := parseB s most && decide (least ≤ parseV s most) && decide (decL (parseV s most) = s)

/-- How far a reply is read. -/
structure St where
  pos : Nat
  st : Nat
  id : Int
  num : Int
  tube : List UInt8
  size : Int
  body : List UInt8

def textS (w : List UInt8) (b : List UInt8) (s : St) : St := if s.st = 0 then { s with pos := (textP b w s.pos).1, st := (textP b w s.pos).2 } else s
def idS (m : Int) (b : List UInt8) (s : St) : St := if s.st = 0 then { s with pos := (wordP b (numFits 1 m) s.pos).2.1, st := (wordP b (numFits 1 m) s.pos).2.2, id := parseV (wordP b (numFits 1 m) s.pos).1 m } else s
def numS (m : Int) (b : List UInt8) (s : St) : St := if s.st = 0 then { s with pos := (wordP b (numFits 0 m) s.pos).2.1, st := (wordP b (numFits 0 m) s.pos).2.2, num := parseV (wordP b (numFits 0 m) s.pos).1 m } else s
def tubeS (b : List UInt8) (s : St) : St := if s.st = 0 then { s with pos := (wordP b validB s.pos).2.1, st := (wordP b validB s.pos).2.2, tube := (wordP b validB s.pos).1 } else s
def sizeS (m : Int) (b : List UInt8) (s : St) : St := if s.st = 0 then { s with pos := (wordP b (numFits 0 m) s.pos).2.1, st := (wordP b (numFits 0 m) s.pos).2.2, size := parseV (wordP b (numFits 0 m) s.pos).1 m } else s
def takeS (b : List UInt8) (s : St) : St := if s.st = 0 then (if b.length < s.pos + s.size.toNat then { s with pos := s.pos + s.size.toNat, st := 1 } else { s with pos := s.pos + s.size.toNat, body := (b.drop s.pos).take s.size.toNat }) else s

def st0 : St := ⟨0, 0, 0, 0, [], 0, []⟩
/-- The first line of a kind, but for its end. -/
def lineS (k : Nat) (b : List UInt8) (s : St) : St :=
  (fun s => if 0 < boOf k then sizeS (boOf k) b s else s) ((fun s => if tuOf k then tubeS b s else s) ((fun s => if 0 < nuOf k then numS (nuOf k) b s else s) ((fun s => if 0 < idOf k then idS (idOf k) b s else s) (textS (wordOf k) b s))))
/-- And a body, where there is one. -/
def bodyS (k : Nat) (b : List UInt8) (s : St) : St := if 0 < boOf k then takeS b (textS [13, 10] b s) else s
def kindS (k : Nat) (b : List UInt8) : St := textS [13, 10] b (bodyS k b (lineS k b st0))
def rpOf (k : Nat) (s : St) : Rp := ⟨k, s.id, s.num, s.tube, s.body⟩
def rp0 : Rp := ⟨0, 0, 0, [], []⟩
/-- The reply that bytes begin with. -/
def readFrom (b : List UInt8) : Nat → Nat → Nat → Rp × Nat × Nat
  | 0, _, far => (rp0, far, 2)
  | n + 1, k, far => if (kindS k b).st = 2 then readFrom b n (k + 1) (max far (kindS k b).pos) else (rpOf k (kindS k b), (kindS k b).pos, (kindS k b).st)
def readP (b : List UInt8) : Rp × Nat × Nat := readFrom b 23 1 0
end Go.Proofs.YtienggblpmkjjaaDoor
