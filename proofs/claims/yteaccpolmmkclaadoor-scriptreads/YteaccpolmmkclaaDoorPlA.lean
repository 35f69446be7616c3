/-
  Plain, PlainParse, PlainSplit, PlainScript, PlainPlay.
-/
import Derived.WalkKit
namespace Go.Proofs.YteaccpolmmkclaaDoor
open Go.RowKit

/-- A byte that a word may hold. -/
def okc (c : UInt8) : Bool := decide (33 ≤ c.toNat) && decide (c.toNat ≤ 126)
/-- Is a list of bytes a word? -/
def wordB (l : List UInt8) : Bool := !l.isEmpty && l.all okc

theorem width_pos (s : ByteArray) (pos : Nat) (h : pos < s.size) : 1 ≤ (Utf8.decode s pos).2 := by
  by_cases ha : (s[pos]'h).toNat < 128
  · rw [decode_ascii s pos h ha]
    exact Nat.le_refl _
  · exact (decode_high s pos h (by omega)).2

/-- What a rune says of the byte at its place: within 0 .. 127 it is that byte. -/
theorem rune_byte (s : ByteArray) (pos : Nat) (h : pos < s.size) : (Utf8.decode s pos).1 < 128 ∧ (Utf8.decode s pos).1 = (s[pos]'h).toNat ∧ (Utf8.decode s pos).2 = 1 ∨ 128 ≤ (Utf8.decode s pos).1 ∧ 128 ≤ (s[pos]'h).toNat := by
  by_cases ha : (s[pos]'h).toNat < 128
  · left
    rw [decode_ascii s pos h ha]
    exact ⟨ha, rfl, rfl⟩
  · right
    exact ⟨(decode_high s pos h (by omega)).1, by omega⟩

theorem take_snoc (s : ByteArray) (k : Nat) (h : k < s.size) : s.data.toList.take (k + 1) = s.data.toList.take k ++ [s[k]] := by
  rw [List.take_succ_eq_append_getElem (by simpa using h)]; rfl

theorem word_step (s : ByteArray) (k : Nat) (h : k < s.size) (ha : (s.data.toList.take k).all okc = true) (h1 : 33 ≤ s[k].toNat) (h2 : s[k].toNat ≤ 126) :
    (s.data.toList.take (k + 1)).all okc = true := by
  rw [take_snoc s k h, List.all_append, ha]; simp [okc, h1, h2]

theorem word_no (s : ByteArray) (k : Nat) (h : k < s.size) (h1 : s[k].toNat < 33 ∨ 126 < s[k].toNat) : wordB s.data.toList = false := by
  have hm : s[k] ∈ s.data.toList := by
    have : s[k] = s.data[k] := rfl
    rw [this]; simp
  have : s.data.toList.all okc = false := by
    rw [List.all_eq_false]
    refine ⟨s[k], hm, ?_⟩
    simp [okc]; omega
  simp [wordB, this]

theorem word_end (s : ByteArray) (k : Nat) (h : ¬ k < s.size) (ha : (s.data.toList.take k).all okc = true) : wordB s.data.toList = !s.data.toList.isEmpty := by
  rw [List.take_of_length_le (by simp; omega)] at ha
  simp [wordB, ha]
theorem pos_empty (s : ByteArray) : decide (0 < s.size) = !s.data.isEmpty := by
  rcases s with ⟨⟨l⟩⟩
  cases l <;> simp [ByteArray.size]
theorem size_zero (s : ByteArray) (h : s.data.isEmpty = true) : s.size = 0 := by
  have := pos_empty s
  rw [h] at this
  rcases Nat.eq_zero_or_pos s.size with h | h
  · exact h
  · simp [h] at this
theorem beq_zero {n : Nat} (h : n ≠ 0) : ((n : Int) == 0) = false := beq_eq_false_iff_ne.2 (by omega)
end Go.Proofs.YteaccpolmmkclaaDoor

namespace Go.Proofs.YteaccpolmmkclaaDoor
open Go.RowKit

/-- What is read of the bytes that are left, n read so far; none: refused. -/
def parseFrom (most : Int) : List UInt8 → Int → Option Int
  | [], n => some n
  | c :: r, n => if 48 ≤ (c.toNat : Int) ∧ (c.toNat : Int) ≤ 57 then
      (if most < (c.toNat : Int) - 48 ∨ (most - ((c.toNat : Int) - 48)) / 10 < n then none else parseFrom most r (n * 10 + ((c.toNat : Int) - 48)))
    else none
/-- Parse's answer. -/
def parseV (l : List UInt8) (most : Int) : Int := if l.isEmpty then 0 else (parseFrom most l 0).getD 0
def parseB (l : List UInt8) (most : Int) : Bool := !l.isEmpty && (parseFrom most l 0).isSome

theorem drop_cons (s : ByteArray) (k : Nat) (h : k < s.size) : s.data.toList.drop k = s[k] :: s.data.toList.drop (k + 1) := by
  rw [List.drop_eq_getElem_cons (by simpa using h)]; rfl

theorem parse_step (s : ByteArray) (k : Nat) (h : k < s.size) (most n : Int) (h1 : 48 ≤ (s[k].toNat : Int)) (h2 : (s[k].toNat : Int) ≤ 57) (h3 : (s[k].toNat : Int) - 48 ≤ most)
    (h4 : n ≤ (most - ((s[k].toNat : Int) - 48)) / 10) : parseFrom most (s.data.toList.drop k) n = parseFrom most (s.data.toList.drop (k + 1)) (n * 10 + ((s[k].toNat : Int) - 48)) := by
  rw [drop_cons s k h, parseFrom, if_pos ⟨h1, h2⟩, if_neg (by omega)]

theorem parse_no (s : ByteArray) (k : Nat) (h : k < s.size) (most n : Int) (h1 : (s[k].toNat : Int) < 48 ∨ 57 < (s[k].toNat : Int)) : parseFrom most (s.data.toList.drop k) n = none := by
  rw [drop_cons s k h, parseFrom, if_neg (by omega)]

theorem parse_much (s : ByteArray) (k : Nat) (h : k < s.size) (most n : Int) (h3 : most < (s[k].toNat : Int) - 48 ∨ (most - ((s[k].toNat : Int) - 48)) / 10 < n) : parseFrom most (s.data.toList.drop k) n = none := by
  rw [drop_cons s k h, parseFrom]
  by_cases hc : 48 ≤ (s[k].toNat : Int) ∧ (s[k].toNat : Int) ≤ 57
  · rw [if_pos hc, if_pos h3]
  · rw [if_neg hc]

theorem parse_end (s : ByteArray) (k : Nat) (h : ¬ k < s.size) (most n : Int) : parseFrom most (s.data.toList.drop k) n = some n := by
  rw [List.drop_of_length_le (by simp; omega), parseFrom]

theorem parse_none (s : ByteArray) (most : Int) (h : parseFrom most s.data.toList 0 = none) : parseV s.data.toList most = 0 ∧ parseB s.data.toList most = false := by
  simp [parseV, parseB, h]
theorem parse_some (s : ByteArray) (most n : Int) (h : parseFrom most s.data.toList 0 = some n) (h0 : s.data.isEmpty = true → n = 0) : parseV s.data.toList most = n ∧ parseB s.data.toList most = !s.data.isEmpty := by
  have e : s.data.toList.isEmpty = s.data.isEmpty := by rcases s with ⟨⟨l⟩⟩; cases l <;> simp
  unfold parseV parseB
  rw [h, e]
  cases hh : s.data.isEmpty
  · simp
  · simp [h0 hh]

theorem parse_neg (s : ByteArray) (most : Int) (h : s.data.isEmpty = true ∨ most < 0) : parseV s.data.toList most = 0 ∧ parseB s.data.toList most = false := by
  have e : s.data.toList.isEmpty = s.data.isEmpty := by rcases s with ⟨⟨l⟩⟩; cases l <;> simp
  unfold parseV parseB
  rw [e]
  rcases h with h | h
  · simp [h]
  · cases hh : s.data.isEmpty
    · have hp : 0 < s.size := by have := pos_empty s; rw [hh] at this; simpa using this
      have : parseFrom most s.data.toList 0 = none := by
        have := drop_cons s 0 hp
        rw [List.drop_zero] at this
        rw [this, parseFrom]
        by_cases hc : (48 : Int) ≤ (s[0].toNat : Int) ∧ (s[0].toNat : Int) ≤ 57
        · rw [if_pos hc, if_pos (by omega)]
        · rw [if_neg hc]
      simp [this]
    · simp
end Go.Proofs.YteaccpolmmkclaaDoor

namespace Go.Proofs.YteaccpolmmkclaaDoor
open Go.RowKit

/-- The pieces of what is left, 'cur' read of the first of them. -/
def pieces : List UInt8 → List UInt8 → List (List UInt8)
  | [], cur => [cur]
  | c :: r, cur => if c.toNat = 32 then cur :: pieces r [] else pieces r (cur ++ [c])
/-- Split's words; none: it can't be split. -/
def splitL (l : List UInt8) : Option (List (List UInt8)) := if (pieces l []).all wordB then some (pieces l []) else none

theorem mem_pieces : ∀ (l cur : List UInt8) (c : UInt8), c.toNat ≠ 32 → c ∈ cur ++ l → ∃ p ∈ pieces l cur, c ∈ p
  | [], cur, c, _, h => ⟨cur, by simp [pieces], by simpa using h⟩
  | d :: r, cur, c, hc, h => by
    rw [pieces]
    split
    · rename_i hd
      rcases List.mem_append.1 h with h | h
      · exact ⟨cur, by simp, h⟩
      · rcases List.mem_cons.1 h with h | h
        · exact absurd (by rw [h]; exact hd) hc
        · obtain ⟨p, hp, hm⟩ := mem_pieces r [] c hc (by simpa using h)
          exact ⟨p, by simp [hp], hm⟩
    · exact mem_pieces r (cur ++ [d]) c hc (by simpa using h)

theorem word_bad (l : List UInt8) (c : UInt8) (h : c ∈ l) (hc : okc c = false) : wordB l = false := by
  have : l.all okc = false := List.all_eq_false.2 ⟨c, h, by simp [hc]⟩
  simp [wordB, this]

theorem split_bad (l : List UInt8) (c : UInt8) (h : c ∈ l) (hc : okc c = false) (h32 : c.toNat ≠ 32) : splitL l = none := by
  obtain ⟨p, hp, hm⟩ := mem_pieces l [] c h32 (by simpa using h)
  have : (pieces l []).all wordB = false := List.all_eq_false.2 ⟨p, hp, by simp [word_bad p c hm hc]⟩
  simp [splitL, this]

theorem piece_split (l : List UInt8) (acc : List (List UInt8)) (r cur : List UInt8) (h : pieces l [] = acc ++ pieces r cur) (hc : cur ∈ pieces r cur) (hb : wordB cur = false) : splitL l = none := by
  have : (pieces l []).all wordB = false := List.all_eq_false.2 ⟨cur, by rw [h]; simp [hc], by simp [hb]⟩
  simp [splitL, this]

theorem extract_list (s : ByteArray) (a b : Nat) : (s.extract a b).data.toList = (s.data.toList.take b).drop a := by
  simp [ByteArray.data_extract, Array.toList_extract, List.drop_take]

theorem extract_mem (s : ByteArray) (a b j : Nat) (h1 : a ≤ j) (h2 : j < b) (h3 : j < s.size) : s[j] ∈ (s.extract a b).data.toList := by
  rw [extract_list]
  have hj : j < s.data.toList.length := by simpa using h3
  have : s[j] = s.data.toList[j] := rfl
  rw [this, List.mem_iff_getElem]
  refine ⟨j - a, by simp at hj ⊢; omega, ?_⟩
  simp only [List.getElem_drop, List.getElem_take]
  congr 1
  omega

theorem byte_mem (s : ByteArray) (j : Nat) (h : j < s.size) : s[j] ∈ s.data.toList := by
  have : s[j] = s.data.toList[j]'(by simpa using h) := rfl
  rw [this]; simp

/-- The state of the loop: so far all is well, or a byte that no word holds has been met in the piece at hand. -/
def SplitAt (s : ByteArray) (pos start : Nat) (acc : List ByteArray) : Prop :=
  (start ≤ pos ∧ pos ≤ s.size ∧ pieces s.data.toList [] = acc.map (·.data.toList) ++ pieces (s.data.toList.drop pos) (s.extract start pos).data.toList) ∨
  (∃ j, start ≤ j ∧ j < pos ∧ ∃ h : j < s.size, 128 ≤ (s[j]'h).toNat)

theorem splitAt_zero (s : ByteArray) : SplitAt s 0 0 [] := .inl ⟨Nat.le_refl _, Nat.zero_le _, by simp⟩

theorem splitAt_high (s : ByteArray) (pos start wd : Nat) (acc : List ByteArray) (hs : start ≤ pos) (hp : pos < s.size) (hw : 1 ≤ wd) (hb : 128 ≤ s[pos].toNat) : SplitAt s (pos + wd) start acc :=
  .inr ⟨pos, hs, by omega, hp, hb⟩

theorem snoc_extract (s : ByteArray) (a b : Nat) (h1 : a ≤ b) (h2 : b < s.size) : (s.extract a (b + 1)).data.toList = (s.extract a b).data.toList ++ [s[b]] := by
  rw [extract_list, extract_list, take_snoc s b h2, List.drop_append_of_le_length (by simp; omega)]

theorem splitAt_step (s : ByteArray) (pos start : Nat) (acc : List ByteArray) (hs : start ≤ pos) (hp : pos < s.size) (hb : s[pos].toNat ≠ 32) (h : SplitAt s pos start acc) : SplitAt s (pos + 1) start acc := by
  rcases h with ⟨h1, h2, h3⟩ | ⟨j, h1, h2, h3, h4⟩
  · refine .inl ⟨by omega, by omega, ?_⟩
    rw [h3, drop_cons s pos hp, pieces, if_neg hb, snoc_extract s start pos h1 hp]
  · exact .inr ⟨j, h1, by omega, h3, h4⟩

theorem splitAt_word (s : ByteArray) (pos start : Nat) (acc : List ByteArray) (hp : pos < s.size) (hb : s[pos].toNat = 32) (h : SplitAt s pos start acc) (hw : wordB (s.extract start pos).data.toList = true) :
    SplitAt s (pos + 1) (pos + 1) (acc ++ [s.extract start pos]) := by
  rcases h with ⟨h1, h2, h3⟩ | ⟨j, h1, h2, h3, h4⟩
  · refine .inl ⟨by omega, by omega, ?_⟩
    rw [h3, drop_cons s pos hp, pieces, if_pos hb]
    simp
  · have := word_bad _ _ (extract_mem s start pos j h1 h2 h3) (by simp [okc]; omega)
    rw [this] at hw; cases hw

theorem splitAt_no (s : ByteArray) (pos start : Nat) (acc : List ByteArray) (hp : pos < s.size) (hb : s[pos].toNat = 32) (h : SplitAt s pos start acc) (hw : wordB (s.extract start pos).data.toList = false) : splitL s.data.toList = none := by
  rcases h with ⟨h1, h2, h3⟩ | ⟨j, h1, h2, h3, h4⟩
  · refine piece_split _ _ _ _ h3 ?_ hw
    rw [drop_cons s pos hp, pieces, if_pos hb]; simp
  · exact split_bad _ _ (byte_mem s j h3) (by simp [okc]; omega) (by omega)

theorem splitAt_end (s : ByteArray) (pos start : Nat) (acc : List ByteArray) (hp : ¬ pos < s.size) (h : SplitAt s pos start acc) (ha : ∀ x ∈ acc, wordB x.data.toList = true) (hw : wordB (s.extract start s.size).data.toList = true) :
    splitL s.data.toList = some ((acc ++ [s.extract start s.size]).map (·.data.toList)) := by
  rcases h with ⟨h1, h2, h3⟩ | ⟨j, h1, h2, h3, h4⟩
  · obtain rfl : pos = s.size := by omega
    have e : pieces s.data.toList [] = (acc ++ [s.extract start s.size]).map (·.data.toList) := by
      rw [h3, List.drop_of_length_le (by simp), pieces]; simp
    unfold splitL
    rw [if_pos, e]
    rw [e, List.all_eq_true]
    intro x hx
    obtain ⟨y, hy, rfl⟩ := List.mem_map.1 hx
    rcases List.mem_append.1 hy with hy | hy
    · exact ha y hy
    · simp at hy; subst hy; exact hw
  · have := word_bad _ _ (extract_mem s start s.size j h1 h3 h3) (by simp [okc]; omega)
    rw [this] at hw; cases hw

theorem splitAt_endNo (s : ByteArray) (pos start : Nat) (acc : List ByteArray) (hp : ¬ pos < s.size) (h : SplitAt s pos start acc) (hw : wordB (s.extract start s.size).data.toList = false) : splitL s.data.toList = none := by
  rcases h with ⟨h1, h2, h3⟩ | ⟨j, h1, h2, h3, h4⟩
  · obtain rfl : pos = s.size := by omega
    refine piece_split _ _ _ _ h3 ?_ hw
    rw [List.drop_of_length_le (by simp), pieces]; simp
  · exact split_bad _ _ (byte_mem s j h3) (by simp [okc]; omega) (by omega)
end Go.Proofs.YteaccpolmmkclaaDoor

namespace Go.Proofs.YteaccpolmmkclaaDoor
open Go.RowKit

abbrev Tx := List UInt8
/-- The greatest number of a text. -/
abbrev maxWord : Int := 4611686018427387903
/-- A step. -/
structure StepP where
  kind : Int
  conn : Int
  data : List UInt8
  brk : Int
  keep : List Int
/-- A number is read off the words. -/
def numP : List Tx → Option (Int × List Tx)
  | [] => none
  | x :: r => if parseB x maxWord then some (parseV x maxWord, r) else none
/-- Is the first word that one? -/
def hasP (k : Tx) : List Tx → Bool
  | [] => false
  | x :: _ => x == k
def numsP : List Tx → Option (List Int)
  | [] => some []
  | x :: r => if parseB x maxWord then (numsP r).map (parseV x maxWord :: ·) else none
def keepW : Tx := [107, 101, 101, 112]
def breakW : Tx := [98, 114, 101, 97, 107]
/-- A keep, and nothing behind it. -/
def keepP (l : List Tx) : Option (List Int) :=
  if hasP keepW l then (match numsP l.tail with | some (n :: r) => some (n :: r) | _ => none) else if l = [] then some [] else none
/-- A digit of sixteen. -/
def hexP (c : UInt8) : Option UInt8 :=
  if 48 ≤ c.toNat ∧ c.toNat ≤ 57 then some (UInt8.ofNat (c.toNat - 48)) else if 97 ≤ c.toNat ∧ c.toNat ≤ 102 then some (UInt8.ofNat (c.toNat - 87)) else none
def letterP (c : UInt8) : Option UInt8 := if c = 115 then some 32 else if c = 114 then some 13 else if c = 110 then some 10 else if c = 92 then some 92 else none
/-- The byte that a piece of a word begins with, and the bytes of its form. -/
def byteP : Tx → Option (UInt8 × Nat)
  | [] => none
  | c :: r =>
    if c ≠ 92 then some (c, 1) else
    match r with
    | [] => none
    | d :: s =>
      if d = 120 then
        match s with
        | x :: y :: _ => (hexP x).bind fun a => (hexP y).map fun b => (UInt8.ofNat (16 * a.toNat + b.toNat), 4)
        | _ => none
      else (letterP d).map fun v => (v, 2)
theorem byteP_pos {l : Tx} {c : UInt8} {n : Nat} (h : byteP l = some (c, n)) : 0 < n ∧ n ≤ l.length := by
  unfold byteP at h
  split at h
  · cases h
  · split at h
    · cases h; simp
    · split at h
      · cases h
      · split at h
        · split at h
          · rename_i x y t
            cases hx : hexP x with
            | none => rw [hx] at h; cases h
            | some a =>
              rw [hx] at h
              simp only [Option.bind_some] at h
              cases hy : hexP y with
              | none => rw [hy] at h; cases h
              | some b => rw [hy] at h; cases h; simp
          · cases h
        · rename_i d s _
          cases hl : letterP d with
          | none => rw [hl] at h; cases h
          | some v => rw [hl] at h; cases h; simp
/-- DATA behind its sign: read till the end. -/
def dataR : Nat → Tx → Option (List UInt8)
  | 0, l => if l = [] then some [] else none
  | f + 1, l => if l = [] then some [] else match byteP l with | some (c, n) => (dataR f (l.drop n)).map (c :: ·) | none => none
def dataP : Tx → Option (List UInt8)
  | 61 :: l => dataR l.length l
  | _ => none
theorem dataR_more : ∀ (f g : Nat) (l : Tx), l.length ≤ f → l.length ≤ g → dataR f l = dataR g l
  | 0, 0, l, _, _ => rfl
  | 0, g + 1, l, hf, _ => by
    have : l = [] := List.eq_nil_of_length_eq_zero (by omega)
    subst this
    simp [dataR]
  | f + 1, 0, l, _, hg => by
    have : l = [] := List.eq_nil_of_length_eq_zero (by omega)
    subst this
    simp [dataR]
  | f + 1, g + 1, l, hf, hg => by
    unfold dataR
    split
    · rfl
    · cases hb : byteP l with
      | none => rfl
      | some p =>
        obtain ⟨c, n⟩ := p
        have := byteP_pos hb
        simp only []
        rw [dataR_more f g (l.drop n) (by simp; omega) (by simp; omega)]
/-- What stands behind a step's word: a number, bytes, a break, a keep alone. -/
def formP (k : Int) : Option (Bool × Bool × Bool × Bool) :=
  if k = 1 then some (true, false, false, false) else if k = 2 then some (true, true, true, false) else if k = 3 then some (true, false, true, false) else if k = 4 then some (false, false, true, false) else if k = 5 then some (false, false, false, false) else if k = 6 then some (false, false, false, true) else if k = 7 then some (false, false, true, false) else none
def wordP (k : Nat) : Tx := match k with
  | 1 => [111, 112, 101, 110]
  | 2 => [102, 101, 101, 100]
  | 3 => [104, 97, 110, 103]
  | 4 => [116, 105, 99, 107]
  | 5 => [100, 114, 97, 105, 110]
  | 6 => [99, 114, 97, 115, 104]
  | 7 => [115, 116, 97, 114, 116]
  | _ => []
def kindP (x : Tx) : Int := if x = wordP 1 then 1 else if x = wordP 2 then 2 else if x = wordP 3 then 3 else if x = wordP 4 then 4 else if x = wordP 5 then 5 else if x = wordP 6 then 6 else if x = wordP 7 then 7 else 0
/-- The end of a step: a break with its keep, or a keep, or nothing. -/
def tailP (breaks keeps : Bool) (l : List Tx) : Option (Int × List Int) :=
  if breaks && hasP breakW l then
    match numP l.tail with
    | some (n, r) => if n = 0 then none else (keepP r).map fun k => (n, k)
    | none => none
  else if keeps then (keepP l).map fun k => (0, k)
  else if l = [] then some (0, []) else none
/-- A step of a kind, by the words behind its first one. -/
def stepP (k : Int) (conn data breaks keeps : Bool) (l : List Tx) : Option StepP :=
  (if conn then numP l else some (0, l)).bind fun p =>
  (if data then (match p.2 with | x :: r => (dataP x).map fun b => (b, r) | [] => none) else some ([], p.2)).bind fun q =>
  (tailP breaks keeps q.2).map fun t => ⟨k, p.1, q.1, t.1, t.2⟩
end Go.Proofs.YteaccpolmmkclaaDoor

namespace Go.Proofs.YteaccpolmmkclaaDoor
open Go.RowKit

def withinB (n a b : Int) : Bool := decide (a ≤ n) && decide (n ≤ b)
theorem within_iff {n a b : Int} : withinB n a b = true ↔ a ≤ n ∧ n ≤ b := by simp [withinB]
def configB (j s q : Int) : Bool := withinB j 1 65535 && withinB s 128 1048576 && withinB q 1024 67108864 && decide (4 * s ≤ q)
def stintW : Tx := [115, 116, 105, 110, 116]
/-- What the head says: a config, or an error. -/
def headP (x : Tx) (l : List Tx) : Except Int (Int × Int × Int) :=
  if x ≠ stintW then .error 191 else
  match numP l with
  | none => .error 192
  | some (a, l1) => match numP l1 with
    | none => .error 192
    | some (b, l2) => match numP l2 with
      | none => .error 192
      | some (c, l3) => if l3 ≠ [] then .error 192 else if configB a b c = true then .ok (a, b, c) else .error 190
/-- A step of a kind, by the words behind its first one. -/
def stepK (k : Int) (l : List Tx) : Option StepP := match formP k with | some (c, d, b, ke) => stepP k c d b ke l | none => none
def rstepP (x : Tx) (m : Nat) (l : List Tx) : Except Int StepP := if kindP x = 0 then .error 191 else if m = 4000 then .error 194 else match stepK (kindP x) l with | some p => .ok p | none => .error 192
/-- What was read so far: whether the head was, its three numbers, the steps. -/
structure Rd where
  hd : Bool
  j : Int
  s : Int
  q : Int
  steps : List StepP
def rd0 : Rd := ⟨false, 0, 0, 0, []⟩
/-- One line. -/
def lineP (st : Rd) (line : Tx) : Except Int Rd :=
  match line with
  | [] => .ok st
  | c :: r => if c = 35 then .ok st else
    match splitL (c :: r) with
    | none => .error 191
    | some [] => .error 191
    | some (x :: l) =>
      if st.hd then (match rstepP x st.steps.length l with | .ok p => .ok { st with steps := st.steps ++ [p] } | .error e => .error e)
      else (match headP x l with | .ok (a, b, c) => .ok { st with hd := true, j := a, s := b, q := c } | .error e => .error e)
/-- The lines of a text. -/
def linesA : Tx → Tx → List Tx
  | [], cur => if cur = [] then [] else [cur]
  | c :: r, cur => if c = 10 then cur :: linesA r [] else linesA r (cur ++ [c])
def linesP (t : Tx) : List Tx := linesA t []
/-- Lines one behind the other; or which one is wrong, and why. -/
def runP (st : Rd) (n : Int) : List Tx → Except (Int × Int) Rd
  | [] => .ok st
  | x :: r => match lineP st x with | .error c => .error (n + 1, c) | .ok st' => runP st' (n + 1) r
/-- What Parse tells: the play, the line, the error. -/
def parseP (t : Tx) : Rd × Int × Int :=
  if t.length > 1048576 then (rd0, 0, 193) else
  match runP rd0 0 (linesP t) with
  | .error (n, c) => (rd0, n, c)
  | .ok st => if st.hd then (st, 0, 0) else (rd0, 0, 191)
theorem linesA_one : ∀ (a cur : Tx), (∀ c ∈ a, c ≠ 10) → linesA a cur = if cur ++ a = [] then [] else [cur ++ a]
  | [], cur, _ => by simp [linesA]
  | c :: r, cur, h => by
    rw [linesA, if_neg (h c (by simp)), linesA_one r _ (fun d hd => h d (by simp [hd]))]
    simp
theorem linesA_cut : ∀ (a b cur : Tx), (∀ c ∈ a, c ≠ 10) → linesA (a ++ 10 :: b) cur = (cur ++ a) :: linesA b []
  | [], b, cur, _ => by simp [linesA]
  | c :: r, b, cur, h => by
    rw [List.cons_append, linesA, if_neg (h c (by simp)), linesA_cut r b _ (fun d hd => h d (by simp [hd]))]
    simp
theorem linesP_nil : linesP [] = [] := rfl
theorem linesP_one (a : Tx) (h : ∀ c ∈ a, c ≠ 10) (h0 : a ≠ []) : linesP a = [a] := by
  unfold linesP
  rw [linesA_one a [] h]
  simp [h0]
theorem linesP_cut (a b : Tx) (h : ∀ c ∈ a, c ≠ 10) : linesP (a ++ 10 :: b) = a :: linesP b := by
  unfold linesP
  rw [linesA_cut a b [] h]
  simp
theorem pieces_length : ∀ (l cur : List UInt8), (pieces l cur).length ≤ l.length + 1
  | [], cur => by simp [pieces]
  | c :: r, cur => by
    rw [pieces]
    split
    · have := pieces_length r []
      simp only [List.length_cons]
      omega
    · have := pieces_length r (cur ++ [c])
      simp only [List.length_cons]
      omega
theorem pieces_size : ∀ (l cur : List UInt8), ∀ x ∈ pieces l cur, x.length ≤ cur.length + l.length
  | [], cur, x, h => by
    rw [pieces] at h
    simp at h
    subst h
    simp
  | c :: r, cur, x, h => by
    rw [pieces] at h
    split at h
    · rcases List.mem_cons.1 h with rfl | h
      · simp
      · have := pieces_size r [] x h
        simp only [List.length_cons, List.length_nil] at *
        omega
    · have := pieces_size r (cur ++ [c]) x h
      simp only [List.length_append, List.length_cons, List.length_nil] at *
      omega
theorem split_sizes {l : Tx} {ws : List Tx} (h : splitL l = some ws) : ws.length ≤ l.length + 1 ∧ ∀ x ∈ ws, x.length ≤ l.length := by
  unfold splitL at h
  split at h
  · cases h
    exact ⟨pieces_length l [], fun x hx => by have := pieces_size l [] x hx; simpa using this⟩
  · cases h
end Go.Proofs.YteaccpolmmkclaaDoor
