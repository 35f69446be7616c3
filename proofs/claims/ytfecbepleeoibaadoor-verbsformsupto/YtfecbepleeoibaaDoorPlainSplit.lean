/-
  Plain facts for Split: the pieces between blanks.
-/
import Derived.Test.YtfecbepleeoibaaDoorPlainParse
namespace Go.Proofs.YtfecbepleeoibaaDoor
open Go.RowKit

/-- The pieces of what is left, 'cur' read of the first of them. -/
def pieces : List UInt8 → List UInt8 → List (List UInt8)
  | [], cur => [cur]
  | c :: r, cur => if c.toNat = 32 then cur :: pieces r [] else pieces r (cur ++ [c])
/-- Split's words; none: it can't be split. -/
def splitL (l : List UInt8) : Option (List (List UInt8)) := if (pieces l []).all wordB then some (pieces l []) else none

theorem mem_pieces : ∀ (l cur : List UInt8) (c : UInt8), c.toNat ≠ 32 → c ∈ cur ++ l → ∃ p ∈ pieces l cur, c ∈ p
  | [], cur, c, _, h => ⟨cur, by simp [pieces], by simpa using h⟩
  | d :: r, cur, c, hc, h => by
    rw [pieces]
    split
    · rename_i hd
      rcases List.mem_append.1 h with h | h
      · exact ⟨cur, by simp, h⟩
      · rcases List.mem_cons.1 h with h | h
        · exact absurd (by rw [h]; exact hd) hc
        · obtain ⟨p, hp, hm⟩ := mem_pieces r [] c hc (by simpa using h)
          exact ⟨p, by simp [hp], hm⟩
    · exact mem_pieces r (cur ++ [d]) c hc (by simpa using h)

theorem word_bad (l : List UInt8) (c : UInt8) (h : c ∈ l) (hc : okc c = false) : wordB l = false := by
  have : l.all okc = false := List.all_eq_false.2 ⟨c, h, by simp [hc]⟩
  simp [wordB, this]

theorem split_bad (l : List UInt8) (c : UInt8) (h : c ∈ l) (hc : okc c = false) (h32 : c.toNat ≠ 32) : splitL l = none := by
  obtain ⟨p, hp, hm⟩ := mem_pieces l [] c h32 (by simpa using h)
  have : (pieces l []).all wordB = false := List.all_eq_false.2 ⟨p, hp, by simp [word_bad p c hm hc]⟩
  simp [splitL, this]

theorem piece_split (l : List UInt8) (acc : List (List UInt8)) (r cur : List UInt8) (h : pieces l [] = acc ++ pieces r cur) (hc : cur ∈ pieces r cur) (hb : wordB cur = false) : splitL l = none := by
  have : (pieces l []).all wordB = false := List.all_eq_false.2 ⟨cur, by rw [h]; simp [hc], by simp [hb]⟩
  simp [splitL, this]

theorem extract_list (s : ByteArray) (a b : Nat) : (s.extract a b).data.toList = (s.data.toList.take b).drop a := by
  simp [ByteArray.data_extract, Array.toList_extract, List.drop_take]

theorem extract_mem (s : ByteArray) (a b j : Nat) (h1 : a ≤ j) (h2 : j < b) (h3 : j < s.size) : s[j] ∈ (s.extract a b).data.toList := by
  rw [extract_list]
  have hj : j < s.data.toList.length := by simpa using h3
  have : s[j] = s.data.toList[j] := rfl
  rw [this, List.mem_iff_getElem]
  refine ⟨j - a, by simp at hj ⊢; omega, ?_⟩
  simp only [List.getElem_drop, List.getElem_take]
  congr 1
  omega

theorem byte_mem (s : ByteArray) (j : Nat) (h : j < s.size) : s[j] ∈ s.data.toList := by
  have : s[j] = s.data.toList[j]'(by simpa using h) := rfl
  rw [this]; simp

/-- The state of the loop: so far all is well, or a byte that no word holds has been met in the piece at hand. -/
def SplitAt (s : ByteArray) (pos start : Nat) (acc : List ByteArray) : Prop :=
  (start ≤ pos ∧ pos ≤ s.size ∧ pieces s.data.toList [] = acc.map (·.data.toList) ++ pieces (s.data.toList.drop pos) (s.extract start pos).data.toList) ∨
  (∃ j, start ≤ j ∧ j < pos ∧ ∃ h : j < s.size, 128 ≤ (s[j]'h).toNat)

theorem splitAt_zero (s : ByteArray) : SplitAt s 0 0 [] := .inl ⟨Nat.le_refl _, Nat.zero_le _, by simp⟩

theorem splitAt_high (s : ByteArray) (pos start wd : Nat) (acc : List ByteArray) (hs : start ≤ pos) (hp : pos < s.size) (hw : 1 ≤ wd) (hb : 128 ≤ s[pos].toNat) : SplitAt s (pos + wd) start acc :=
  .inr ⟨pos, hs, by omega, hp, hb⟩

theorem snoc_extract (s : ByteArray) (a b : Nat) (h1 : a ≤ b) (h2 : b < s.size) : (s.extract a (b + 1)).data.toList = (s.extract a b).data.toList ++ [s[b]] := by
  rw [extract_list, extract_list, take_snoc s b h2, List.drop_append_of_le_length (by simp; omega)]

theorem splitAt_step (s : ByteArray) (pos start : Nat) (acc : List ByteArray) (hs : start ≤ pos) (hp : pos < s.size) (hb : s[pos].toNat ≠ 32) (h : SplitAt s pos start acc) : SplitAt s (pos + 1) start acc := by
  rcases h with ⟨h1, h2, h3⟩ | ⟨j, h1, h2, h3, h4⟩
  · refine .inl ⟨by omega, by omega, ?_⟩
    rw [h3, drop_cons s pos hp, pieces, if_neg hb, snoc_extract s start pos h1 hp]
  · exact .inr ⟨j, h1, by omega, h3, h4⟩

theorem splitAt_word (s : ByteArray) (pos start : Nat) (acc : List ByteArray) (hp : pos < s.size) (hb : s[pos].toNat = 32) (h : SplitAt s pos start acc) (hw : wordB (s.extract start pos).data.toList = true) :
    SplitAt s (pos + 1) (pos + 1) (acc ++ [s.extract start pos]) := by
  rcases h with ⟨h1, h2, h3⟩ | ⟨j, h1, h2, h3, h4⟩
  · refine .inl ⟨by omega, by omega, ?_⟩
    rw [h3, drop_cons s pos hp, pieces, if_pos hb]
    simp
  · have := word_bad _ _ (extract_mem s start pos j h1 h2 h3) (by simp [okc]; omega)
    rw [this] at hw; cases hw

theorem splitAt_no (s : ByteArray) (pos start : Nat) (acc : List ByteArray) (hp : pos < s.size) (hb : s[pos].toNat = 32) (h : SplitAt s pos start acc) (hw : wordB (s.extract start pos).data.toList = false) : splitL s.data.toList = none := by
  rcases h with ⟨h1, h2, h3⟩ | ⟨j, h1, h2, h3, h4⟩
  · refine piece_split _ _ _ _ h3 ?_ hw
    rw [drop_cons s pos hp, pieces, if_pos hb]; simp
  · exact split_bad _ _ (byte_mem s j h3) (by simp [okc]; omega) (by omega)

theorem splitAt_end (s : ByteArray) (pos start : Nat) (acc : List ByteArray) (hp : ¬ pos < s.size) (h : SplitAt s pos start acc) (ha : ∀ x ∈ acc, wordB x.data.toList = true) (hw : wordB (s.extract start s.size).data.toList = true) :
    splitL s.data.toList = some ((acc ++ [s.extract start s.size]).map (·.data.toList)) := by
  rcases h with ⟨h1, h2, h3⟩ | ⟨j, h1, h2, h3, h4⟩
  · obtain rfl : pos = s.size := by omega
    have e : pieces s.data.toList [] = (acc ++ [s.extract start s.size]).map (·.data.toList) := by
      rw [h3, List.drop_of_length_le (by simp), pieces]; simp
    unfold splitL
    rw [if_pos, e]
    rw [e, List.all_eq_true]
    intro x hx
    obtain ⟨y, hy, rfl⟩ := List.mem_map.1 hx
    rcases List.mem_append.1 hy with hy | hy
    · exact ha y hy
    · simp at hy; subst hy; exact hw
  · have := word_bad _ _ (extract_mem s start s.size j h1 h3 h3) (by simp [okc]; omega)
    rw [this] at hw; cases hw

theorem splitAt_endNo (s : ByteArray) (pos start : Nat) (acc : List ByteArray) (hp : ¬ pos < s.size) (h : SplitAt s pos start acc) (hw : wordB (s.extract start s.size).data.toList = false) : splitL s.data.toList = none := by
  rcases h with ⟨h1, h2, h3⟩ | ⟨j, h1, h2, h3, h4⟩
  · obtain rfl : pos = s.size := by omega
    refine piece_split _ _ _ _ h3 ?_ hw
    rw [List.drop_of_length_le (by simp), pieces]; simp
  · exact split_bad _ _ (byte_mem s j h3) (by simp [okc]; omega) (by omega)
end Go.Proofs.YtfecbepleeoibaaDoor
