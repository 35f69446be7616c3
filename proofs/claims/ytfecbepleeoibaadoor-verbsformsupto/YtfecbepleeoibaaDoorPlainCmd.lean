/-
  Plain facts: a command that has a line is read back of it.
-/
import Derived.Test.YtfecbepleeoibaaDoorPlainPrint
import Derived.Test.YtfecbepleeoibaaDoorPlainBack
import Derived.Test.YtfecbepleeoibaaDoorPlainNumbers
namespace Go.Proofs.YtfecbepleeoibaaDoor
open Go.RowKit

theorem ne_32 {c : UInt8} (h : c.toNat ≠ 32) : c ≠ 32 := fun e => h (by rw [e]; rfl)
theorem index_none : ∀ (x : List UInt8), (∀ c ∈ x, c.toNat ≠ 32) → Lib.index x [32] = -1
  | [], _ => rfl
  | c :: x, h => by
    have hc := ne_32 (h c (by simp))
    have ih := index_none x (fun d hd => h d (by simp [hd]))
    unfold Lib.index
    have : ([32] : List UInt8).isPrefixOf (c :: x) = false := by
      simp [List.isPrefixOf]
      exact fun e => hc e.symm
    rw [this, ih]
    rfl
theorem index_first : ∀ (x r : List UInt8), (∀ c ∈ x, c.toNat ≠ 32) → Lib.index (x ++ 32 :: r) [32] = x.length
  | [], r, _ => by
    rw [List.nil_append]
    unfold Lib.index
    simp [List.isPrefixOf]
  | c :: x, r, h => by
    have hc := ne_32 (h c (by simp))
    have ih := index_first x r (fun d hd => h d (by simp [hd]))
    rw [List.cons_append]
    unfold Lib.index
    have : ([32] : List UInt8).isPrefixOf (c :: (x ++ 32 :: r)) = false := by
      simp [List.isPrefixOf]
      exact fun e => hc e.symm
    rw [this, ih]
    have hb : (((x.length : Nat) : Int) == -1) = false := by rw [beq_eq_false_iff_ne]; omega
    simp [hb]
theorem first_word (x r : List UInt8) (hx : ∀ c ∈ x, c.toNat ≠ 32) (hr : r = [] ∨ ∃ r', r = 32 :: r') : firstL (x ++ r) = x := by
  unfold firstL Lib.cut
  rcases hr with rfl | ⟨r', rfl⟩
  · rw [List.append_nil, index_none x hx]
    rfl
  · rw [index_first x r' hx, if_pos (by omega)]
    simp

theorem okn_word {c : UInt8} (h : okn c = true) : okc c = true := by
  unfold okn others at h
  simp only [Bool.or_eq_true, Bool.and_eq_true, decide_eq_true_eq, List.contains_eq_mem, List.mem_cons, List.not_mem_nil, or_false] at h
  unfold okc
  simp only [Bool.and_eq_true, decide_eq_true_eq]
  rcases h with ((h | h) | h) | h
  · omega
  · omega
  · omega
  · rcases h with rfl | rfl | rfl | rfl | rfl | rfl | rfl | rfl | rfl <;> decide
theorem valid_word {l : List UInt8} (h : validB l = true) : wordB l = true := by
  unfold validB at h
  simp only [Bool.and_eq_true, decide_eq_true_eq] at h
  obtain ⟨⟨⟨h1, _⟩, _⟩, h4⟩ := h
  unfold wordB
  have : l.isEmpty = false := by cases l with | nil => simp at h1 | cons => rfl
  rw [this, Bool.not_false, Bool.true_and, List.all_eq_true]
  intro c hc
  exact okn_word (List.all_eq_true.1 h4 c hc)
theorem digit_ok (d : Nat) (h : d < 10) : okc (UInt8.ofNat (48 + d)) = true := by
  have e : (UInt8.ofNat (48 + d)).toNat = 48 + d := by rw [UInt8.toNat_ofNat']; omega
  unfold okc
  rw [e]
  simp
  omega
theorem dec_ok (u : Nat) : (Lib.decDigits u).all okc = true := by
  induction u using Nat.strongRecOn with
  | _ u ih =>
    by_cases h : u < 10
    · rw [dec_small h, List.all_cons, digit_ok u h]
      rfl
    · rw [dec_big h, List.all_append, ih (u / 10) (by omega), List.all_cons, digit_ok (u % 10) (by omega)]
      rfl
theorem print_dec {n : Int} (h : 0 ≤ n) : printL n = Lib.decDigits n.toNat := by
  unfold printL
  rw [if_neg (by omega)]
  obtain ⟨m, rfl⟩ := Int.eq_ofNat_of_zero_le h
  rw [Lib.itoa_nonneg]
  rfl
theorem print_word {n : Int} (h : 0 ≤ n) : wordB (printL n) = true := by
  rw [print_dec h]
  unfold wordB
  rw [dec_ok, Bool.and_true]
  cases hd : Lib.decDigits n.toNat with
  | nil => exact absurd hd (dec_ne _)
  | cons => rfl
theorem verb_word : ∀ k, k < 26 → 1 ≤ k → wordB (verbOf k) = true := by decide
theorem dec_len : ∀ (d u : Nat), u < 10 ^ (d + 1) → (Lib.decDigits u).length ≤ d + 1
  | 0, u, h => by
    rw [dec_small (by simpa using h)]
    simp
  | d + 1, u, h => by
    by_cases h10 : u < 10
    · rw [dec_small h10]
      simp
    · have := dec_len d (u / 10) (by rw [Nat.pow_succ] at h; omega)
      rw [dec_big h10, List.length_append]
      simp
      omega

/-- How long a field's word may be. -/
def wide (f : Nat) : Nat := if f = 6 then 200 else if f = 1 then 19 else 10
theorem word_fits {c : Cm} (h : lineB c = true) (f : Nat) (hf : f ∈ formOf c.kind.toNat) : wordB (wordOf c f) = true ∧ (wordOf c f).length ≤ wide f := by
  have hk := line_kind' h
  have hr := form_field c.kind.toNat (by omega) f hf
  by_cases h6 : f = 6
  · subst h6
    have ht := line_tube h
    rw [if_pos (by simpa using hf)] at ht
    unfold wordOf
    rw [if_pos rfl]
    exact ⟨valid_word ht, valid_len ht⟩
  · have hn := line_num h f (by omega)
    have hm : mostIn (formOf c.kind.toNat) f = great f := by unfold mostIn; rw [if_pos (by simpa using hf)]
    rw [hm] at hn
    unfold wordOf
    rw [if_neg h6]
    refine ⟨print_word hn.1, ?_⟩
    rw [print_dec hn.1]
    unfold wide
    rw [if_neg h6]
    by_cases h1 : f = 1
    · subst h1
      rw [if_pos rfl]
      refine dec_len 18 _ ?_
      have : great 1 = 4611686018427387903 := rfl
      omega
    · rw [if_neg h1]
      refine dec_len 9 _ ?_
      have : great f ≤ 4294967295 := by
        match f, hr, h1, h6 with
        | 2, _, _, _ => decide
        | 3, _, _, _ => decide
        | 4, _, _, _ => decide
        | 5, _, _, _ => decide
        | 0, h, _, _ => omega
        | 1, _, h, _ => exact absurd rfl h
        | 6, _, _, h => exact absurd rfl h
        | n + 7, h, _, _ => omega
      omega
theorem words_join {c : Cm} (h : lineB c = true) : joinB (wordsOf c) = true := by
  have hk := line_kind' h
  rw [joinB_iff]
  refine ⟨by simp [wordsOf], fun x hx => ?_⟩
  rcases List.mem_cons.1 hx with rfl | hx
  · exact verb_word c.kind.toNat (by omega) (by omega)
  · obtain ⟨f, hf, rfl⟩ := List.mem_map.1 hx
    exact (word_fits h f hf).1
theorem words_line {c : Cm} (h : lineB c = true) : joinV (wordsOf c) = Lib.join (wordsOf c) [32] := by
  unfold joinV
  rw [if_pos (words_join h)]
def wideSum : List Nat → Nat
  | [] => 0
  | f :: r => 1 + wide f + wideSum r
theorem total_wide : ∀ k, k < 26 → (verbOf k).length + wideSum (formOf k) ≤ 222 := by decide
theorem tail_wide : ∀ (fs : List Nat) (g : Nat → List UInt8), (∀ f ∈ fs, (g f).length ≤ wide f) → (Lib.joinTail [32] (fs.map g)).length ≤ wideSum fs
  | [], g, _ => by simp [Lib.joinTail, wideSum]
  | f :: r, g, h => by
    have ih := tail_wide r g (fun f hf => h f (by simp [hf]))
    have h0 := h f (by simp)
    simp only [Lib.joinTail, List.map_cons, List.flatten_cons, List.length_append, List.length_cons, List.length_nil, wideSum] at ih ⊢
    omega
theorem line_len {c : Cm} (h : lineB c = true) : (joinV (wordsOf c)).length ≤ 222 := by
  have hk := line_kind' h
  rw [words_line h]
  unfold wordsOf
  rw [Lib.join_cons, List.length_append]
  have := tail_wide (formOf c.kind.toNat) (wordOf c) (fun f hf => (word_fits h f hf).2)
  have := total_wide c.kind.toNat (by omega)
  omega
theorem line_first {c : Cm} (h : lineB c = true) : firstL (joinV (wordsOf c)) = verbOf c.kind.toNat := by
  have hk := line_kind' h
  rw [words_line h]
  unfold wordsOf
  rw [Lib.join_cons]
  refine first_word _ _ (word_no32 _ (verb_word c.kind.toNat (by omega) (by omega))) ?_
  cases formOf c.kind.toNat with
  | nil => exact .inl rfl
  | cons f r => exact .inr ⟨_, rfl⟩
theorem line_prefix {c : Cm} (h : lineB c = true) : (joinV (wordsOf c)).take (verbOf c.kind.toNat).length = verbOf c.kind.toNat := by
  rw [words_line h]
  unfold wordsOf
  rw [Lib.join_cons]
  simp

/-- What is read into fields of a command's own words. -/
theorem fill_words (c : Cm) : ∀ (fs : List Nat) (v : Nat → Int) (t : List UInt8), (∀ f ∈ fs, if f = 6 then validB c.tube = true else 0 ≤ numOf c f ∧ numOf c f ≤ great f) →
    fill fs (fs.map (wordOf c)) v t = some (fun i => if i ∈ fs ∧ i ≠ 6 then numOf c i else v i, if 6 ∈ fs then c.tube else t)
  | [], v, t, _ => by
    rw [List.map_nil, fill]
    simp
  | f :: fs, v, t, h => by
    have hf := h f (by simp)
    rw [List.map_cons, fill]
    by_cases h6 : f = 6
    · subst h6
      rw [if_pos rfl] at hf
      have hw : wordOf c 6 = c.tube := by unfold wordOf; rw [if_pos rfl]
      rw [if_pos rfl, hw, if_pos hf, fill_words c fs v c.tube (fun g hg => h g (by simp [hg]))]
      congr 1
      refine Prod.ext ?_ ?_
      · funext i
        by_cases hi : i = 6
        · subst hi; simp
        · simp [hi]
      · simp
    · rw [if_neg h6] at hf
      have hw : wordOf c f = Lib.decDigits (numOf c f).toNat := by unfold wordOf; rw [if_neg h6]; exact print_dec hf.1
      have hp := parsed (great f) 0 (numOf c f).toNat
      simp only [List.replicate_zero, List.nil_append] at hp
      have hb : (((numOf c f).toNat : Nat) : Int) = numOf c f := by omega
      rw [hb, if_pos hf.2, decide_eq_true hf.2] at hp
      rw [if_neg h6, hw, hp.1, hp.2, if_pos rfl, fill_words c fs _ t (fun g hg => h g (by simp [hg]))]
      congr 1
      refine Prod.ext ?_ ?_
      · funext i
        unfold upd
        by_cases hi : i = f
        · subst hi
          by_cases hm : i ∈ fs <;> simp [hm, h6]
        · simp [hi]
      · have : ¬ (6 : Nat) = f := fun e => h6 e.symm
        simp [this]
theorem line_read {c : Cm} (h : lineB c = true) : ∃ v t, readL c.kind.toNat (joinV (wordsOf c)) = some (v, t) ∧ mkC c.kind.toNat v t = c := by
  have hk := line_kind' h
  have hs := split_joined (wordsOf c) (words_join h)
  rw [← words_line h] at hs
  have hfill := fill_words c (formOf c.kind.toNat) zeros [] (fun f hf => by
    have hr := form_field c.kind.toNat (by omega) f hf
    split
    · rename_i h6
      subst h6
      have ht := line_tube h
      rw [if_pos (by simpa using hf)] at ht
      exact ht
    · have hn := line_num h f (by omega)
      have hm : mostIn (formOf c.kind.toNat) f = great f := by unfold mostIn; rw [if_pos (by simpa using hf)]
      rw [hm] at hn
      exact hn)
  refine ⟨fun i => if i ∈ formOf c.kind.toNat ∧ i ≠ 6 then numOf c i else zeros i, if 6 ∈ formOf c.kind.toNat then c.tube else [], ?_, ?_⟩
  · unfold readL
    rw [hs]
    simp only []
    rw [if_pos (by simp [wordsOf])]
    exact hfill
  · have hnum : ∀ f, f < 6 → (if f ∈ formOf c.kind.toNat ∧ f ≠ 6 then numOf c f else zeros f) = numOf c f := by
      intro f hf
      by_cases hm : f ∈ formOf c.kind.toNat
      · rw [if_pos ⟨hm, by omega⟩]
      · rw [if_neg (fun h => hm h.1)]
        have hn := line_num h f hf
        have he : mostIn (formOf c.kind.toNat) f = 0 := by unfold mostIn; rw [if_neg (by simpa using hm)]
        rw [he] at hn
        unfold zeros
        omega
    have htube : (if 6 ∈ formOf c.kind.toNat then c.tube else []) = c.tube := by
      have ht := line_tube h
      by_cases hm : 6 ∈ formOf c.kind.toNat
      · rw [if_pos hm]
      · rw [if_neg (by simpa using hm)] at ht
        rw [if_neg hm]
        exact (List.isEmpty_iff.1 ht).symm
    unfold mkC
    dsimp only
    rw [htube, hnum 1 (by decide), hnum 2 (by decide), hnum 3 (by decide), hnum 4 (by decide), hnum 5 (by decide)]
    have hkk : ((c.kind.toNat : Nat) : Int) = c.kind := by omega
    have httr : (if c.kind.toNat = 1 then max (numOf c 4) 1 else numOf c 4) = c.ttr := by
      show (if c.kind.toNat = 1 then max c.ttr 1 else c.ttr) = c.ttr
      by_cases h1 : c.kind.toNat = 1
      · rw [if_pos h1]
        have hn := (line_num h 4 (by decide)).1
        have hz : c.ttr ≠ 0 := by
          intro hz
          rw [line_ttr c (by omega) hz] at h
          cases h
        have : 0 ≤ c.ttr := hn
        omega
      · rw [if_neg h1]
    rw [httr, hkk]
    rfl
theorem line_parse {c : Cm} (h : lineB c = true) : parseC (joinV (wordsOf c)) = c ∧ parseE (joinV (wordsOf c)) = 0 := by
  have hk := line_kind' h
  obtain ⟨v, t, hr, hm⟩ := line_read h
  have hf : kindL (firstL (joinV (wordsOf c))) = c.kind.toNat := by
    rw [line_first h]
    exact kind_verb c.kind.toNat (by omega) (by omega)
  unfold parseC parseE
  rw [hf, if_neg (by omega), if_neg (by omega), hr]
  exact ⟨hm, rfl⟩
end Go.Proofs.YtfecbepleeoibaaDoor
