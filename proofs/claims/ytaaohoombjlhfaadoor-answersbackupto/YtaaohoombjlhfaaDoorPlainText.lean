/-
  Plain facts: a text and a word, held against bytes.
-/
import Derived.Test.YtaaohoombjlhfaaDoorPlainAns
namespace Go.Proofs.YtaaohoombjlhfaaDoor
open Go.RowKit

theorem get_app {b x : List UInt8} {p : Nat} {y : UInt8} (h : b[p]? = some y) : (b ++ x)[p]? = some y := by
  rw [List.getElem?_append_left (List.getElem?_eq_some_iff.1 h).1]
  exact h
theorem text_ext (b x : List UInt8) : ∀ (w : List UInt8) (p : Nat), (textP b w p).2 ≠ 1 → textP (b ++ x) w p = textP b w p
  | [], p, _ => rfl
  | c :: w, p, h => by
    unfold textP at h ⊢
    cases hb : b[p]? with
    | none => rw [hb] at h; exact absurd rfl h
    | some y =>
      rw [hb] at h
      rw [get_app hb]
      simp only at h ⊢
      split
      · rename_i e
        rw [if_pos e] at h
        exact text_ext b x w (p + 1) h
      · rfl
theorem text_low (b : List UInt8) : ∀ (w : List UInt8) (p : Nat), p ≤ (textP b w p).1
  | [], p => Nat.le_refl _
  | c :: w, p => by
    unfold textP
    cases hb : b[p]? with
    | none => exact Nat.le_refl _
    | some y =>
      simp only
      split
      · have := text_low b w (p + 1); omega
      · exact Nat.le_refl _
theorem text_three (b : List UInt8) : ∀ (w : List UInt8) (p : Nat), (textP b w p).2 ≤ 2
  | [], p => by simp [textP]
  | c :: w, p => by
    unfold textP
    cases hb : b[p]? with
    | none => simp
    | some y =>
      simp only
      split
      · exact text_three b w (p + 1)
      · exact Nat.le_refl _
theorem drop_get {b : List UInt8} {p : Nat} {y : UInt8} (h : b[p]? = some y) : b.drop p = y :: b.drop (p + 1) := by
  have hp := (List.getElem?_eq_some_iff.1 h)
  rw [List.drop_eq_getElem_cons hp.1, hp.2]
theorem text_good (b : List UInt8) : ∀ (w : List UInt8) (p : Nat), p ≤ b.length → (textP b w p).2 = 0 → (textP b w p).1 = p + w.length ∧ b.drop p = w ++ b.drop (p + w.length) ∧ p + w.length ≤ b.length
  | [], p, hp, _ => by simpa [textP] using hp
  | c :: w, p, hp, h => by
    unfold textP at h ⊢
    cases hb : b[p]? with
    | none => rw [hb] at h; cases h
    | some y =>
      rw [hb] at h
      simp only at h ⊢
      by_cases e : y = c
      · rw [if_pos e] at h ⊢
        have hl := (List.getElem?_eq_some_iff.1 hb).1
        obtain ⟨h1, h2, h3⟩ := text_good b w (p + 1) hl h
        rw [h1, drop_get hb, h2, e]
        simp only [List.length_cons, List.cons_append]
        refine ⟨by omega, ?_, by omega⟩
        rw [show p + 1 + w.length = p + (w.length + 1) by omega]
      · rw [if_neg e] at h; cases h
theorem text_wrong (b : List UInt8) : ∀ (w : List UInt8) (p : Nat), (textP b w p).2 = 2 → (textP b w p).1 < b.length
  | [], p, h => by cases h
  | c :: w, p, h => by
    unfold textP at h ⊢
    cases hb : b[p]? with
    | none => rw [hb] at h; cases h
    | some y =>
      rw [hb] at h
      simp only at h ⊢
      by_cases e : y = c
      · rw [if_pos e] at h ⊢
        exact text_wrong b w (p + 1) h
      · rw [if_neg e]
        exact (List.getElem?_eq_some_iff.1 hb).1
theorem text_short (b x : List UInt8) : ∀ (w : List UInt8) (p : Nat), p ≤ b.length → (textP b w p).2 = 1 → (textP b w p).1 = b.length ∧ b.length < p + w.length ∧ b.length ≤ (textP (b ++ x) w p).1
  | [], p, _, h => by cases h
  | c :: w, p, hp, h => by
    have hlow := text_low (b ++ x) (c :: w) p
    unfold textP at h ⊢
    cases hb : b[p]? with
    | none =>
      have := List.getElem?_eq_none_iff.1 hb
      simp only [List.length_cons]
      refine ⟨by omega, by omega, ?_⟩
      unfold textP at hlow
      exact Nat.le_trans this hlow
    | some y =>
      rw [hb] at h
      have hl := (List.getElem?_eq_some_iff.1 hb).1
      rw [get_app hb]
      simp only [List.length_cons] at h ⊢
      by_cases e : y = c
      · rw [if_pos e] at h ⊢
        rw [if_pos e]
        obtain ⟨h1, h2, h3⟩ := text_short b x w (p + 1) hl h
        exact ⟨h1, by omega, h3⟩
      · rw [if_neg e] at h; cases h
theorem text_is (b : List UInt8) : ∀ (w r : List UInt8) (p : Nat), b.drop p = w ++ r → textP b w p = (p + w.length, 0)
  | [], r, p, _ => rfl
  | c :: w, r, p, h => by
    have hb : b[p]? = some c := by
      have := congrArg (·[0]?) h
      simpa using this
    have h2 := drop_get hb
    rw [h2, List.cons_append] at h
    unfold textP
    rw [hb]
    simp only [if_pos]
    rw [text_is b w r (p + 1) (List.cons.inj h).2]
    simp only [List.length_cons]
    congr 1
    omega

/-- Each beginning of what fits fits, but the empty one. -/
def Closed (fits : List UInt8 → Bool) : Prop := ∀ s t, s ≠ [] → fits (s ++ t) = true → fits s = true
theorem count_bound (q : Nat → Bool) (m n : Nat) (hn : n ≤ m) (h1 : ∀ i, i < n → q i = true) (h2 : ∀ i, n ≤ i → i < m → q i = false) : (List.range m).countP q = n := by
  have e : List.range m = List.range n ++ (List.range (m - n)).map (n + ·) := by rw [← List.range_add]; congr 1; omega
  have a1 : (List.range n).countP q = n := by
    have : (List.range n).countP q = (List.range n).length := List.countP_eq_length.2 (fun i hi => h1 i (List.mem_range.1 hi))
    rwa [List.length_range] at this
  have a2 : ((List.range (m - n)).map (n + ·)).countP q = 0 := by
    rw [List.countP_eq_zero]
    intro i hi
    obtain ⟨j, hj, rfl⟩ := List.mem_map.1 hi
    have := List.mem_range.1 hj
    rw [h2 (n + j) (by omega) (by omega)]
    simp
  rw [e, List.countP_append, a1, a2]
  omega
theorem first_no (q : Nat → Bool) : ∀ m, ∃ n, n ≤ m ∧ (∀ i, i < n → q i = true) ∧ (n < m → q n = false)
  | 0 => ⟨0, Nat.le_refl _, fun i hi => absurd hi (Nat.not_lt_zero _), fun h => absurd h (Nat.lt_irrefl _)⟩
  | m + 1 => by
    obtain ⟨n, h1, h2, h3⟩ := first_no q m
    by_cases hn : n < m
    · exact ⟨n, by omega, h2, fun _ => h3 hn⟩
    · obtain rfl : n = m := by omega
      cases hq : q n with
      | false => exact ⟨n, by omega, h2, fun _ => hq⟩
      | true =>
        refine ⟨n + 1, Nat.le_refl _, fun i hi => ?_, fun h => absurd h (Nat.lt_irrefl _)⟩
        by_cases hi2 : i < n
        · exact h2 i hi2
        · rw [show i = n by omega]; exact hq
theorem take_closed {fits : List UInt8 → Bool} (hc : Closed fits) (s : List UInt8) (i j : Nat) (hij : i ≤ j) (hi : i < s.length) (h : fits (s.take (j + 1)) = true) : fits (s.take (i + 1)) = true := by
  refine hc (s.take (i + 1)) ((s.take (j + 1)).drop (i + 1)) (fun e => ?_) ?_
  · have := congrArg List.length e
    simp at this
    rw [this] at hi
    exact absurd hi (Nat.not_lt_zero _)
  · have : s.take (i + 1) = (s.take (j + 1)).take (i + 1) := by rw [List.take_take]; congr 1; omega
    rw [this, List.take_append_drop]
    exact h
theorem fit_is {fits : List UInt8 → Bool} (hc : Closed fits) (s : List UInt8) (n : Nat) (hn : n ≤ s.length) (h1 : ∀ i, i < n → fits (s.take (i + 1)) = true) (h2 : n < s.length → fits (s.take (n + 1)) = false) : fitN fits s = n := by
  unfold fitN
  refine count_bound _ _ _ hn h1 (fun i hi hl => ?_)
  cases hq : fits (s.take (i + 1)) with
  | false => rfl
  | true =>
    have := take_closed hc s n i hi (by omega) hq
    rw [h2 (by omega)] at this
    cases this
theorem fit_spec {fits : List UInt8 → Bool} (hc : Closed fits) (s : List UInt8) : fitN fits s ≤ s.length ∧ (∀ i, i < fitN fits s → fits (s.take (i + 1)) = true) ∧ (fitN fits s < s.length → fits (s.take (fitN fits s + 1)) = false) := by
  obtain ⟨n, h1, h2, h3⟩ := first_no (fun i => fits (s.take (i + 1))) s.length
  rw [fit_is hc s n h1 h2 h3]
  exact ⟨h1, h2, h3⟩

theorem text_one (b : List UInt8) (p : Nat) : textP b [32] p = match b[p]? with
    | none => (p, 1)
    | some x => if x = 32 then (p + 1, 0) else (p, 2) := rfl
/-- The bytes that may be of a word. -/
def runOf (b : List UInt8) (p : Nat) : List UInt8 := (b.drop (p + 1)).take 200
theorem word_blank {b : List UInt8} {fits : List UInt8 → Bool} {p : Nat} (h : b[p]? = some 32) : wordP b fits p = ((runOf b p).take (fitN fits (runOf b p)), p + 1 + fitN fits (runOf b p), if p + 1 + fitN fits (runOf b p) = b.length then 1 else if fitN fits (runOf b p) = 0 then 2 else 0) := by
  have e : (textP b [32] p).2 = 0 := by rw [text_one, h]; rfl
  unfold wordP
  rw [if_pos e]
  rfl
theorem word_none {b : List UInt8} {fits : List UInt8 → Bool} {p : Nat} (h : b[p]? = none) : wordP b fits p = ([], p, 1) := by
  have e : textP b [32] p = (p, 1) := by rw [text_one, h]
  unfold wordP
  rw [e]
  rfl
theorem word_other {b : List UInt8} {fits : List UInt8 → Bool} {p : Nat} {y : UInt8} (h : b[p]? = some y) (hy : y ≠ 32) : wordP b fits p = ([], p, 2) := by
  have e : textP b [32] p = (p, 2) := by rw [text_one, h]; simp [hy]
  unfold wordP
  rw [e]
  rfl
theorem run_len (b : List UInt8) (p : Nat) : (runOf b p).length = min 200 (b.length - (p + 1)) := by simp [runOf]
theorem run_app (b x : List UInt8) (p i : Nat) (h : p + 1 ≤ b.length) (hi : i ≤ (runOf b p).length) : (runOf (b ++ x) p).take i = (runOf b p).take i := by
  rw [run_len] at hi
  unfold runOf
  rw [List.take_take, List.take_take, List.drop_append_of_le_length h, List.take_append_of_le_length (by simp; omega)]
theorem run_ext {fits : List UInt8 → Bool} (hc : Closed fits) (b x : List UInt8) (p : Nat) (hp : p + 1 ≤ b.length) (h : ¬ p + 1 + fitN fits (runOf b p) = b.length) : fitN fits (runOf (b ++ x) p) = fitN fits (runOf b p) := by
  obtain ⟨h1, h2, h3⟩ := fit_spec hc (runOf b p)
  have e1 := run_len b p
  have e2 := run_len (b ++ x) p
  simp only [List.length_append] at e2
  refine fit_is hc _ _ (by omega) (fun i hi => ?_) (fun hl => ?_)
  · rw [run_app b x p (i + 1) hp (by omega)]
    exact h2 i hi
  · by_cases hn : fitN fits (runOf b p) < (runOf b p).length
    · rw [run_app b x p _ hp (by omega)]
      exact h3 hn
    · omega
theorem word_ext {fits : List UInt8 → Bool} (hc : Closed fits) (b x : List UInt8) (p : Nat) (h : (wordP b fits p).2.2 ≠ 1) : wordP (b ++ x) fits p = wordP b fits p := by
  cases hb : b[p]? with
  | none => rw [word_none hb] at h; exact absurd rfl h
  | some y =>
    by_cases hy : y = 32
    · subst hy
      have hl := (List.getElem?_eq_some_iff.1 hb).1
      rw [word_blank hb] at h ⊢
      rw [word_blank (get_app hb)]
      have hne : ¬ p + 1 + fitN fits (runOf b p) = b.length := by
        intro e
        rw [if_pos e] at h
        exact h rfl
      have hle := (fit_spec hc (runOf b p)).1
      have e1 := run_len b p
      rw [run_ext hc b x p hl hne, run_app b x p _ hl hle, if_neg hne, if_neg (by simp only [List.length_append]; omega)]
    · rw [word_other hb hy, word_other (get_app hb) hy]
theorem word_low (fits : List UInt8 → Bool) (b : List UInt8) (p : Nat) : p ≤ (wordP b fits p).2.1 := by
  cases hb : b[p]? with
  | none => rw [word_none hb]; exact Nat.le_refl _
  | some y =>
    by_cases hy : y = 32
    · subst hy
      rw [word_blank hb]
      show p ≤ p + 1 + _
      omega
    · rw [word_other hb hy]; exact Nat.le_refl _
theorem word_three (fits : List UInt8 → Bool) (b : List UInt8) (p : Nat) : (wordP b fits p).2.2 ≤ 2 := by
  cases hb : b[p]? with
  | none => rw [word_none hb]; show 1 ≤ 2; omega
  | some y =>
    by_cases hy : y = 32
    · subst hy
      rw [word_blank hb]
      show (if _ then 1 else if _ then 2 else 0) ≤ 2
      split
      · omega
      · split <;> omega
    · rw [word_other hb hy]; exact Nat.le_refl _
theorem word_short {fits : List UInt8 → Bool} (hc : Closed fits) (b x : List UInt8) (p : Nat) (hp : p ≤ b.length) (h : (wordP b fits p).2.2 = 1) : (wordP b fits p).2.1 = b.length ∧ b.length ≤ (wordP (b ++ x) fits p).2.1 := by
  cases hb : b[p]? with
  | none =>
    have := List.getElem?_eq_none_iff.1 hb
    have := word_low fits (b ++ x) p
    rw [word_none hb]
    exact ⟨by show p = b.length; omega, by omega⟩
  | some y =>
    by_cases hy : y = 32
    · subst hy
      have hl := (List.getElem?_eq_some_iff.1 hb).1
      rw [word_blank hb] at h ⊢
      rw [word_blank (get_app hb)]
      have he : p + 1 + fitN fits (runOf b p) = b.length := by
        by_cases e : p + 1 + fitN fits (runOf b p) = b.length
        · exact e
        · exfalso
          simp only at h
          rw [if_neg e] at h
          split at h <;> cases h
      refine ⟨he, ?_⟩
      show b.length ≤ p + 1 + fitN fits (runOf (b ++ x) p)
      obtain ⟨g1, g2, g3⟩ := fit_spec hc (runOf b p)
      obtain ⟨k1, k2, k3⟩ := fit_spec hc (runOf (b ++ x) p)
      have e1 := run_len b p
      have e2 := run_len (b ++ x) p
      simp only [List.length_append] at e2
      by_cases hlt : fitN fits (runOf (b ++ x) p) < fitN fits (runOf b p)
      · have a := g2 _ hlt
        have c := k3 (by omega)
        rw [run_app b x p _ hl (by omega), a] at c
        cases c
      · omega
    · rw [word_other hb hy] at h; cases h
theorem word_wrong (fits : List UInt8 → Bool) (hc : Closed fits) (b : List UInt8) (p : Nat) (h : (wordP b fits p).2.2 = 2) : (wordP b fits p).2.1 < b.length := by
  cases hb : b[p]? with
  | none => rw [word_none hb] at h; cases h
  | some y =>
    have hl := (List.getElem?_eq_some_iff.1 hb).1
    by_cases hy : y = 32
    · subst hy
      rw [word_blank hb] at h ⊢
      have hle := (fit_spec hc (runOf b p)).1
      have e1 := run_len b p
      show p + 1 + fitN fits (runOf b p) < b.length
      by_cases e : p + 1 + fitN fits (runOf b p) = b.length
      · simp only at h
        rw [if_pos e] at h; cases h
      · omega
    · rw [word_other hb hy]; exact hl
theorem word_good {fits : List UInt8 → Bool} (hc : Closed fits) (b : List UInt8) (p : Nat) (h : (wordP b fits p).2.2 = 0) :
    b.drop p = 32 :: ((wordP b fits p).1 ++ b.drop (wordP b fits p).2.1) ∧ (wordP b fits p).1 ≠ [] ∧ fits (wordP b fits p).1 = true ∧ (wordP b fits p).2.1 = p + 1 + (wordP b fits p).1.length ∧ (wordP b fits p).2.1 < b.length ∧ (wordP b fits p).1.length ≤ 200 := by
  cases hb : b[p]? with
  | none => rw [word_none hb] at h; cases h
  | some y =>
    have hl := (List.getElem?_eq_some_iff.1 hb).1
    by_cases hy : y = 32
    · subst hy
      rw [word_blank hb] at h ⊢
      obtain ⟨g1, g2, g3⟩ := fit_spec hc (runOf b p)
      have e1 := run_len b p
      simp only at h ⊢
      have hne : ¬ p + 1 + fitN fits (runOf b p) = b.length := fun e => by rw [if_pos e] at h; cases h
      rw [if_neg hne] at h
      have hz : fitN fits (runOf b p) ≠ 0 := fun e => by rw [if_pos e] at h; cases h
      generalize fitN fits (runOf b p) = n at *
      have hlen : ((runOf b p).take n).length = n := by rw [List.length_take]; omega
      refine ⟨?_, ?_, ?_, by rw [hlen], by omega, by rw [hlen]; omega⟩
      · rw [drop_get hb]
        congr 1
        have : (runOf b p).take n = (b.drop (p + 1)).take n := by unfold runOf; rw [List.take_take]; congr 1; omega
        rw [this, ← List.drop_drop (i := n) (j := p + 1), List.take_append_drop]
      · intro e
        rw [e] at hlen
        exact hz hlen.symm
      · have := g2 (n - 1) (by omega)
        rwa [show n - 1 + 1 = n by omega] at this
    · rw [word_other hb hy] at h; cases h
theorem word_is {fits : List UInt8 → Bool} (hc : Closed fits) (b : List UInt8) (p : Nat) (w : List UInt8) (c : UInt8) (r : List UInt8) (h : b.drop p = 32 :: (w ++ c :: r)) (hw : w ≠ []) (hf : fits w = true) (hl : w.length ≤ 200) (hn : fits (w ++ [c]) = false) :
    wordP b fits p = (w, p + 1 + w.length, 0) := by
  have hb : b[p]? = some 32 := by
    have := congrArg (·[0]?) h
    simpa using this
  have h2 := drop_get hb
  rw [h2] at h
  have h3 := (List.cons.inj h).2
  have hlen : b.length = p + 1 + w.length + 1 + r.length := by
    have := congrArg List.length h3
    simp at this
    have := (List.getElem?_eq_some_iff.1 hb).1
    omega
  have hrun : ∀ i, i ≤ 200 → (runOf b p).take i = (w ++ c :: r).take i := fun i hi => by
    unfold runOf
    rw [h3, List.take_take]
    congr 1
    omega
  have e1 := run_len b p
  have hfit : fitN fits (runOf b p) = w.length := by
    refine fit_is hc _ _ (by omega) (fun i hi => ?_) (fun hlt => ?_)
    · rw [hrun _ (by omega), List.take_append_of_le_length (by omega)]
      refine hc (w.take (i + 1)) (w.drop (i + 1)) (fun e => ?_) (by rw [List.take_append_drop]; exact hf)
      have := congrArg List.length e
      simp at this
      exact hw this
    · rw [hrun _ (by omega), List.take_append, List.take_of_length_le (by omega), show w.length + 1 - w.length = 1 by omega]
      exact hn
  rw [word_blank hb, hfit, hrun _ hl, if_neg (by omega), if_neg (fun e => hw (List.length_eq_zero_iff.1 e))]
  simp
end Go.Proofs.YtaaohoombjlhfaaDoor
