/-
  PlainText, PlainFine, PlainScan, PlainRd, PlainPut, PlainBd.
-/
import Derived.Test.YtienggblpmkjjaaDoorPlainAns
namespace Go.Proofs.YtienggblpmkjjaaDoor
open Go.RowKit

theorem get_app {b x : List UInt8} {p : Nat} {y : UInt8} (h : b[p]? = some y) : (b ++ x)[p]? = some y := by
  rw [List.getElem?_append_left (List.getElem?_eq_some_iff.1 h).1]
  exact h
theorem text_ext (b x : List UInt8) : ∀ (w : List UInt8) (p : Nat), (textP b w p).2 ≠ 1 → textP (b ++ x) w p = textP b w p
  | [], p, _ => rfl
  | c :: w, p, h => by
    unfold textP at h ⊢
    cases hb : b[p]? with
    | none => rw [hb] at h; exact absurd rfl h
    | some y =>
      rw [hb] at h
      rw [get_app hb]
      simp only at h ⊢
      split
      · rename_i e
        rw [if_pos e] at h
        exact text_ext b x w (p + 1) h
      · rfl
theorem text_low (b : List UInt8) : ∀ (w : List UInt8) (p : Nat), p ≤ (textP b w p).1
  | [], p => Nat.le_refl _
  | c :: w, p => by
    unfold textP
    cases hb : b[p]? with
    | none => exact Nat.le_refl _
    | some y =>
      simp only
      split
      · have := text_low b w (p + 1); omega
      · exact Nat.le_refl _
theorem text_three (b : List UInt8) : ∀ (w : List UInt8) (p : Nat), (textP b w p).2 ≤ 2
  | [], p => by simp [textP]
  | c :: w, p => by
    unfold textP
    cases hb : b[p]? with
    | none => simp
    | some y =>
      simp only
      split
      · exact text_three b w (p + 1)
      · exact Nat.le_refl _
theorem drop_get {b : List UInt8} {p : Nat} {y : UInt8} (h : b[p]? = some y) : b.drop p = y :: b.drop (p + 1) := by
  have hp := (List.getElem?_eq_some_iff.1 h)
  rw [List.drop_eq_getElem_cons hp.1, hp.2]
theorem text_good (b : List UInt8) : ∀ (w : List UInt8) (p : Nat), p ≤ b.length → (textP b w p).2 = 0 → (textP b w p).1 = p + w.length ∧ b.drop p = w ++ b.drop (p + w.length) ∧ p + w.length ≤ b.length
  | [], p, hp, _ => by simpa [textP] using hp
  | c :: w, p, hp, h => by
    unfold textP at h ⊢
    cases hb : b[p]? with
    | none => rw [hb] at h; cases h
    | some y =>
      rw [hb] at h
      simp only at h ⊢
      by_cases e : y = c
      · rw [if_pos e] at h ⊢
        have hl := (List.getElem?_eq_some_iff.1 hb).1
        obtain ⟨h1, h2, h3⟩ := text_good b w (p + 1) hl h
        rw [h1, drop_get hb, h2, e]
        simp only [List.length_cons, List.cons_append]
        refine ⟨by omega, ?_, by omega⟩
        rw [show p + 1 + w.length = p + (w.length + 1) by omega]
      · rw [if_neg e] at h; cases h
theorem text_wrong (b : List UInt8) : ∀ (w : List UInt8) (p : Nat), (textP b w p).2 = 2 → (textP b w p).1 < b.length
  | [], p, h => by cases h
  | c :: w, p, h => by
    unfold textP at h ⊢
    cases hb : b[p]? with
    | none => rw [hb] at h; cases h
    | some y =>
      rw [hb] at h
      simp only at h ⊢
      by_cases e : y = c
      · rw [if_pos e] at h ⊢
        exact text_wrong b w (p + 1) h
      · rw [if_neg e]
        exact (List.getElem?_eq_some_iff.1 hb).1
theorem text_short (b x : List UInt8) : ∀ (w : List UInt8) (p : Nat), p ≤ b.length → (textP b w p).2 = 1 → (textP b w p).1 = b.length ∧ b.length < p + w.length ∧ b.length ≤ (textP (b ++ x) w p).1
  | [], p, _, h => by cases h
  | c :: w, p, hp, h => by
    have hlow := text_low (b ++ x) (c :: w) p
    unfold textP at h ⊢
    cases hb : b[p]? with
    | none =>
      have := List.getElem?_eq_none_iff.1 hb
      simp only [List.length_cons]
      refine ⟨by omega, by omega, ?_⟩
      unfold textP at hlow
      exact Nat.le_trans this hlow
    | some y =>
      rw [hb] at h
      have hl := (List.getElem?_eq_some_iff.1 hb).1
      rw [get_app hb]
      simp only [List.length_cons] at h ⊢
      by_cases e : y = c
      · rw [if_pos e] at h ⊢
        rw [if_pos e]
        obtain ⟨h1, h2, h3⟩ := text_short b x w (p + 1) hl h
        exact ⟨h1, by omega, h3⟩
      · rw [if_neg e] at h; cases h
theorem text_is (b : List UInt8) : ∀ (w r : List UInt8) (p : Nat), b.drop p = w ++ r → textP b w p = (p + w.length, 0)
  | [], r, p, _ => rfl
  | c :: w, r, p, h => by
    have hb : b[p]? = some c := by
      have := congrArg (·[0]?) h
      simpa using this
    have h2 := drop_get hb
    rw [h2, List.cons_append] at h
    unfold textP
    rw [hb]
    simp only [if_pos]
    rw [text_is b w r (p + 1) (List.cons.inj h).2]
    simp only [List.length_cons]
    congr 1
    omega

/-- Each beginning of what fits fits, but the empty one. -/
def Closed (fits : List UInt8 → Bool) : Prop := ∀ s t, s ≠ [] → fits (s ++ t) = true → fits s = true
theorem count_bound (q : Nat → Bool) (m n : Nat) (hn : n ≤ m) (h1 : ∀ i, i < n → q i = true) (h2 : ∀ i, n ≤ i → i < m → q i = false) : (List.range m).countP q = n := by
  have e : List.range m = List.range n ++ (List.range (m - n)).map (n + ·) := by rw [← List.range_add]; congr 1; omega
  have a1 : (List.range n).countP q = n := by
    have : (List.range n).countP q = (List.range n).length := List.countP_eq_length.2 (fun i hi => h1 i (List.mem_range.1 hi))
    rwa [List.length_range] at this
  have a2 : ((List.range (m - n)).map (n + ·)).countP q = 0 := by
    rw [List.countP_eq_zero]
    intro i hi
    obtain ⟨j, hj, rfl⟩ := List.mem_map.1 hi
    have := List.mem_range.1 hj
    rw [h2 (n + j) (by omega) (by omega)]
    simp
  rw [e, List.countP_append, a1, a2]
  omega
theorem first_no (q : Nat → Bool) : ∀ m, ∃ n, n ≤ m ∧ (∀ i, i < n → q i = true) ∧ (n < m → q n = false)
  | 0 => ⟨0, Nat.le_refl _, fun i hi => absurd hi (Nat.not_lt_zero _), fun h => absurd h (Nat.lt_irrefl _)⟩
  | m + 1 => by
    obtain ⟨n, h1, h2, h3⟩ := first_no q m
    by_cases hn : n < m
    · exact ⟨n, by omega, h2, fun _ => h3 hn⟩
    · obtain rfl : n = m := by omega
      cases hq : q n with
      | false => exact ⟨n, by omega, h2, fun _ => hq⟩
      | true =>
        refine ⟨n + 1, Nat.le_refl _, fun i hi => ?_, fun h => absurd h (Nat.lt_irrefl _)⟩
        by_cases hi2 : i < n
        · exact h2 i hi2
        · rw [show i = n by omega]; exact hq
theorem take_closed {fits : List UInt8 → Bool} (hc : Closed fits) (s : List UInt8) (i j : Nat) (hij : i ≤ j) (hi : i < s.length) (h : fits (s.take (j + 1)) = true) : fits (s.take (i + 1)) = true := by
  refine hc (s.take (i + 1)) ((s.take (j + 1)).drop (i + 1)) (fun e => ?_) ?_
  · have := congrArg List.length e
    simp at this
    rw [this] at hi
    exact absurd hi (Nat.not_lt_zero _)
  · have : s.take (i + 1) = (s.take (j + 1)).take (i + 1) := by rw [List.take_take]; congr 1; omega
    rw [this, List.take_append_drop]
    exact h
theorem fit_is {fits : List UInt8 → Bool} (hc : Closed fits) (s : List UInt8) (n : Nat) (hn : n ≤ s.length) (h1 : ∀ i, i < n → fits (s.take (i + 1)) = true) (h2 : n < s.length → fits (s.take (n + 1)) = false) : fitN fits s = n := by
  unfold fitN
  refine count_bound _ _ _ hn h1 (fun i hi hl => ?_)
  cases hq : fits (s.take (i + 1)) with
  | false => rfl
  | true =>
    have := take_closed hc s n i hi (by omega) hq
    rw [h2 (by omega)] at this
    cases this
theorem fit_spec {fits : List UInt8 → Bool} (hc : Closed fits) (s : List UInt8) : fitN fits s ≤ s.length ∧ (∀ i, i < fitN fits s → fits (s.take (i + 1)) = true) ∧ (fitN fits s < s.length → fits (s.take (fitN fits s + 1)) = false) := by
  obtain ⟨n, h1, h2, h3⟩ := first_no (fun i => fits (s.take (i + 1))) s.length
  rw [fit_is hc s n h1 h2 h3]
  exact ⟨h1, h2, h3⟩

theorem text_one (b : List UInt8) (p : Nat) : textP b [32] p = match b[p]? with
    | none => (p, 1)
    | some x => if x = 32 then (p + 1, 0) else (p, 2) := rfl
/-- The bytes that may be of a word. -/
def runOf (b : List UInt8) (p : Nat) : List UInt8 := (b.drop (p + 1)).take 200
theorem word_blank {b : List UInt8} {fits : List UInt8 → Bool} {p : Nat} (h : b[p]? = some 32) : wordP b fits p = ((runOf b p).take (fitN fits (runOf b p)), p + 1 + fitN fits (runOf b p), if p + 1 + fitN fits (runOf b p) = b.length then 1 else if fitN fits (runOf b p) = 0 then 2 else 0) := by
  have e : (textP b [32] p).2 = 0 := by rw [text_one, h]; rfl
  unfold wordP
  rw [if_pos e]
  rfl
theorem word_none {b : List UInt8} {fits : List UInt8 → Bool} {p : Nat} (h : b[p]? = none) : wordP b fits p = ([], p, 1) := by
  have e : textP b [32] p = (p, 1) := by rw [text_one, h]
  unfold wordP
  rw [e]
  rfl
theorem word_other {b : List UInt8} {fits : List UInt8 → Bool} {p : Nat} {y : UInt8} (h : b[p]? = some y) (hy : y ≠ 32) : wordP b fits p = ([], p, 2) := by
  have e : textP b [32] p = (p, 2) := by rw [text_one, h]; simp [hy]
  unfold wordP
  rw [e]
  rfl
theorem run_len (b : List UInt8) (p : Nat) : (runOf b p).length = min 200 (b.length - (p + 1)) := by simp [runOf]
theorem run_app (b x : List UInt8) (p i : Nat) (h : p + 1 ≤ b.length) (hi : i ≤ (runOf b p).length) : (runOf (b ++ x) p).take i = (runOf b p).take i := by
  rw [run_len] at hi
  unfold runOf
  rw [List.take_take, List.take_take, List.drop_append_of_le_length h, List.take_append_of_le_length (by simp; omega)]
theorem run_ext {fits : List UInt8 → Bool} (hc : Closed fits) (b x : List UInt8) (p : Nat) (hp : p + 1 ≤ b.length) (h : ¬ p + 1 + fitN fits (runOf b p) = b.length) : fitN fits (runOf (b ++ x) p) = fitN fits (runOf b p) := by
  obtain ⟨h1, h2, h3⟩ := fit_spec hc (runOf b p)
  have e1 := run_len b p
  have e2 := run_len (b ++ x) p
  simp only [List.length_append] at e2
  refine fit_is hc _ _ (by omega) (fun i hi => ?_) (fun hl => ?_)
  · rw [run_app b x p (i + 1) hp (by omega)]
    exact h2 i hi
  · by_cases hn : fitN fits (runOf b p) < (runOf b p).length
    · rw [run_app b x p _ hp (by omega)]
      exact h3 hn
    · omega
theorem word_ext {fits : List UInt8 → Bool} (hc : Closed fits) (b x : List UInt8) (p : Nat) (h : (wordP b fits p).2.2 ≠ 1) : wordP (b ++ x) fits p = wordP b fits p := by
  cases hb : b[p]? with
  | none => rw [word_none hb] at h; exact absurd rfl h
  | some y =>
    by_cases hy : y = 32
    · subst hy
      have hl := (List.getElem?_eq_some_iff.1 hb).1
      rw [word_blank hb] at h ⊢
      rw [word_blank (get_app hb)]
      have hne : ¬ p + 1 + fitN fits (runOf b p) = b.length := by
        intro e
        rw [if_pos e] at h
        exact h rfl
      have hle := (fit_spec hc (runOf b p)).1
      have e1 := run_len b p
      rw [run_ext hc b x p hl hne, run_app b x p _ hl hle, if_neg hne, if_neg (by simp only [List.length_append]; omega)]
    · rw [word_other hb hy, word_other (get_app hb) hy]
theorem word_low (fits : List UInt8 → Bool) (b : List UInt8) (p : Nat) : p ≤ (wordP b fits p).2.1 := by
  cases hb : b[p]? with
  | none => rw [word_none hb]; exact Nat.le_refl _
  | some y =>
    by_cases hy : y = 32
    · subst hy
      rw [word_blank hb]
      show p ≤ p + 1 + _
      omega
    · rw [word_other hb hy]; exact Nat.le_refl _
theorem word_three (fits : List UInt8 → Bool) (b : List UInt8) (p : Nat) : (wordP b fits p).2.2 ≤ 2 := by
  cases hb : b[p]? with
  | none => rw [word_none hb]; show 1 ≤ 2; omega
  | some y =>
    by_cases hy : y = 32
    · subst hy
      rw [word_blank hb]
      show (if _ then 1 else if _ then 2 else 0) ≤ 2
      split
      · omega
      · split <;> omega
    · rw [word_other hb hy]; exact Nat.le_refl _
theorem word_short {fits : List UInt8 → Bool} (hc : Closed fits) (b x : List UInt8) (p : Nat) (hp : p ≤ b.length) (h : (wordP b fits p).2.2 = 1) : (wordP b fits p).2.1 = b.length ∧ b.length ≤ (wordP (b ++ x) fits p).2.1 := by
  cases hb : b[p]? with
  | none =>
    have := List.getElem?_eq_none_iff.1 hb
    have := word_low fits (b ++ x) p
    rw [word_none hb]
    exact ⟨by show p = b.length; omega, by omega⟩
  | some y =>
    by_cases hy : y = 32
    · subst hy
      have hl := (List.getElem?_eq_some_iff.1 hb).1
      rw [word_blank hb] at h ⊢
      rw [word_blank (get_app hb)]
      have he : p + 1 + fitN fits (runOf b p) = b.length := by
        by_cases e : p + 1 + fitN fits (runOf b p) = b.length
        · exact e
        · exfalso
          simp only at h
          rw [if_neg e] at h
          split at h <;> cases h
      refine ⟨he, ?_⟩
      show b.length ≤ p + 1 + fitN fits (runOf (b ++ x) p)
      obtain ⟨g1, g2, g3⟩ := fit_spec hc (runOf b p)
      obtain ⟨k1, k2, k3⟩ := fit_spec hc (runOf (b ++ x) p)
      have e1 := run_len b p
      have e2 := run_len (b ++ x) p
      simp only [List.length_append] at e2
      by_cases hlt : fitN fits (runOf (b ++ x) p) < fitN fits (runOf b p)
      · have a := g2 _ hlt
        have c := k3 (by omega)
        rw [run_app b x p _ hl (by omega), a] at c
        cases c
      · omega
    · rw [word_other hb hy] at h; cases h
theorem word_wrong (fits : List UInt8 → Bool) (hc : Closed fits) (b : List UInt8) (p : Nat) (h : (wordP b fits p).2.2 = 2) : (wordP b fits p).2.1 < b.length := by
  cases hb : b[p]? with
  | none => rw [word_none hb] at h; cases h
  | some y =>
    have hl := (List.getElem?_eq_some_iff.1 hb).1
    by_cases hy : y = 32
    · subst hy
      rw [word_blank hb] at h ⊢
      have hle := (fit_spec hc (runOf b p)).1
      have e1 := run_len b p
      show p + 1 + fitN fits (runOf b p) < b.length
      by_cases e : p + 1 + fitN fits (runOf b p) = b.length
      · simp only at h
        rw [if_pos e] at h; cases h
      · omega
    · rw [word_other hb hy]; exact hl
theorem word_good {fits : List UInt8 → Bool} (hc : Closed fits) (b : List UInt8) (p : Nat) (h : (wordP b fits p).2.2 = 0) :
    b.drop p = 32 :: ((wordP b fits p).1 ++ b.drop (wordP b fits p).2.1) ∧ (wordP b fits p).1 ≠ [] ∧ fits (wordP b fits p).1 = true ∧ (wordP b fits p).2.1 = p + 1 + (wordP b fits p).1.length ∧ (wordP b fits p).2.1 < b.length ∧ (wordP b fits p).1.length ≤ 200 := by
  cases hb : b[p]? with
  | none => rw [word_none hb] at h; cases h
  | some y =>
    have hl := (List.getElem?_eq_some_iff.1 hb).1
    by_cases hy : y = 32
    · subst hy
      rw [word_blank hb] at h ⊢
      obtain ⟨g1, g2, g3⟩ := fit_spec hc (runOf b p)
      have e1 := run_len b p
      simp only at h ⊢
      have hne : ¬ p + 1 + fitN fits (runOf b p) = b.length := fun e => by rw [if_pos e] at h; cases h
      rw [if_neg hne] at h
      have hz : fitN fits (runOf b p) ≠ 0 := fun e => by rw [if_pos e] at h; cases h
      generalize fitN fits (runOf b p) = n at *
      have hlen : ((runOf b p).take n).length = n := by rw [List.length_take]; omega
      refine ⟨?_, ?_, ?_, by rw [hlen], by omega, by rw [hlen]; omega⟩
      · rw [drop_get hb]
        congr 1
        have : (runOf b p).take n = (b.drop (p + 1)).take n := by unfold runOf; rw [List.take_take]; congr 1; omega
        rw [this, ← List.drop_drop (i := n) (j := p + 1), List.take_append_drop]
      · intro e
        rw [e] at hlen
        exact hz hlen.symm
      · have := g2 (n - 1) (by omega)
        rwa [show n - 1 + 1 = n by omega] at this
    · rw [word_other hb hy] at h; cases h
theorem word_is {fits : List UInt8 → Bool} (hc : Closed fits) (b : List UInt8) (p : Nat) (w : List UInt8) (c : UInt8) (r : List UInt8) (h : b.drop p = 32 :: (w ++ c :: r)) (hw : w ≠ []) (hf : fits w = true) (hl : w.length ≤ 200) (hn : fits (w ++ [c]) = false) :
    wordP b fits p = (w, p + 1 + w.length, 0) := by
  have hb : b[p]? = some 32 := by
    have := congrArg (·[0]?) h
    simpa using this
  have h2 := drop_get hb
  rw [h2] at h
  have h3 := (List.cons.inj h).2
  have hlen : b.length = p + 1 + w.length + 1 + r.length := by
    have := congrArg List.length h3
    simp at this
    have := (List.getElem?_eq_some_iff.1 hb).1
    omega
  have hrun : ∀ i, i ≤ 200 → (runOf b p).take i = (w ++ c :: r).take i := fun i hi => by
    unfold runOf
    rw [h3, List.take_take]
    congr 1
    omega
  have e1 := run_len b p
  have hfit : fitN fits (runOf b p) = w.length := by
    refine fit_is hc _ _ (by omega) (fun i hi => ?_) (fun hlt => ?_)
    · rw [hrun _ (by omega), List.take_append_of_le_length (by omega)]
      refine hc (w.take (i + 1)) (w.drop (i + 1)) (fun e => ?_) (by rw [List.take_append_drop]; exact hf)
      have := congrArg List.length e
      simp at this
      exact hw this
    · rw [hrun _ (by omega), List.take_append, List.take_of_length_le (by omega), show w.length + 1 - w.length = 1 by omega]
      exact hn
  rw [word_blank hb, hfit, hrun _ hl, if_neg (by omega), if_neg (fun e => hw (List.length_eq_zero_iff.1 e))]
  simp
end Go.Proofs.YtienggblpmkjjaaDoor

namespace Go.Proofs.YtienggblpmkjjaaDoor
open Go.RowKit

theorem fits_dec {l m : Int} {s : List UInt8} : numFits l m s = true ↔ ∃ u : Nat, s = Lib.decDigits u ∧ l ≤ (u : Int) ∧ (u : Int) ≤ m := by
  unfold numFits decL
  simp only [Bool.and_eq_true, decide_eq_true_eq]
  constructor
  · rintro ⟨⟨h1, h2⟩, h3⟩
    refine ⟨(parseV s m).toNat, h3.symm, ?_⟩
    have hp := parsed m 0 (parseV s m).toNat
    simp only [List.replicate_zero, List.nil_append] at hp
    rw [h3, h1] at hp
    have := of_decide_eq_true hp.2.symm
    rw [if_pos this] at hp
    omega
  · rintro ⟨u, rfl, h1, h2⟩
    have hp := parsed m 0 u
    simp only [List.replicate_zero, List.nil_append] at hp
    rw [if_pos h2] at hp
    rw [hp.1, hp.2, decide_eq_true h2]
    simp [h1]
theorem dec_value {m : Int} {u : Nat} (h : (u : Int) ≤ m) : parseV (Lib.decDigits u) m = u := by
  have hp := parsed m 0 u
  simp only [List.replicate_zero, List.nil_append] at hp
  rw [hp.1, if_pos h]
theorem dec_inj {u v : Nat} (h : Lib.decDigits u = Lib.decDigits v) : u = v := by
  have a := dec_value (m := max u v) (u := u) (by omega)
  have b := dec_value (m := max u v) (u := v) (by omega)
  rw [h, b] at a
  omega
theorem num_closed {l m : Int} (hl : l ≤ 1) : Closed (numFits l m) := by
  intro s t hs
  induction h : t.length generalizing t with
  | zero =>
    obtain rfl := List.length_eq_zero_iff.1 h
    rw [List.append_nil]
    exact id
  | succ n ih =>
    intro hf
    obtain ⟨t', c, rfl⟩ : ∃ t' c, t = t' ++ [c] := by
      rcases List.eq_nil_or_concat t with rfl | ⟨t', c, rfl⟩
      · cases h
      · exact ⟨t', c, by simp⟩
    refine ih t' (by simpa using h) ?_
    obtain ⟨u, h1, h2, h3⟩ := fits_dec.1 hf
    rw [← List.append_assoc] at h1
    refine fits_dec.2 ⟨u / 10, ?_⟩
    by_cases h10 : u < 10
    · rw [dec_small h10] at h1
      have := congrArg List.length h1
      simp at this
      exact absurd (List.length_eq_zero_iff.1 (by omega)) hs
    · rw [dec_big h10] at h1
      exact ⟨(List.append_inj' h1 rfl).1, by omega, by omega⟩
theorem digit_of {u : Nat} : ∀ c ∈ Lib.decDigits u, 48 ≤ c.toNat ∧ c.toNat ≤ 57 := by
  induction u using Nat.strongRecOn with
  | _ u ih =>
    have hd : ∀ d, d < 10 → (UInt8.ofNat (48 + d)).toNat = 48 + d := fun d hd => by rw [UInt8.toNat_ofNat']; omega
    by_cases h : u < 10
    · rw [dec_small h]
      intro c hc
      obtain rfl := List.mem_singleton.1 hc
      rw [hd u h]; omega
    · rw [dec_big h]
      intro c hc
      rcases List.mem_append.1 hc with hc | hc
      · exact ih (u / 10) (by omega) c hc
      · obtain rfl := List.mem_singleton.1 hc
        rw [hd _ (by omega)]; omega
theorem num_ends {l m : Int} (s : List UInt8) (c : UInt8) (hc : c.toNat < 48) : numFits l m (s ++ [c]) = false := by
  cases h : numFits l m (s ++ [c]) with
  | false => rfl
  | true =>
    obtain ⟨u, h1, _, _⟩ := fits_dec.1 h
    have := digit_of (u := u) c (by rw [← h1]; simp)
    omega
theorem valid_closed : Closed validB := by
  intro s t hs h
  unfold validB at h ⊢
  simp only [Bool.and_eq_true, decide_eq_true_eq, List.length_append, List.all_append] at h ⊢
  obtain ⟨⟨⟨h1, h2⟩, h3⟩, h4, h5⟩ := h
  obtain ⟨c, r, rfl⟩ : ∃ c r, s = c :: r := by cases s with | nil => exact absurd rfl hs | cons c r => exact ⟨c, r, rfl⟩
  refine ⟨⟨⟨by simp, by omega⟩, ?_⟩, h4⟩
  simpa using h3
theorem valid_ends (s : List UInt8) (c : UInt8) (hc : okn c = false) : validB (s ++ [c]) = false := by
  unfold validB
  rw [List.all_append]
  simp [hc]

/-- A step of a trial: it stays where it is when it is over; more bytes turn nothing but where it was short. -/
structure Fine (p : List UInt8 → St → St) : Prop where
  stuck : ∀ b s, s.st ≠ 0 → p b s = s
  ext : ∀ b x s, s.st = 0 → s.pos ≤ b.length → (p b s).st ≠ 1 → p (b ++ x) s = p b s
  low : ∀ b s, s.st = 0 → s.pos ≤ b.length → s.pos ≤ (p b s).pos
  good : ∀ b s, s.st = 0 → s.pos ≤ b.length → (p b s).st = 0 → (p b s).pos ≤ b.length
  wrong : ∀ b s, s.st = 0 → s.pos ≤ b.length → (p b s).st = 2 → (p b s).pos < b.length
  three : ∀ b s, s.st = 0 → s.pos ≤ b.length → (p b s).st ≤ 2
  short : ∀ b x s, s.st = 0 → s.pos ≤ b.length → (p b s).st = 1 → b.length ≤ (p b s).pos ∧ b.length ≤ (p (b ++ x) s).pos

theorem Fine.skip : Fine (fun _ s => s) :=
  ⟨fun _ _ _ => rfl, fun _ _ _ _ _ _ => rfl, fun _ _ _ _ => Nat.le_refl _, fun _ _ _ h _ => h, fun b s h _ h2 => absurd (h.symm.trans h2) (by decide), fun _ s h _ => (by rw [h]; omega), fun b x s h _ h2 => absurd (h.symm.trans h2) (by decide)⟩
theorem Fine.opt {p : List UInt8 → St → St} (h : Fine p) (c : Prop) [Decidable c] : Fine (fun b s => if c then p b s else s) := by
  by_cases hc : c
  · simp only [if_pos hc]; exact h
  · simp only [if_neg hc]; exact Fine.skip
theorem Fine.low' {p : List UInt8 → St → St} (h : Fine p) (b : List UInt8) (s : St) (hs : s.st = 0 → s.pos ≤ b.length) : s.pos ≤ (p b s).pos := by
  by_cases h0 : s.st = 0
  · exact h.low b s h0 (hs h0)
  · rw [h.stuck b s h0]; exact Nat.le_refl _
theorem Fine.comp {p q : List UInt8 → St → St} (h : Fine p) (k : Fine q) : Fine (fun b s => q b (p b s)) where
  stuck b s h0 := by show q b (p b s) = s; rw [h.stuck b s h0, k.stuck b s h0]
  ext b x s h0 hp h1 := by
    show q (b ++ x) (p (b ++ x) s) = q b (p b s)
    have hs : (p b s).st ≠ 1 := fun e => h1 (by show (q b (p b s)).st = 1; rw [k.stuck b _ (by rw [e]; decide)]; exact e)
    rw [h.ext b x s h0 hp hs]
    by_cases hz : (p b s).st = 0
    · exact k.ext b x _ hz (h.good b s h0 hp hz) h1
    · rw [k.stuck _ _ hz, k.stuck _ _ hz]
  low b s h0 hp := Nat.le_trans (h.low b s h0 hp) (k.low' b _ (h.good b s h0 hp))
  good b s h0 hp hq := by
    by_cases hz : (p b s).st = 0
    · exact k.good b _ hz (h.good b s h0 hp hz) hq
    · exfalso
      have : (q b (p b s)).st = (p b s).st := by rw [k.stuck b _ hz]
      exact hz (this.symm.trans hq)
  wrong b s h0 hp hq := by
    by_cases hz : (p b s).st = 0
    · exact k.wrong b _ hz (h.good b s h0 hp hz) hq
    · have e : q b (p b s) = p b s := k.stuck b _ hz
      show (q b (p b s)).pos < _
      rw [e]
      exact h.wrong b s h0 hp (by rw [← e]; exact hq)
  three b s h0 hp := by
    by_cases hz : (p b s).st = 0
    · exact k.three b _ hz (h.good b s h0 hp hz)
    · show (q b (p b s)).st ≤ 2
      rw [k.stuck b _ hz]; exact h.three b s h0 hp
  short b x s h0 hp hq := by
    show b.length ≤ (q b (p b s)).pos ∧ b.length ≤ (q (b ++ x) (p (b ++ x) s)).pos
    have hq : (q b (p b s)).st = 1 := hq
    by_cases hz : (p b s).st = 0
    · rw [h.ext b x s h0 hp (by rw [hz]; decide)]
      exact k.short b x _ hz (h.good b s h0 hp hz) hq
    · rw [k.stuck b _ hz] at hq ⊢
      obtain ⟨a, c⟩ := h.short b x s h0 hp hq
      refine ⟨a, Nat.le_trans c (k.low' (b ++ x) _ (h.good (b ++ x) s h0 (by simp; omega)))⟩

theorem fine_text (w : List UInt8) : Fine (textS w) where
  stuck b s h0 := by unfold textS; rw [if_neg h0]
  ext b x s h0 hp h1 := by
    unfold textS at h1 ⊢
    rw [if_pos h0] at h1
    rw [if_pos h0, if_pos h0, text_ext b x w s.pos h1]
  low b s h0 hp := by unfold textS; rw [if_pos h0]; exact text_low b w s.pos
  good b s h0 hp h1 := by
    unfold textS at h1 ⊢
    rw [if_pos h0] at h1 ⊢
    obtain ⟨a, _, c⟩ := text_good b w s.pos hp h1
    show (textP b w s.pos).1 ≤ _
    omega
  wrong b s h0 hp h1 := by
    unfold textS at h1 ⊢
    rw [if_pos h0] at h1 ⊢
    exact text_wrong b w s.pos h1
  three b s h0 hp := by unfold textS; rw [if_pos h0]; exact text_three b w s.pos
  short b x s h0 hp h1 := by
    unfold textS at h1 ⊢
    rw [if_pos h0] at h1 ⊢
    rw [if_pos h0]
    obtain ⟨a, _, c⟩ := text_short b x w s.pos hp h1
    exact ⟨Nat.le_of_eq a.symm, c⟩
/-- A step that takes a word. -/
theorem fine_word {fits : List UInt8 → Bool} (hc : Closed fits) (f : St → List UInt8 → Nat → Nat → St) (hf : ∀ s w p e, (f s w p e).pos = p ∧ (f s w p e).st = e) (p : List UInt8 → St → St)
    (hp : ∀ b s, p b s = if s.st = 0 then f s (wordP b fits s.pos).1 (wordP b fits s.pos).2.1 (wordP b fits s.pos).2.2 else s) : Fine p where
  stuck b s h0 := by rw [hp, if_neg h0]
  ext b x s h0 h2 h1 := by
    rw [hp, if_pos h0, (hf _ _ _ _).2] at h1
    rw [hp, hp, if_pos h0, if_pos h0, word_ext hc b x s.pos h1]
  low b s h0 h2 := by rw [hp, if_pos h0, (hf _ _ _ _).1]; exact word_low fits b s.pos
  good b s h0 h2 h1 := by
    rw [hp, if_pos h0, (hf _ _ _ _).2] at h1
    rw [hp, if_pos h0, (hf _ _ _ _).1]
    exact Nat.le_of_lt (word_good hc b s.pos h1).2.2.2.2.1
  wrong b s h0 h2 h1 := by
    rw [hp, if_pos h0, (hf _ _ _ _).2] at h1
    rw [hp, if_pos h0, (hf _ _ _ _).1]
    exact word_wrong fits hc b s.pos h1
  three b s h0 h2 := by rw [hp, if_pos h0, (hf _ _ _ _).2]; exact word_three fits b s.pos
  short b x s h0 h2 h1 := by
    rw [hp, if_pos h0, (hf _ _ _ _).2] at h1
    rw [hp, hp, if_pos h0, if_pos h0, (hf _ _ _ _).1, (hf _ _ _ _).1]
    obtain ⟨a, c⟩ := word_short hc b x s.pos h2 h1
    exact ⟨Nat.le_of_eq a.symm, c⟩
theorem fine_id (m : Int) : Fine (idS m) := fine_word (num_closed (l := 1) (m := m) (by decide)) (fun s w p e => { s with pos := p, st := e, id := parseV w m }) (fun _ _ _ _ => ⟨rfl, rfl⟩) _ (fun _ _ => rfl)
theorem fine_num (m : Int) : Fine (numS m) := fine_word (num_closed (l := 0) (m := m) (by decide)) (fun s w p e => { s with pos := p, st := e, num := parseV w m }) (fun _ _ _ _ => ⟨rfl, rfl⟩) _ (fun _ _ => rfl)
theorem fine_size (m : Int) : Fine (sizeS m) := fine_word (num_closed (l := 0) (m := m) (by decide)) (fun s w p e => { s with pos := p, st := e, size := parseV w m }) (fun _ _ _ _ => ⟨rfl, rfl⟩) _ (fun _ _ => rfl)
theorem fine_tube : Fine tubeS := fine_word valid_closed (fun s w p e => { s with pos := p, st := e, tube := w }) (fun _ _ _ _ => ⟨rfl, rfl⟩) _ (fun _ _ => rfl)
theorem fine_take : Fine takeS where
  stuck b s h0 := by unfold takeS; rw [if_neg h0]
  ext b x s h0 hp h1 := by
    unfold takeS at h1 ⊢
    rw [if_pos h0] at h1
    rw [if_pos h0, if_pos h0]
    by_cases hl : b.length < s.pos + s.size.toNat
    · rw [if_pos hl] at h1; exact absurd rfl h1
    · rw [if_neg hl, if_neg (by simp; omega), List.drop_append_of_le_length hp, List.take_append_of_le_length (by simp; omega)]
  low b s h0 hp := by
    unfold takeS
    rw [if_pos h0]
    split
    · show s.pos ≤ s.pos + _; omega
    · show s.pos ≤ s.pos + _; omega
  good b s h0 hp h1 := by
    unfold takeS at h1 ⊢
    rw [if_pos h0] at h1 ⊢
    by_cases hl : b.length < s.pos + s.size.toNat
    · rw [if_pos hl] at h1; cases h1
    · rw [if_neg hl]; show s.pos + _ ≤ _; omega
  wrong b s h0 hp h1 := by
    unfold takeS at h1
    rw [if_pos h0] at h1
    by_cases hl : b.length < s.pos + s.size.toNat
    · rw [if_pos hl] at h1; cases h1
    · rw [if_neg hl] at h1; rw [show s.st = 2 from h1] at h0; cases h0
  three b s h0 hp := by
    unfold takeS
    rw [if_pos h0]
    split
    · show 1 ≤ 2; omega
    · show s.st ≤ 2; omega
  short b x s h0 hp h1 := by
    unfold takeS at h1 ⊢
    rw [if_pos h0] at h1 ⊢
    rw [if_pos h0]
    by_cases hl : b.length < s.pos + s.size.toNat
    · rw [if_pos hl]
      refine ⟨Nat.le_of_lt hl, ?_⟩
      split
      · exact Nat.le_of_lt hl
      · exact Nat.le_of_lt hl
    · rw [if_neg hl] at h1; rw [show s.st = 1 from h1] at h0; cases h0
theorem fine_line (k : Nat) : Fine (lineS k) :=
  ((((fine_text (wordOf k)).comp ((fine_id (idOf k)).opt (0 < idOf k))).comp ((fine_num (nuOf k)).opt (0 < nuOf k))).comp (fine_tube.opt (tuOf k = true))).comp ((fine_size (boOf k)).opt (0 < boOf k))
theorem fine_body (k : Nat) : Fine (bodyS k) := ((fine_text [13, 10]).comp fine_take).opt (0 < boOf k)
theorem fine_all (k : Nat) : Fine (fun b s => bodyS k b (lineS k b s)) := (fine_line k).comp (fine_body k)
theorem fine_kind (k : Nat) : Fine (fun b s => textS [13, 10] b (bodyS k b (lineS k b s))) := (fine_all k).comp (fine_text [13, 10])

/-- More bytes turn nothing but where a kind was short. -/
theorem kind_ext (k : Nat) (b x : List UInt8) (h : (kindS k b).st ≠ 1) : kindS k (b ++ x) = kindS k b := (fine_kind k).ext b x st0 rfl (Nat.zero_le _) h
theorem kind_three (k : Nat) (b : List UInt8) : (kindS k b).st ≤ 2 := (fine_kind k).three b st0 rfl (Nat.zero_le _)
theorem kind_good (k : Nat) (b : List UInt8) (h : (kindS k b).st = 0) : (kindS k b).pos ≤ b.length := (fine_kind k).good b st0 rfl (Nat.zero_le _) h
theorem kind_wrong (k : Nat) (b : List UInt8) (h : (kindS k b).st = 2) : (kindS k b).pos < b.length := (fine_kind k).wrong b st0 rfl (Nat.zero_le _) h
theorem kind_short (k : Nat) (b x : List UInt8) (h : (kindS k b).st = 1) : b.length ≤ (kindS k b).pos ∧ b.length ≤ (kindS k (b ++ x)).pos := (fine_kind k).short b x st0 rfl (Nat.zero_le _) h
/-- A reply that is whole ends behind what was short of it. -/
theorem kind_strict (k : Nat) (b x : List UInt8) (h : (kindS k b).st = 1) (h0 : (kindS k (b ++ x)).st = 0) : b.length < (kindS k (b ++ x)).pos := by
  have F := fine_all k
  obtain ⟨s5, e5⟩ : ∃ s, s = bodyS k b (lineS k b st0) := ⟨_, rfl⟩
  obtain ⟨s6, e6⟩ : ∃ s, s = bodyS k (b ++ x) (lineS k (b ++ x) st0) := ⟨_, rfl⟩
  have hk : kindS k b = textS [13, 10] b s5 := by rw [e5]; rfl
  have hk6 : kindS k (b ++ x) = textS [13, 10] (b ++ x) s6 := by rw [e6]; rfl
  rw [hk] at h
  rw [hk6] at h0 ⊢
  have g6 : s6.st = 0 := by
    by_cases hz : s6.st = 0
    · exact hz
    · rw [(fine_text _).stuck _ _ hz] at h0; exact h0
  have p6 : s6.pos ≤ (b ++ x).length := by rw [e6] at g6 ⊢; exact F.good (b ++ x) st0 rfl (Nat.zero_le _) g6
  unfold textS at h0 ⊢
  rw [if_pos g6] at h0 ⊢
  have q := (text_good (b ++ x) [13, 10] s6.pos p6 h0).1
  show b.length < (textP (b ++ x) [13, 10] s6.pos).1
  rw [q]
  by_cases hz : s5.st = 0
  · have p5 : s5.pos ≤ b.length := by rw [e5] at hz ⊢; exact F.good b st0 rfl (Nat.zero_le _) hz
    have e : s6 = s5 := by
      rw [e5, e6]
      exact F.ext b x st0 rfl (Nat.zero_le _) (by rw [e5] at hz; show (bodyS k b (lineS k b st0)).st ≠ 1; rw [hz]; decide)
    unfold textS at h
    rw [if_pos hz] at h
    have := (text_short b x [13, 10] s5.pos p5 h).2.1
    rw [e]
    exact this
  · rw [(fine_text _).stuck _ _ hz] at h
    have := (F.short b x st0 rfl (Nat.zero_le _) (by show (bodyS k b (lineS k b st0)).st = 1; rw [← e5]; exact h)).2
    have : b.length ≤ s6.pos := by rw [e6]; exact this
    simp only [List.length_cons, List.length_nil]
    omega
end Go.Proofs.YtienggblpmkjjaaDoor

namespace Go.Proofs.YtienggblpmkjjaaDoor
open Go.RowKit

/-- The byte behind a kind's word. -/
def sepOf (k : Nat) : UInt8 := if 0 < idOf k ∨ 0 < nuOf k ∨ tuOf k = true ∨ 0 < boOf k then 32 else 13
def differ : List UInt8 → List UInt8 → Bool
  | c :: w, d :: u => c != d || differ w u
  | _, _ => false
theorem unlike : ∀ i, i < 24 → ∀ j, j < 24 → 1 ≤ i → 1 ≤ j → i ≠ j → differ (wordOf i ++ [sepOf i]) (wordOf j ++ [sepOf j]) = true := by decide
theorem text_differ (b : List UInt8) : ∀ (w u r : List UInt8) (p : Nat), b.drop p = u ++ r → differ w u = true → (textP b w p).2 = 2 ∧ (textP b w p).1 < p + u.length
  | [], u, r, p, _, h => by simp [differ] at h
  | c :: w, [], r, p, _, h => by simp [differ] at h
  | c :: w, d :: u, r, p, hb, h => by
    have hd : b[p]? = some d := by
      have := congrArg (·[0]?) hb
      simpa using this
    rw [drop_get hd, List.cons_append] at hb
    unfold textP
    rw [hd]
    simp only [List.length_cons]
    by_cases e : d = c
    · rw [if_pos e]
      have hw : differ w u = true := by
        rw [differ, e] at h
        simpa using h
      obtain ⟨h1, h2⟩ := text_differ b w u r (p + 1) (List.cons.inj hb).2 hw
      exact ⟨h1, by omega⟩
    · rw [if_neg e]
      exact ⟨rfl, by show p < _; omega⟩
theorem text_cons (b : List UInt8) (c : UInt8) (w : List UInt8) (p : Nat) : textP b (c :: w) p = match b[p]? with
    | none => (p, 1)
    | some x => if x = c then textP b w (p + 1) else (p, 2) := rfl
theorem text_app (b : List UInt8) : ∀ (w u : List UInt8) (p : Nat), textP b (w ++ u) p = if (textP b w p).2 = 0 then textP b u (textP b w p).1 else textP b w p
  | [], u, p => rfl
  | c :: w, u, p => by
    rw [List.cons_append, text_cons, text_cons b c w]
    cases b[p]? with
    | none => rfl
    | some y =>
      simp only
      by_cases hy : y = c
      · rw [if_pos hy, if_pos hy]
        exact text_app b w u (p + 1)
      · rw [if_neg hy, if_neg hy]
        rfl

/-- What a kind's bytes begin with. -/
def leadL (k : Nat) : List UInt8 := wordOf k ++ [sepOf k]
/-- A step that takes something begins with a byte. -/
theorem word_lead {fits : List UInt8 → Bool} (b : List UInt8) (p : Nat) : ((textP b [32] p).2 = 2 → (wordP b fits p).2 = (textP b [32] p)) ∧ ((wordP b fits p).2.2 = 0 → (textP b [32] p).2 = 0 ∧ p < (wordP b fits p).2.1) := by
  rw [text_one]
  cases hb : b[p]? with
  | none => rw [word_none hb]; exact ⟨fun h => (by cases h), fun h => (by cases h)⟩
  | some y =>
    by_cases hy : y = 32
    · subst hy
      rw [word_blank hb]
      exact ⟨fun h => (by cases h), fun _ => ⟨rfl, by show p < p + 1 + _; omega⟩⟩
    · rw [word_other hb hy]
      refine ⟨fun _ => by simp [hy], fun h => (by cases h)⟩
theorem end_lead (b : List UInt8) (p : Nat) : ((textP b [13] p).2 = 2 → textP b [13, 10] p = (textP b [13] p)) ∧ ((textP b [13, 10] p).2 = 0 → (textP b [13] p).2 = 0) := by
  have e := text_app b [13] [10] p
  rw [show ([13] : List UInt8) ++ [10] = [13, 10] from rfl] at e
  rw [e]
  by_cases h : (textP b [13] p).2 = 0
  · rw [if_pos h]
    exact ⟨fun h2 => absurd (h.symm.trans h2) (by decide), fun _ => h⟩
  · rw [if_neg h]
    exact ⟨fun _ => rfl, fun h2 => h2⟩
/-- A first step whose own first byte is c. -/
structure Leads (c : UInt8) (p : List UInt8 → St → St) : Prop where
  no : ∀ b s, s.st = 0 → (textP b [c] s.pos).2 = 2 → (p b s).st = 2 ∧ (p b s).pos = (textP b [c] s.pos).1
  yes : ∀ b s, s.st = 0 → (p b s).st = 0 → (textP b [c] s.pos).2 = 0
theorem Leads.comp {c : UInt8} {p q : List UInt8 → St → St} (h : Leads c p) (k : Fine q) : Leads c (fun b s => q b (p b s)) where
  no b s h0 h2 := by
    obtain ⟨a, e⟩ := h.no b s h0 h2
    show (q b (p b s)).st = 2 ∧ (q b (p b s)).pos = _
    rw [k.stuck b _ (by rw [a]; decide)]
    exact ⟨a, e⟩
  yes b s h0 h2 := by
    refine h.yes b s h0 ?_
    by_cases hz : (p b s).st = 0
    · exact hz
    · have h2 : (q b (p b s)).st = 0 := h2
      rw [k.stuck b _ hz] at h2
      exact h2
theorem leads_word {fits : List UInt8 → Bool} (f : St → List UInt8 → Nat → Nat → St) (hf : ∀ s w p e, (f s w p e).pos = p ∧ (f s w p e).st = e) (p : List UInt8 → St → St)
    (hp : ∀ b s, p b s = if s.st = 0 then f s (wordP b fits s.pos).1 (wordP b fits s.pos).2.1 (wordP b fits s.pos).2.2 else s) : Leads 32 p where
  no b s h0 h2 := by
    rw [hp, if_pos h0, (hf _ _ _ _).1, (hf _ _ _ _).2]
    have := (word_lead (fits := fits) b s.pos).1 h2
    rw [this]
    exact ⟨h2, rfl⟩
  yes b s h0 h2 := by
    rw [hp, if_pos h0, (hf _ _ _ _).2] at h2
    exact ((word_lead (fits := fits) b s.pos).2 h2).1
theorem leads_end : Leads 13 (textS [13, 10]) where
  no b s h0 h2 := by
    unfold textS
    rw [if_pos h0]
    have := (end_lead b s.pos).1 h2
    rw [this]
    exact ⟨h2, rfl⟩
  yes b s h0 h2 := by
    unfold textS at h2
    rw [if_pos h0] at h2
    exact (end_lead b s.pos).2 h2
/-- What comes behind a kind's word. -/
def tailS (k : Nat) (b : List UInt8) (s : St) : St :=
  textS [13, 10] b (bodyS k b ((fun s => if 0 < boOf k then sizeS (boOf k) b s else s) ((fun s => if tuOf k then tubeS b s else s) ((fun s => if 0 < nuOf k then numS (nuOf k) b s else s) ((fun s => if 0 < idOf k then idS (idOf k) b s else s) s)))))
theorem leads_tail (k : Nat) : Leads (sepOf k) (tailS k) := by
  have F5 := (fine_body k).comp (fine_text [13, 10])
  have F4 := ((fine_size (boOf k)).opt (0 < boOf k)).comp F5
  have F3 := (fine_tube.opt (tuOf k = true)).comp F4
  have F2 := ((fine_num (nuOf k)).opt (0 < nuOf k)).comp F3
  by_cases h1 : 0 < idOf k
  · rw [show sepOf k = 32 from if_pos (.inl h1)]
    have L : Leads 32 (idS (idOf k)) := leads_word (fits := numFits 1 (idOf k)) (fun s w p e => { s with pos := p, st := e, id := parseV w (idOf k) }) (fun _ _ _ _ => ⟨rfl, rfl⟩) _ (fun _ _ => rfl)
    have := L.comp F2
    unfold tailS
    simp only [if_pos h1]
    exact this
  by_cases h2 : 0 < nuOf k
  · rw [show sepOf k = 32 from if_pos (.inr (.inl h2))]
    have L : Leads 32 (numS (nuOf k)) := leads_word (fits := numFits 0 (nuOf k)) (fun s w p e => { s with pos := p, st := e, num := parseV w (nuOf k) }) (fun _ _ _ _ => ⟨rfl, rfl⟩) _ (fun _ _ => rfl)
    have := L.comp F3
    unfold tailS
    simp only [if_neg h1, if_pos h2]
    exact this
  by_cases h3 : tuOf k = true
  · rw [show sepOf k = 32 from if_pos (.inr (.inr (.inl h3)))]
    have L : Leads 32 tubeS := leads_word (fits := validB) (fun s w p e => { s with pos := p, st := e, tube := w }) (fun _ _ _ _ => ⟨rfl, rfl⟩) _ (fun _ _ => rfl)
    have := L.comp F4
    unfold tailS
    simp only [if_neg h1, if_neg h2, if_pos h3]
    exact this
  by_cases h4 : 0 < boOf k
  · rw [show sepOf k = 32 from if_pos (.inr (.inr (.inr h4)))]
    have L : Leads 32 (sizeS (boOf k)) := leads_word (fits := numFits 0 (boOf k)) (fun s w p e => { s with pos := p, st := e, size := parseV w (boOf k) }) (fun _ _ _ _ => ⟨rfl, rfl⟩) _ (fun _ _ => rfl)
    have := L.comp F5
    unfold tailS
    simp only [if_neg h1, if_neg h2, if_neg h3, if_pos h4]
    exact this
  · rw [show sepOf k = 13 from if_neg (fun h => by rcases h with h | h | h | h; exact h1 h; exact h2 h; exact h3 h; exact h4 h)]
    unfold tailS bodyS
    simp only [if_neg h1, if_neg h2, if_neg h3, if_neg h4]
    exact leads_end
theorem fine_tail (k : Nat) : Fine (tailS k) :=
  ((fine_id (idOf k)).opt (0 < idOf k)).comp (((fine_num (nuOf k)).opt (0 < nuOf k)).comp ((fine_tube.opt (tuOf k = true)).comp (((fine_size (boOf k)).opt (0 < boOf k)).comp ((fine_body k).comp (fine_text [13, 10])))))
theorem kind_tail (k : Nat) (b : List UInt8) : kindS k b = tailS k b (textS (wordOf k) b st0) := rfl
theorem kind_no (k : Nat) (b : List UInt8) (h : (textP b (leadL k) 0).2 = 2) : (kindS k b).st = 2 ∧ (kindS k b).pos = (textP b (leadL k) 0).1 := by
  unfold leadL at h ⊢
  rw [text_app] at h ⊢
  rw [kind_tail]
  have e : textS (wordOf k) b st0 = { st0 with pos := (textP b (wordOf k) 0).1, st := (textP b (wordOf k) 0).2 } := rfl
  by_cases hz : (textP b (wordOf k) 0).2 = 0
  · rw [if_pos hz] at h ⊢
    refine (leads_tail k).no b _ ?_ ?_
    · rw [e]; exact hz
    · rw [e]; exact h
  · rw [if_neg hz] at h ⊢
    rw [(fine_tail k).stuck b _ (by rw [e]; exact hz), e]
    exact ⟨h, rfl⟩
theorem kind_yes (k : Nat) (b : List UInt8) (h : (kindS k b).st = 0) : ∃ r, b = leadL k ++ r := by
  rw [kind_tail] at h
  have e : textS (wordOf k) b st0 = { st0 with pos := (textP b (wordOf k) 0).1, st := (textP b (wordOf k) 0).2 } := rfl
  have hz : (textP b (wordOf k) 0).2 = 0 := by
    by_cases hz : (textP b (wordOf k) 0).2 = 0
    · exact hz
    · rw [(fine_tail k).stuck b _ (by rw [e]; exact hz), e] at h
      exact h
  have h2 := (leads_tail k).yes b _ (by rw [e]; exact hz) h
  have h3 : (textP b (leadL k) 0).2 = 0 := by
    unfold leadL
    rw [text_app, if_pos hz]
    rw [e] at h2
    exact h2
  have := (text_good b (leadL k) 0 (Nat.zero_le _) h3).2.1
  rw [List.drop_zero] at this
  exact ⟨_, this⟩
theorem kind_lead (k : Nat) (b : List UInt8) (h : (kindS k b).st = 0) : (leadL k).length < (kindS k b).pos := by
  by_cases hlt : (leadL k).length < (kindS k b).pos
  · exact hlt
  · exfalso
    -- cut ahead of its last byte
    have hp := kind_good k b h
    obtain ⟨r, hr⟩ := kind_yes k b h
    have hb : b = b.take (leadL k).length ++ b.drop (leadL k).length := (List.take_append_drop _ _).symm
    have hl : (b.take (leadL k).length).length = (leadL k).length := by rw [hr]; simp
    have hk := kind_ext k (b.take (leadL k).length) (b.drop (leadL k).length)
    have hs := kind_strict k (b.take (leadL k).length) (b.drop (leadL k).length)
    rw [← hb] at hk hs
    by_cases h1 : (kindS k (b.take (leadL k).length)).st = 1
    · have := hs h1 h
      omega
    · have e := hk h1
      -- the last byte of a reply is 10
      have g0 : (kindS k (b.take (leadL k).length)).st = 0 := by rw [← e]; exact h
      have F := fine_all k
      obtain ⟨s5, e5⟩ : ∃ s, s = bodyS k (b.take (leadL k).length) (lineS k (b.take (leadL k).length) st0) := ⟨_, rfl⟩
      have hk5 : kindS k (b.take (leadL k).length) = textS [13, 10] (b.take (leadL k).length) s5 := by rw [e5]; rfl
      have g5 : s5.st = 0 := by
        by_cases hz : s5.st = 0
        · exact hz
        · rw [hk5, (fine_text _).stuck _ _ hz] at g0; exact g0
      have p5 : s5.pos ≤ (b.take (leadL k).length).length := by rw [e5] at g5 ⊢; exact F.good _ st0 rfl (Nat.zero_le _) g5
      have hlow : (wordOf k).length ≤ s5.pos := by
        have F2 := (((fine_id (idOf k)).opt (0 < idOf k)).comp (((fine_num (nuOf k)).opt (0 < nuOf k)).comp ((fine_tube.opt (tuOf k = true)).comp (((fine_size (boOf k)).opt (0 < boOf k)).comp (fine_body k)))))
        have es : s5 = (fun b s => bodyS k b ((fun s => if 0 < boOf k then sizeS (boOf k) b s else s) ((fun s => if tuOf k then tubeS b s else s) ((fun s => if 0 < nuOf k then numS (nuOf k) b s else s) ((fun s => if 0 < idOf k then idS (idOf k) b s else s) s))))) (b.take (leadL k).length) (textS (wordOf k) (b.take (leadL k).length) st0) := e5
        have hw : (textP (b.take (leadL k).length) (wordOf k) 0) = ((wordOf k).length, 0) := by
          rw [text_is _ (wordOf k) [sepOf k] 0 (by rw [List.drop_zero, hr, List.take_left']; rfl; rfl)]
          simp
        have ew : textS (wordOf k) (b.take (leadL k).length) st0 = { st0 with pos := (wordOf k).length, st := 0 } := by
          show { st0 with pos := (textP (b.take (leadL k).length) (wordOf k) 0).1, st := (textP (b.take (leadL k).length) (wordOf k) 0).2 } = _
          rw [hw]
        rw [ew] at es
        have := F2.low' (b.take (leadL k).length) { st0 with pos := (wordOf k).length, st := 0 } (fun _ => by rw [hl]; unfold leadL; simp)
        rw [es]
        exact this
      have q : (kindS k (b.take (leadL k).length)).pos = s5.pos + 2 := by
        rw [hk5] at g0 ⊢
        unfold textS at g0 ⊢
        rw [if_pos g5] at g0 ⊢
        exact (text_good _ [13, 10] s5.pos p5 g0).1
      have hle := kind_good k _ g0
      rw [hl] at hle
      have : (leadL k).length = (wordOf k).length + 1 := by unfold leadL; simp
      omega
/-- A whole reply of one kind is wrong for each other one, and that early. -/
theorem kind_other (i j : Nat) (b : List UInt8) (hi : 1 ≤ i ∧ i ≤ 23) (hj : 1 ≤ j ∧ j ≤ 23) (hij : i ≠ j) (h : (kindS j b).st = 0) : (kindS i b).st = 2 ∧ (kindS i b).pos < (kindS j b).pos := by
  obtain ⟨r, hr⟩ := kind_yes j b h
  obtain ⟨h1, h2⟩ := text_differ b (leadL i) (leadL j) r 0 (by rw [List.drop_zero]; exact hr) (unlike i (by omega) j (by omega) hi.1 hj.1 hij)
  obtain ⟨a, c⟩ := kind_no i b h1
  have := kind_lead j b h
  exact ⟨a, by omega⟩

theorem from_first (b : List UInt8) : ∀ (n k far j : Nat), k ≤ j → j < k + n → (∀ i, k ≤ i → i < j → (kindS i b).st = 2) → (kindS j b).st ≠ 2 → readFrom b n k far = (rpOf j (kindS j b), (kindS j b).pos, (kindS j b).st)
  | 0, k, far, j, h1, h2, _, _ => by omega
  | n + 1, k, far, j, h1, h2, h3, h4 => by
    rw [readFrom]
    by_cases e : k = j
    · subst e
      rw [if_neg h4]
    · rw [if_pos (h3 k (Nat.le_refl _) (by omega))]
      exact from_first b n (k + 1) _ j (by omega) (by omega) (fun i hi hi2 => h3 i (by omega) hi2) h4
theorem from_wrong (b : List UInt8) : ∀ (n k far : Nat), (∀ i, k ≤ i → i < k + n → (kindS i b).st = 2) → (far < b.length ∨ n ≠ 0) → far ≤ b.length - 1 → (readFrom b n k far).2.2 = 2 ∧ (readFrom b n k far).2.1 < b.length ∧ (readFrom b n k far).1 = rp0
  | 0, k, far, _, h, _ => ⟨rfl, by rcases h with h | h; exact h; exact absurd rfl h, rfl⟩
  | n + 1, k, far, h1, h2, h3 => by
    have hk := h1 k (Nat.le_refl _) (by omega)
    have hp := kind_wrong k b hk
    rw [readFrom, if_pos hk]
    exact from_wrong b n (k + 1) _ (fun i hi hi2 => h1 i (by omega) (by omega)) (.inl (by omega)) (by omega)
theorem from_pick (b : List UInt8) : ∀ (n k : Nat), (∃ j, k ≤ j ∧ j < k + n ∧ (∀ i, k ≤ i → i < j → (kindS i b).st = 2) ∧ (kindS j b).st ≠ 2) ∨ (∀ i, k ≤ i → i < k + n → (kindS i b).st = 2)
  | 0, k => .inr (fun i h1 h2 => by omega)
  | n + 1, k => by
    by_cases hk : (kindS k b).st = 2
    · rcases from_pick b n (k + 1) with ⟨j, h1, h2, h3, h4⟩ | h
      · refine .inl ⟨j, by omega, by omega, fun i hi hi2 => ?_, h4⟩
        by_cases e : i = k
        · rw [e]; exact hk
        · exact h3 i (by omega) hi2
      · refine .inr (fun i hi hi2 => ?_)
        by_cases e : i = k
        · rw [e]; exact hk
        · exact h i (by omega) (by omega)
    · exact .inl ⟨k, Nat.le_refl _, by omega, fun i h1 h2 => by omega, hk⟩
/-- How bytes are read: by the first kind that isn't wrong. -/
theorem read_pick (b : List UInt8) : (∃ j, 1 ≤ j ∧ j ≤ 23 ∧ (∀ i, 1 ≤ i → i < j → (kindS i b).st = 2) ∧ (kindS j b).st ≠ 2 ∧ readP b = (rpOf j (kindS j b), (kindS j b).pos, (kindS j b).st)) ∨ ((∀ i, 1 ≤ i → i ≤ 23 → (kindS i b).st = 2) ∧ (readP b).2.2 = 2 ∧ (readP b).2.1 < b.length ∧ (readP b).1 = rp0) := by
  rcases from_pick b 23 1 with ⟨j, h1, h2, h3, h4⟩ | h
  · exact .inl ⟨j, h1, by omega, h3, h4, from_first b 23 1 0 j h1 h2 h3 h4⟩
  · exact .inr ⟨fun i h1 h2 => h i h1 (by omega), from_wrong b 23 1 0 h (.inr (by decide)) (Nat.zero_le _)⟩
theorem from_ext (b x : List UInt8) : ∀ (n k far : Nat), (readFrom b n k far).2.2 ≠ 1 → readFrom (b ++ x) n k far = readFrom b n k far
  | 0, k, far, _ => rfl
  | n + 1, k, far, h => by
    simp only [readFrom] at h ⊢
    by_cases hk : (kindS k b).st = 2
    · rw [if_pos hk] at h
      have e := kind_ext k b x (by rw [hk]; decide)
      rw [e, if_pos hk, if_pos hk]
      exact from_ext b x n (k + 1) _ h
    · rw [if_neg hk] at h
      have e := kind_ext k b x h
      rw [e, if_neg hk, if_neg hk]
theorem read_ext (b x : List UInt8) (h : (readP b).2.2 ≠ 1) : readP (b ++ x) = readP b := from_ext b x 23 1 0 h
theorem read_three (b : List UInt8) : (readP b).2.2 ≤ 2 := by
  rcases read_pick b with ⟨j, _, _, _, _, e⟩ | ⟨_, h, _⟩
  · rw [e]; exact kind_three j b
  · omega
theorem lead_pos (k : Nat) : 1 ≤ (leadL k).length := by unfold leadL; simp
theorem read_good (b : List UInt8) (h : (readP b).2.2 = 0) : 2 ≤ (readP b).2.1 ∧ (readP b).2.1 ≤ b.length := by
  rcases read_pick b with ⟨j, _, _, _, _, e⟩ | ⟨_, h2, _⟩
  · rw [e] at h ⊢
    have := kind_lead j b h
    have := lead_pos j
    exact ⟨by show 2 ≤ (kindS j b).pos; omega, kind_good j b h⟩
  · omega
theorem read_wrong (b : List UInt8) (h : (readP b).2.2 = 2) : (readP b).2.1 < b.length ∧ (readP b).1 = rp0 := by
  rcases read_pick b with ⟨j, _, _, _, h4, e⟩ | ⟨_, _, h3⟩
  · rw [e] at h; exact absurd h h4
  · exact h3
theorem read_short (b : List UInt8) (h : (readP b).2.2 = 1) : b.length ≤ (readP b).2.1 := by
  rcases read_pick b with ⟨j, _, _, _, _, e⟩ | ⟨_, h2, _⟩
  · rw [e] at h ⊢
    exact (kind_short j b [] h).1
  · omega
/-- What stands behind a whole reply is not looked at. -/
theorem read_cut (b : List UInt8) (m : Nat) (h : (readP b).2.2 = 0) (hm : (readP b).2.1 ≤ m) : readP (b.take m) = readP b := by
  rcases read_pick b with ⟨j, h1, h2, h3, h4, e⟩ | ⟨_, h2, _⟩
  · rw [e] at h hm ⊢
    have h : (kindS j b).st = 0 := h
    have hm : (kindS j b).pos ≤ m := hm
    have hp := kind_good j b h
    have hb : b = b.take m ++ b.drop m := (List.take_append_drop _ _).symm
    have hl : (b.take m).length = min m b.length := List.length_take
    have same : ∀ i, 1 ≤ i → i ≤ j → kindS i (b.take m) = kindS i b := fun i hi hij => by
      have hx := kind_ext i (b.take m) (b.drop m)
      rw [← hb] at hx
      by_cases hs : (kindS i (b.take m)).st = 1
      · exfalso
        by_cases hij2 : i = j
        · subst hij2
          have := kind_strict i (b.take m) (b.drop m) hs (by rw [← hb]; exact h)
          rw [← hb] at this
          omega
        · have a := (kind_other i j b ⟨hi, by omega⟩ ⟨h1, h2⟩ hij2 h).2
          have c := (kind_short i (b.take m) (b.drop m) hs).2
          rw [← hb] at c
          omega
      · exact (hx hs).symm
    have := from_first (b.take m) 23 1 0 j h1 (by omega) (fun i hi hi2 => by rw [same i hi (by omega)]; exact h3 i hi hi2) (by rw [same j h1 (Nat.le_refl _)]; exact h4)
    show readFrom (b.take m) 23 1 0 = _
    rw [this, same j h1 (Nat.le_refl _)]
  · omega
end Go.Proofs.YtienggblpmkjjaaDoor

namespace Go.Proofs.YtienggblpmkjjaaDoor
open Go.RowKit

/-- How many bytes at the head are whole replies; behind them how many up to a wrong one and with it (0: none is). -/
def scanF : Nat → List UInt8 → Nat × Nat
  | 0, _ => (0, 0)
  | f + 1, b => if (readP b).2.2 = 0 then ((readP b).2.1 + (scanF f (b.drop (readP b).2.1)).1, (scanF f (b.drop (readP b).2.1)).2) else if (readP b).2.2 = 2 then (0, (readP b).2.1 + 1) else (0, 0)
def scan (b : List UInt8) : Nat × Nat := scanF (b.length + 1) b
theorem scan_fuel : ∀ (f g : Nat) (b : List UInt8), b.length < f → b.length < g → scanF f b = scanF g b
  | 0, _, _, h, _ => absurd h (Nat.not_lt_zero _)
  | _ + 1, 0, _, _, h => absurd h (Nat.not_lt_zero _)
  | f + 1, g + 1, b, h1, h2 => by
    unfold scanF
    by_cases h : (readP b).2.2 = 0
    · have := read_good b h
      rw [if_pos h, if_pos h, scan_fuel f g (b.drop (readP b).2.1) (by simp; omega) (by simp; omega)]
    · rw [if_neg h, if_neg h]
theorem scan_good {b : List UInt8} (h : (readP b).2.2 = 0) : scan b = ((readP b).2.1 + (scan (b.drop (readP b).2.1)).1, (scan (b.drop (readP b).2.1)).2) := by
  have hg := read_good b h
  have e : scan b = ((readP b).2.1 + (scanF b.length (b.drop (readP b).2.1)).1, (scanF b.length (b.drop (readP b).2.1)).2) := by
    show scanF (b.length + 1) b = _
    rw [scanF, if_pos h]
  rw [e, scan_fuel b.length ((b.drop (readP b).2.1).length + 1) (b.drop (readP b).2.1) (by simp; omega) (by omega)]
  rfl
theorem scan_wrong {b : List UInt8} (h : (readP b).2.2 = 2) : scan b = (0, (readP b).2.1 + 1) := by
  show scanF (b.length + 1) b = _
  rw [scanF, if_neg (by rw [h]; decide), if_pos h]
theorem scan_short {b : List UInt8} (h : (readP b).2.2 = 1) : scan b = (0, 0) := by
  show scanF (b.length + 1) b = _
  rw [scanF, if_neg (by rw [h]; decide), if_neg (by rw [h]; decide)]
theorem read_nil : (readP []).2 = (0, 1) := by decide
theorem scan_nil : scan [] = (0, 0) := scan_short (by rw [read_nil])
theorem read_first (b : List UInt8) (j : Nat) (h1 : 1 ≤ j) (h2 : j ≤ 23) (h3 : ∀ i, 1 ≤ i → i < j → (kindS i b).st = 2) (h4 : (kindS j b).st ≠ 2) : readP b = (rpOf j (kindS j b), (kindS j b).pos, (kindS j b).st) := from_first b 23 1 0 j h1 (by omega) h3 h4
theorem cases_read (b : List UInt8) : (readP b).2.2 = 0 ∨ (readP b).2.2 = 1 ∨ (readP b).2.2 = 2 := by
  have := read_three b
  omega
/-- By the replies that bytes have. -/
theorem by_replies {P : List UInt8 → Prop} (h0 : ∀ b, (readP b).2.2 ≠ 0 → P b) (h1 : ∀ b, (readP b).2.2 = 0 → P (b.drop (readP b).2.1) → P b) : ∀ b, P b := by
  intro b
  induction h : b.length using Nat.strongRecOn generalizing b with
  | _ n ih =>
    by_cases hz : (readP b).2.2 = 0
    · have := read_good b hz
      exact h1 b hz (ih (b.drop (readP b).2.1).length (by simp; omega) _ rfl)
    · exact h0 b hz
theorem scan_le (b : List UInt8) : (scan b).1 + (scan b).2 ≤ b.length := by
  refine by_replies (P := fun b => (scan b).1 + (scan b).2 ≤ b.length) (fun b h => ?_) (fun b h ih => ?_) b
  · rcases cases_read b with h0 | h0 | h0
    · exact absurd h0 h
    · rw [scan_short h0]; exact Nat.zero_le _
    · rw [scan_wrong h0]
      have := (read_wrong b h0).1
      show 0 + _ ≤ _
      omega
  · rw [scan_good h]
    have := read_good b h
    rw [List.length_drop] at ih
    show (readP b).2.1 + _ + _ ≤ _
    omega
theorem pair_eq {a b c d : Nat} (h1 : a = c) (h2 : b = d) : (a, b) = (c, d) := by rw [h1, h2]
theorem scan_rest (b : List UInt8) : scan (b.drop (scan b).1) = (0, (scan b).2) := by
  refine by_replies (P := fun b => scan (b.drop (scan b).1) = (0, (scan b).2)) (fun b h => ?_) (fun b h ih => ?_) b
  · rcases cases_read b with h0 | h0 | h0
    · exact absurd h0 h
    · have e := scan_short h0
      rw [e]; exact e
    · have e := scan_wrong h0
      rw [e]; exact e
  · rw [scan_good h]
    dsimp only
    rw [← List.drop_drop]
    exact ih
theorem scan_zero {b : List UInt8} (h : (scan b).1 = 0) : (readP b).2.2 ≠ 0 := by
  intro h0
  rw [scan_good h0] at h
  have := read_good b h0
  simp only at h
  omega
/-- What the rest is. -/
theorem rest_short {b : List UInt8} (h : (scan b).2 = 0) : (readP (b.drop (scan b).1)).2.2 = 1 := by
  have e := scan_rest b
  have h1 := scan_zero (b := b.drop (scan b).1) (by rw [e])
  rcases cases_read (b.drop (scan b).1) with h0 | h0 | h0
  · exact absurd h0 h1
  · exact h0
  · rw [scan_wrong h0, h] at e
    have := congrArg Prod.snd e
    simp at this
theorem scan_app (b x : List UInt8) : scan (b ++ x) = if (scan b).2 = 0 then ((scan b).1 + (scan (b.drop (scan b).1 ++ x)).1, (scan (b.drop (scan b).1 ++ x)).2) else scan b := by
  refine by_replies (P := fun b => scan (b ++ x) = if (scan b).2 = 0 then ((scan b).1 + (scan (b.drop (scan b).1 ++ x)).1, (scan (b.drop (scan b).1 ++ x)).2) else scan b) (fun b h => ?_) (fun b h ih => ?_) b
  · rcases cases_read b with h0 | h0 | h0
    · exact absurd h0 h
    · rw [scan_short h0, if_pos rfl]
      simp
    · have e := read_ext b x (by rw [h0]; decide)
      rw [scan_wrong h0, if_neg (by simp), scan_wrong (by rw [e]; exact h0), e]
  · have e := read_ext b x (by rw [h]; decide)
    have hl := read_good b h
    have h2 : scan (b ++ x) = ((readP b).2.1 + (scan (b.drop (readP b).2.1 ++ x)).1, (scan (b.drop (readP b).2.1 ++ x)).2) := by
      rw [scan_good (by rw [e]; exact h), e, List.drop_append_of_le_length hl.2]
    rw [h2, scan_good h, ih]
    by_cases hz : (scan (b.drop (readP b).2.1)).2 = 0
    · rw [if_pos hz, if_pos hz]
      dsimp only
      rw [← List.drop_drop]
      exact pair_eq (by omega) rfl
    · rw [if_neg hz, if_neg hz]

/-- A place of bytes where a reply, or what is no reply, begins. -/
def Bd (A : List UInt8) (g : Nat) : Prop := g ≤ A.length ∧ scan A = (g + (scan (A.drop g)).1, (scan (A.drop g)).2)
theorem Bd.zero (A : List UInt8) : Bd A 0 := ⟨Nat.zero_le _, by simp⟩
theorem Bd.le {A : List UInt8} {g : Nat} (h : Bd A g) : g ≤ (scan A).1 := by rw [h.2]; show g ≤ g + _; omega
theorem Bd.app {A : List UInt8} {g : Nat} (h : Bd A g) (x : List UInt8) : Bd (A ++ x) g := by
  obtain ⟨h1, h2⟩ := h
  refine ⟨by simp; omega, ?_⟩
  rw [scan_app A x, List.drop_append_of_le_length h1, scan_app (A.drop g) x]
  have e1 := congrArg Prod.fst h2
  have e2 := congrArg Prod.snd h2
  simp only at e1 e2
  rw [e2]
  by_cases hz : (scan (A.drop g)).2 = 0
  · rw [if_pos hz, if_pos hz]
    simp only [List.drop_drop, ← e1]
    exact pair_eq (by omega) rfl
  · rw [if_neg hz, if_neg hz]
    exact h2
/-- The next reply. -/
theorem Bd.next {A : List UInt8} {g : Nat} (h : Bd A g) (hlt : g < (scan A).1) : (readP (A.drop g)).2.2 = 0 ∧ g + (readP (A.drop g)).2.1 ≤ (scan A).1 ∧ readP ((A.drop g).take ((scan A).1 - g)) = readP (A.drop g) ∧ Bd A (g + (readP (A.drop g)).2.1) := by
  obtain ⟨h1, h2⟩ := h
  have e1 := congrArg Prod.fst h2
  simp only at e1
  have h0 : (readP (A.drop g)).2.2 = 0 := by
    rcases cases_read (A.drop g) with h0 | h0 | h0
    · exact h0
    · rw [scan_short h0] at e1; simp only at e1; omega
    · rw [scan_wrong h0] at e1; simp only at e1; omega
  have hg := read_good _ h0
  have hs := scan_good h0
  have e3 := congrArg Prod.fst hs
  simp only at e3
  refine ⟨h0, by omega, read_cut _ _ h0 (by omega), ?_, ?_⟩
  · rw [List.length_drop] at hg; omega
  · rw [h2, hs, ← List.drop_drop]
    dsimp only
    exact pair_eq (Nat.add_assoc _ _ _).symm rfl
theorem Bd.kk {A : List UInt8} {kk : Nat} (h : Bd A kk) (h0 : (readP (A.drop kk)).2.2 = 0) : Bd A (kk + (readP (A.drop kk)).2.1) := by
  refine (h.next ?_).2.2.2
  have := read_good _ h0
  rw [h.2, scan_good h0]
  show kk < kk + (_ + _)
  omega

/-- A step whose shortness is where the bytes end. -/
def Tight (p : List UInt8 → St → St) : Prop := ∀ b s, s.st = 0 → s.pos ≤ b.length → (p b s).st = 1 → (p b s).pos = b.length
theorem Tight.comp {p q : List UInt8 → St → St} (h : Tight p) (f : Fine p) (k : Tight q) (fq : Fine q) : Tight (fun b s => q b (p b s)) := by
  intro b s h0 hp h1
  have h1 : (q b (p b s)).st = 1 := h1
  show (q b (p b s)).pos = _
  by_cases hz : (p b s).st = 0
  · exact k b _ hz (f.good b s h0 hp hz) h1
  · rw [fq.stuck b _ hz] at h1 ⊢
    exact h b s h0 hp h1
theorem Tight.opt {p : List UInt8 → St → St} (h : Tight p) (c : Prop) [Decidable c] : Tight (fun b s => if c then p b s else s) := by
  intro b s h0 hp h1
  by_cases hc : c
  · simp only [if_pos hc] at h1 ⊢; exact h b s h0 hp h1
  · simp only [if_neg hc] at h1; rw [h0] at h1; cases h1
theorem tight_text (w : List UInt8) : Tight (textS w) := by
  intro b s h0 hp h1
  unfold textS at h1 ⊢
  rw [if_pos h0] at h1 ⊢
  exact (text_short b [] w s.pos hp h1).1
theorem tight_word {fits : List UInt8 → Bool} (hc : Closed fits) (f : St → List UInt8 → Nat → Nat → St) (hf : ∀ s w p e, (f s w p e).pos = p ∧ (f s w p e).st = e) (p : List UInt8 → St → St)
    (hp : ∀ b s, p b s = if s.st = 0 then f s (wordP b fits s.pos).1 (wordP b fits s.pos).2.1 (wordP b fits s.pos).2.2 else s) : Tight p := by
  intro b s h0 hq h1
  rw [hp, if_pos h0] at h1 ⊢
  rw [(hf _ _ _ _).2] at h1
  rw [(hf _ _ _ _).1]
  exact (word_short hc b [] s.pos hq h1).1
theorem tight_line (k : Nat) : Tight (lineS k) := by
  have a1 := tight_text (wordOf k)
  have a2 : Tight (idS (idOf k)) := tight_word (num_closed (l := 1) (m := idOf k) (by decide)) (fun s w p e => { s with pos := p, st := e, id := parseV w (idOf k) }) (fun _ _ _ _ => ⟨rfl, rfl⟩) _ (fun _ _ => rfl)
  have a3 : Tight (numS (nuOf k)) := tight_word (num_closed (l := 0) (m := nuOf k) (by decide)) (fun s w p e => { s with pos := p, st := e, num := parseV w (nuOf k) }) (fun _ _ _ _ => ⟨rfl, rfl⟩) _ (fun _ _ => rfl)
  have a4 : Tight tubeS := tight_word valid_closed (fun s w p e => { s with pos := p, st := e, tube := w }) (fun _ _ _ _ => ⟨rfl, rfl⟩) _ (fun _ _ => rfl)
  have a5 : Tight (sizeS (boOf k)) := tight_word (num_closed (l := 0) (m := boOf k) (by decide)) (fun s w p e => { s with pos := p, st := e, size := parseV w (boOf k) }) (fun _ _ _ _ => ⟨rfl, rfl⟩) _ (fun _ _ => rfl)
  have f1 := fine_text (wordOf k)
  have f2 := (fine_id (idOf k)).opt (0 < idOf k)
  have f3 := (fine_num (nuOf k)).opt (0 < nuOf k)
  have f4 := fine_tube.opt (tuOf k = true)
  have f5 := (fine_size (boOf k)).opt (0 < boOf k)
  exact (((a1.comp f1 (a2.opt _) f2).comp (f1.comp f2) (a3.opt _) f3).comp ((f1.comp f2).comp f3) (a4.opt _) f4).comp (((f1.comp f2).comp f3).comp f4) (a5.opt _) f5
theorem nil_of_le {b x : List UInt8} (h : (b ++ x).length ≤ b.length) : x = [] := by
  rw [List.length_append] at h
  exact List.length_eq_zero_iff.1 (by omega)
/-- A body that is still to come is not looked at. -/
theorem kind_skip (k : Nat) (b x : List UInt8) (h : (kindS k b).st = 1) (hx : (b ++ x).length ≤ (kindS k b).pos) : (kindS k (b ++ x)).st = 1 ∧ (kindS k (b ++ x)).pos = (kindS k b).pos := by
  have same : (kindS k b).pos = b.length → (kindS k (b ++ x)).st = 1 ∧ (kindS k (b ++ x)).pos = (kindS k b).pos := fun e => by
    rw [e] at hx
    rw [nil_of_le hx, List.append_nil]
    exact ⟨h, rfl⟩
  by_cases hc : 0 < boOf k
  · obtain ⟨s5, e5⟩ : ∃ s, s = textS [13, 10] b (lineS k b st0) := ⟨_, rfl⟩
    have hk : kindS k b = textS [13, 10] b (takeS b s5) := by unfold kindS bodyS; rw [if_pos hc, ← e5]
    have F5 := (fine_line k).comp (fine_text [13, 10])
    by_cases hz : s5.st = 0
    · have p5 : s5.pos ≤ b.length := by rw [e5] at hz ⊢; exact F5.good b st0 rfl (Nat.zero_le _) hz
      have e6 : textS [13, 10] (b ++ x) (lineS k (b ++ x) st0) = s5 := by
        rw [e5]
        exact F5.ext b x st0 rfl (Nat.zero_le _) (by rw [e5] at hz; show (textS [13, 10] b (lineS k b st0)).st ≠ 1; rw [hz]; decide)
      have hk6 : kindS k (b ++ x) = textS [13, 10] (b ++ x) (takeS (b ++ x) s5) := by unfold kindS bodyS; rw [if_pos hc, e6]
      by_cases hl : b.length < s5.pos + s5.size.toNat
      · have et : takeS b s5 = { s5 with pos := s5.pos + s5.size.toNat, st := 1 } := by unfold takeS; rw [if_pos hz, if_pos hl]
        have ek : kindS k b = { s5 with pos := s5.pos + s5.size.toNat, st := 1 } := by rw [hk, et, (fine_text _).stuck _ _ (by show (1 : Nat) ≠ 0; decide)]
        rw [ek] at hx ⊢
        have hx : (b ++ x).length ≤ s5.pos + s5.size.toNat := hx
        rw [hk6]
        by_cases hl2 : (b ++ x).length < s5.pos + s5.size.toNat
        · have : takeS (b ++ x) s5 = { s5 with pos := s5.pos + s5.size.toNat, st := 1 } := by unfold takeS; rw [if_pos hz, if_pos hl2]
          rw [this, (fine_text _).stuck _ _ (by show (1 : Nat) ≠ 0; decide)]
          exact ⟨rfl, rfl⟩
        · have : takeS (b ++ x) s5 = { s5 with pos := s5.pos + s5.size.toNat, body := ((b ++ x).drop s5.pos).take s5.size.toNat } := by unfold takeS; rw [if_pos hz, if_neg hl2]
          rw [this]
          have hn : (b ++ x)[s5.pos + s5.size.toNat]? = none := List.getElem?_eq_none (by omega)
          have ht : textP (b ++ x) [13, 10] (s5.pos + s5.size.toNat) = (s5.pos + s5.size.toNat, 1) := by rw [text_cons, hn]
          unfold textS
          dsimp only
          rw [if_pos hz, ht]
          exact ⟨rfl, rfl⟩
      · refine same ?_
        have et : takeS b s5 = { s5 with pos := s5.pos + s5.size.toNat, body := (b.drop s5.pos).take s5.size.toNat } := by unfold takeS; rw [if_pos hz, if_neg hl]
        rw [hk, et] at h ⊢
        exact tight_text [13, 10] b _ hz (by show s5.pos + s5.size.toNat ≤ _; omega) h
    · refine same ?_
      have et : takeS b s5 = s5 := fine_take.stuck b s5 hz
      rw [hk, et, (fine_text _).stuck _ _ hz] at h ⊢
      have T5 := (tight_line k).comp (fine_line k) (tight_text [13, 10]) (fine_text [13, 10])
      rw [e5] at h ⊢
      exact T5 b st0 rfl (Nat.zero_le _) h
  · refine same ?_
    have hk : kindS k b = textS [13, 10] b (lineS k b st0) := by unfold kindS bodyS; rw [if_neg hc]
    have T5 := (tight_line k).comp (fine_line k) (tight_text [13, 10]) (fine_text [13, 10])
    rw [hk] at h ⊢
    exact T5 b st0 rfl (Nat.zero_le _) h
theorem read_skip (b x : List UInt8) (h : (readP b).2.2 = 1) (hx : (b ++ x).length ≤ (readP b).2.1) : (readP (b ++ x)).2 = ((readP b).2.1, 1) := by
  rcases read_pick b with ⟨j, h1, h2, h3, h4, e⟩ | ⟨_, h2, _⟩
  · rw [e] at h hx ⊢
    obtain ⟨a, c⟩ := kind_skip j b x h hx
    have := read_first (b ++ x) j h1 h2 (fun i hi hi2 => by rw [kind_ext i b x (by rw [h3 i hi hi2]; decide)]; exact h3 i hi hi2) (by rw [a]; decide)
    rw [this, a, c]
  · omega

/-- A reader: what came, told up to gone, whole up to whole; where to look next; how many bytes are spoilt. -/
structure Rd where
  came : List UInt8
  gone : Nat
  whole : Nat
  look : Nat
  spoilt : Nat
/-- It stands where it should when A came and g bytes of it are told. -/
structure Inv (A : List UInt8) (g : Nat) (s : Rd) : Prop where
  bd : Bd A g
  whole : s.whole = s.gone + ((scan A).1 - g)
  fits : s.whole ≤ s.came.length
  spoilt : s.spoilt = (scan A).2
  held : s.came.drop s.gone = if (scan A).2 = 0 then A.drop g else (A.drop g).take ((scan A).1 - g)
  look : (scan A).2 = 0 → s.look = s.whole + (readP (A.drop (scan A).1)).2.1
/-- In the midst of Feed: whole up to kk. -/
structure Mid (A : List UInt8) (g : Nat) (s : Rd) (kk : Nat) : Prop where
  bd : Bd A g
  bk : Bd A kk
  le : g ≤ kk
  whole : s.whole = s.gone + (kk - g)
  fits : s.whole ≤ s.came.length
  spoilt : s.spoilt = 0
  held : s.came.drop s.gone = A.drop g
  look : s.look < s.came.length ∨ (s.look = s.whole + (readP (A.drop kk)).2.1 ∧ (readP (A.drop kk)).2.2 = 1)
theorem Mid.gone {A : List UInt8} {g kk : Nat} {s : Rd} (h : Mid A g s kk) : s.gone ≤ s.came.length := by have := h.whole; have := h.fits; omega
theorem Mid.len {A : List UInt8} {g kk : Nat} {s : Rd} (h : Mid A g s kk) : s.came.length = s.gone + (A.length - g) := by
  have := congrArg List.length h.held
  have := h.gone
  simp at *
  omega
theorem Mid.tail {A : List UInt8} {g kk : Nat} {s : Rd} (h : Mid A g s kk) : s.came.drop s.whole = A.drop kk := by
  have := h.le
  rw [h.whole, ← List.drop_drop, h.held, List.drop_drop]
  congr 1
  omega
/-- Feed begins. -/
theorem Inv.start {A : List UInt8} {g : Nat} {s : Rd} (h : Inv A g s) (h0 : s.spoilt = 0) (b : List UInt8) : Mid (A ++ b) g { s with came := s.came ++ b } (scan A).1 := by
  have hz : (scan A).2 = 0 := by rw [← h.spoilt]; exact h0
  have hle := scan_le A
  have hg := h.bd.le
  have hgone : s.gone ≤ s.came.length := by have := h.whole; have := h.fits; omega
  have hh := h.held
  rw [if_pos hz] at hh
  have hlen : s.came.length = s.gone + (A.length - g) := by
    have := congrArg List.length hh
    simp at this
    have := h.bd.1
    omega
  refine ⟨h.bd.app b, ?_, hg, h.whole, by have := h.fits; simp; omega, h0, ?_, ?_⟩
  · refine ⟨by simp; omega, ?_⟩
    rw [scan_app A b, if_pos hz, List.drop_append_of_le_length (by omega)]
  · show (s.came ++ b).drop s.gone = _
    rw [List.drop_append_of_le_length hgone, hh, List.drop_append_of_le_length h.bd.1]
  · show s.look < (s.came ++ b).length ∨ _
    by_cases hl : s.look < (s.came ++ b).length
    · exact .inl hl
    · right
      have e := h.look hz
      have hs := rest_short hz
      have hsk := read_skip (A.drop (scan A).1) b hs (by
        have := h.whole
        simp at hl ⊢
        omega)
      rw [List.drop_append_of_le_length (by omega), hsk]
      dsimp only
      exact ⟨e, rfl⟩
/-- A round of Feed finds a whole reply. -/
theorem Mid.good {A : List UInt8} {g kk : Nat} {s : Rd} (h : Mid A g s kk) (h0 : (readP (A.drop kk)).2.2 = 0) : Mid A g { s with whole := s.whole + (readP (A.drop kk)).2.1, look := s.whole + (readP (A.drop kk)).2.1 } (kk + (readP (A.drop kk)).2.1) := by
  have hg := read_good _ h0
  have hl := h.len
  have hw := h.whole
  have hle := h.le
  have hk := h.bk.1
  rw [List.length_drop] at hg
  refine ⟨h.bd, h.bk.kk h0, by omega, by show s.whole + _ = s.gone + _; omega, by show s.whole + _ ≤ s.came.length; omega, h.spoilt, h.held, ?_⟩
  show s.whole + _ < s.came.length ∨ _
  by_cases hlt : s.whole + (readP (A.drop kk)).2.1 < s.came.length
  · exact .inl hlt
  · right
    have e : A.drop (kk + (readP (A.drop kk)).2.1) = [] := List.drop_of_length_le (by omega)
    rw [e, read_nil]
    exact ⟨rfl, rfl⟩
theorem Mid.short {A : List UInt8} {g kk : Nat} {s : Rd} (h : Mid A g s kk) (h0 : (readP (A.drop kk)).2.2 = 1) : Mid A g { s with look := s.whole + (readP (A.drop kk)).2.1 } kk ∧ s.came.length ≤ s.whole + (readP (A.drop kk)).2.1 := by
  have hs := read_short _ h0
  have hl := h.len
  have hw := h.whole
  have hle := h.le
  have hk := h.bk.1
  rw [List.length_drop] at hs
  exact ⟨⟨h.bd, h.bk, h.le, h.whole, h.fits, h.spoilt, h.held, .inr ⟨rfl, h0⟩⟩, by omega⟩
theorem Mid.end {A : List UInt8} {g kk : Nat} {s : Rd} (h : Mid A g s kk) (hl : s.came.length ≤ s.look) : Inv A g s := by
  obtain ⟨e, h1⟩ : s.look = s.whole + (readP (A.drop kk)).2.1 ∧ (readP (A.drop kk)).2.2 = 1 := by
    rcases h.look with hlt | h2
    · omega
    · exact h2
  have es : scan A = (kk, 0) := by rw [h.bk.2, scan_short h1]; rfl
  refine ⟨h.bd, ?_, h.fits, ?_, ?_, fun _ => ?_⟩
  · rw [es]; exact h.whole
  · rw [es]; exact h.spoilt
  · rw [es, if_pos rfl]; exact h.held
  · rw [es]; exact e
theorem Mid.wrong {A : List UInt8} {g kk : Nat} {s : Rd} (h : Mid A g s kk) (h0 : (readP (A.drop kk)).2.2 = 2) (L : Nat) : Inv A g ⟨(s.came.drop s.gone).take (s.whole - s.gone), 0, s.whole - s.gone, L, (readP (A.drop kk)).2.1 + 1⟩ := by
  have es : scan A = (kk, (readP (A.drop kk)).2.1 + 1) := by rw [h.bk.2, scan_wrong h0]; rfl
  have hw := h.whole
  have hf := h.fits
  refine ⟨h.bd, ?_, ?_, ?_, ?_, fun hz => ?_⟩
  · rw [es]; show s.whole - s.gone = 0 + _; omega
  · show s.whole - s.gone ≤ ((s.came.drop s.gone).take _).length
    simp; omega
  · rw [es]
  · rw [es, if_neg (by simp)]
    show ((s.came.drop s.gone).take (s.whole - s.gone)).drop 0 = _
    rw [List.drop_zero, h.held]
    congr 1
    show s.whole - s.gone = kk - g
    omega
  · rw [es] at hz; simp at hz
theorem Inv.more {A : List UInt8} {g : Nat} {s : Rd} (h : Inv A g s) (h0 : s.spoilt ≠ 0) (b : List UInt8) : Inv (A ++ b) g s := by
  have hz : (scan A).2 ≠ 0 := by rw [← h.spoilt]; exact h0
  have hle := scan_le A
  have es : scan (A ++ b) = scan A := by rw [scan_app, if_neg hz]
  have hh := h.held
  rw [if_neg hz] at hh
  refine ⟨h.bd.app b, by rw [es]; exact h.whole, h.fits, by rw [es]; exact h.spoilt, ?_, fun h2 => absurd (by rw [es] at h2; exact h2) hz⟩
  rw [es, if_neg hz, hh, List.drop_append_of_le_length h.bd.1, List.take_append_of_le_length (by simp; omega)]
/-- What Held tells. -/
def heldN (A : List UInt8) (g : Nat) : Nat := if (scan A).2 = 0 then A.length - g else (scan A).1 - g + (scan A).2
theorem Inv.heldN {A : List UInt8} {g : Nat} {s : Rd} (h : Inv A g s) : s.came.length - s.gone + s.spoilt = heldN A g := by
  have hh := congrArg List.length h.held
  have hle := scan_le A
  have hg := h.bd.le
  have h1 := h.bd.1
  have hs := h.spoilt
  unfold Go.Proofs.YtienggblpmkjjaaDoor.heldN
  by_cases hz : (scan A).2 = 0
  · rw [if_pos hz] at hh ⊢
    simp at hh
    omega
  · rw [if_neg hz] at hh ⊢
    simp at hh
    omega
/-- keep: what is told is let go, up to a place. -/
theorem Inv.keep {A : List UInt8} {g : Nat} {s : Rd} (h : Inv A g s) : Inv A g ⟨(s.came.drop s.gone).take (s.came.length - s.gone), 0, s.whole - s.gone, s.look - s.gone, s.spoilt⟩ := by
  have hw := h.whole
  have hf := h.fits
  refine ⟨h.bd, by show s.whole - s.gone = 0 + _; omega, ?_, h.spoilt, ?_, fun hz => ?_⟩
  · show s.whole - s.gone ≤ ((s.came.drop s.gone).take _).length
    simp; omega
  · show ((s.came.drop s.gone).take (s.came.length - s.gone)).drop 0 = _
    rw [List.drop_zero, List.take_of_length_le (by simp)]
    exact h.held
  · have := h.look hz
    show s.look - s.gone = s.whole - s.gone + _
    omega
/-- Next tells a reply. -/
theorem Inv.next {A : List UInt8} {g : Nat} {s : Rd} (h : Inv A g s) (hlt : g < (scan A).1) : (readP (A.drop g)).2.2 = 0 ∧ readP ((s.came.drop s.gone).take (s.whole - s.gone)) = readP (A.drop g) ∧ s.gone + (readP (A.drop g)).2.1 ≤ s.whole ∧ Inv A (g + (readP (A.drop g)).2.1) { s with gone := s.gone + (readP (A.drop g)).2.1 } := by
  obtain ⟨h0, h1, h2, h3⟩ := h.bd.next hlt
  have hw := h.whole
  have hh := h.held
  have e : (s.came.drop s.gone).take (s.whole - s.gone) = (A.drop g).take ((scan A).1 - g) := by
    rw [hh, show s.whole - s.gone = (scan A).1 - g by omega]
    split
    · rfl
    · rw [List.take_take]; congr 1; omega
  refine ⟨h0, by rw [e]; exact h2, by omega, h3, by show s.whole = s.gone + _ + _; omega, h.fits, h.spoilt, ?_, h.look⟩
  show s.came.drop (s.gone + _) = _
  rw [← List.drop_drop, hh]
  split
  · rw [List.drop_drop]
  · rw [List.drop_take, List.drop_drop]
    congr 1
    omega
theorem Inv.nil : Inv [] 0 ⟨[], 0, 0, 0, 0⟩ := by
  refine ⟨Bd.zero _, ?_, Nat.le_refl _, ?_, ?_, fun _ => ?_⟩
  · rw [scan_nil]; rfl
  · rw [scan_nil]
  · rw [scan_nil]; rfl
  · rw [scan_nil]; show 0 = 0 + (readP []).2.1; rw [read_nil]; rfl
end Go.Proofs.YtienggblpmkjjaaDoor

namespace Go.Proofs.YtienggblpmkjjaaDoor
open Go.RowKit

theorem St.keep_text (w b : List UInt8) (s : St) : (textS w b s).id = s.id ∧ (textS w b s).num = s.num ∧ (textS w b s).tube = s.tube ∧ (textS w b s).size = s.size ∧ (textS w b s).body = s.body := by
  unfold textS; split <;> exact ⟨rfl, rfl, rfl, rfl, rfl⟩
theorem St.keep_id (m : Int) (b : List UInt8) (s : St) : (idS m b s).num = s.num ∧ (idS m b s).tube = s.tube ∧ (idS m b s).size = s.size ∧ (idS m b s).body = s.body := by
  unfold idS; split <;> exact ⟨rfl, rfl, rfl, rfl⟩
theorem St.keep_num (m : Int) (b : List UInt8) (s : St) : (numS m b s).id = s.id ∧ (numS m b s).tube = s.tube ∧ (numS m b s).size = s.size ∧ (numS m b s).body = s.body := by
  unfold numS; split <;> exact ⟨rfl, rfl, rfl, rfl⟩
theorem St.keep_tube (b : List UInt8) (s : St) : (tubeS b s).id = s.id ∧ (tubeS b s).num = s.num ∧ (tubeS b s).size = s.size ∧ (tubeS b s).body = s.body := by
  unfold tubeS; split <;> exact ⟨rfl, rfl, rfl, rfl⟩
theorem St.keep_size (m : Int) (b : List UInt8) (s : St) : (sizeS m b s).id = s.id ∧ (sizeS m b s).num = s.num ∧ (sizeS m b s).tube = s.tube ∧ (sizeS m b s).body = s.body := by
  unfold sizeS; split <;> exact ⟨rfl, rfl, rfl, rfl⟩
theorem St.keep_take (b : List UInt8) (s : St) : (takeS b s).id = s.id ∧ (takeS b s).num = s.num ∧ (takeS b s).tube = s.tube ∧ (takeS b s).size = s.size := by
  unfold takeS; split
  · split <;> exact ⟨rfl, rfl, rfl, rfl⟩
  · exact ⟨rfl, rfl, rfl, rfl⟩
/-- So far a trial has found a text. -/
def Got (b : List UInt8) (s : St) (t : List UInt8) : Prop := s.st = 0 ∧ s.pos ≤ b.length ∧ b.take s.pos = t
theorem take_more {b w r : List UInt8} {p : Nat} (h : b.drop p = w ++ r) : b.take (p + w.length) = b.take p ++ w := by
  rw [List.take_add, h, List.take_left]
theorem got_text {w b t : List UInt8} {s : St} (h : Got b s t) (h0 : (textS w b s).st = 0) : Got b (textS w b s) (t ++ w) := by
  obtain ⟨g0, g1, g2⟩ := h
  unfold textS at h0 ⊢
  rw [if_pos g0] at h0 ⊢
  obtain ⟨a, c, d⟩ := text_good b w s.pos g1 h0
  refine ⟨h0, by show (textP b w s.pos).1 ≤ _; omega, ?_⟩
  show b.take (textP b w s.pos).1 = _
  rw [a, take_more c, g2]
theorem got_word {fits : List UInt8 → Bool} (hc : Closed fits) {b t : List UInt8} {p : Nat} (ht : b.take p = t) (h : (wordP b fits p).2.2 = 0) : (wordP b fits p).2.1 ≤ b.length ∧ b.take (wordP b fits p).2.1 = t ++ 32 :: (wordP b fits p).1 ∧ fits (wordP b fits p).1 = true := by
  obtain ⟨a, _, c, d, e, _⟩ := word_good hc b p h
  refine ⟨Nat.le_of_lt e, ?_, c⟩
  rw [d, show p + 1 + (wordP b fits p).1.length = p + (32 :: (wordP b fits p).1).length by simp; omega, take_more (r := b.drop (wordP b fits p).2.1) (by rw [a]; rfl), ht]
theorem fits_value {l m : Int} {s : List UInt8} (h : numFits l m s = true) : s = decL (parseV s m) ∧ l ≤ parseV s m ∧ parseV s m ≤ m ∧ 0 ≤ parseV s m := by
  obtain ⟨u, rfl, h1, h2⟩ := fits_dec.1 h
  rw [dec_value h2]
  exact ⟨rfl, h1, h2, by omega⟩
theorem got_id {m : Int} {b t : List UInt8} {s : St} (h : Got b s t) (h0 : (idS m b s).st = 0) : Got b (idS m b s) (t ++ 32 :: decL (idS m b s).id) ∧ 1 ≤ (idS m b s).id ∧ (idS m b s).id ≤ m := by
  obtain ⟨g0, g1, g2⟩ := h
  unfold idS at h0 ⊢
  rw [if_pos g0] at h0 ⊢
  obtain ⟨a, c, d⟩ := got_word (num_closed (l := 1) (m := m) (by decide)) g2 h0
  obtain ⟨e1, e2, e3, _⟩ := fits_value d
  refine ⟨⟨h0, a, ?_⟩, e2, e3⟩
  show b.take (wordP b (numFits 1 m) s.pos).2.1 = _
  rw [c]
  exact congrArg (fun x => t ++ 32 :: x) e1
theorem got_num {m : Int} {b t : List UInt8} {s : St} (h : Got b s t) (h0 : (numS m b s).st = 0) : Got b (numS m b s) (t ++ 32 :: decL (numS m b s).num) ∧ 0 ≤ (numS m b s).num ∧ (numS m b s).num ≤ m := by
  obtain ⟨g0, g1, g2⟩ := h
  unfold numS at h0 ⊢
  rw [if_pos g0] at h0 ⊢
  obtain ⟨a, c, d⟩ := got_word (num_closed (l := 0) (m := m) (by decide)) g2 h0
  obtain ⟨e1, e2, e3, _⟩ := fits_value d
  refine ⟨⟨h0, a, ?_⟩, e2, e3⟩
  show b.take (wordP b (numFits 0 m) s.pos).2.1 = _
  rw [c]
  exact congrArg (fun x => t ++ 32 :: x) e1
theorem got_size {m : Int} {b t : List UInt8} {s : St} (h : Got b s t) (h0 : (sizeS m b s).st = 0) : Got b (sizeS m b s) (t ++ 32 :: decL (sizeS m b s).size) ∧ 0 ≤ (sizeS m b s).size ∧ (sizeS m b s).size ≤ m := by
  obtain ⟨g0, g1, g2⟩ := h
  unfold sizeS at h0 ⊢
  rw [if_pos g0] at h0 ⊢
  obtain ⟨a, c, d⟩ := got_word (num_closed (l := 0) (m := m) (by decide)) g2 h0
  obtain ⟨e1, e2, e3, _⟩ := fits_value d
  refine ⟨⟨h0, a, ?_⟩, e2, e3⟩
  show b.take (wordP b (numFits 0 m) s.pos).2.1 = _
  rw [c]
  exact congrArg (fun x => t ++ 32 :: x) e1
theorem got_tube {b t : List UInt8} {s : St} (h : Got b s t) (h0 : (tubeS b s).st = 0) : Got b (tubeS b s) (t ++ 32 :: (tubeS b s).tube) ∧ validB (tubeS b s).tube = true := by
  obtain ⟨g0, g1, g2⟩ := h
  unfold tubeS at h0 ⊢
  rw [if_pos g0] at h0 ⊢
  obtain ⟨a, c, d⟩ := got_word valid_closed g2 h0
  exact ⟨⟨h0, a, c⟩, d⟩
theorem got_take {b t : List UInt8} {s : St} (h : Got b s t) (h0 : (takeS b s).st = 0) : Got b (takeS b s) (t ++ (takeS b s).body) ∧ (takeS b s).body.length = s.size.toNat := by
  obtain ⟨g0, g1, g2⟩ := h
  unfold takeS at h0 ⊢
  rw [if_pos g0] at h0 ⊢
  by_cases hl : b.length < s.pos + s.size.toNat
  · rw [if_pos hl] at h0; cases h0
  · rw [if_neg hl] at h0 ⊢
    have hb : ((b.drop s.pos).take s.size.toNat).length = s.size.toNat := by simp; omega
    refine ⟨⟨h0, by show s.pos + _ ≤ _; omega, ?_⟩, hb⟩
    show b.take (s.pos + s.size.toNat) = t ++ _
    rw [List.take_add, g2]
theorem Fine.was {p : List UInt8 → St → St} (h : Fine p) {b : List UInt8} {s : St} (h0 : (p b s).st = 0) : s.st = 0 := by
  by_cases hz : s.st = 0
  · exact hz
  · rw [h.stuck b s hz] at h0; exact h0
theorem table : ∀ k, k < 24 → 0 ≤ idOf k ∧ 0 ≤ nuOf k ∧ 0 ≤ boOf k ∧ idOf k ≤ 4611686018427387903 ∧ nuOf k ≤ 4294967295 ∧ boOf k ≤ 4294967295 := by decide
/-- What is read is written just so. -/
theorem kind_put (k : Nat) (hk : 1 ≤ k ∧ k ≤ 23) (b : List UInt8) (h : (kindS k b).st = 0) : b.take (kindS k b).pos = putL (rpOf k (kindS k b)) ∧ rightB (rpOf k (kindS k b)) = true := by
  obtain ⟨t1, t2, t3, _⟩ := table k (by omega)
  obtain ⟨s1, e1⟩ : ∃ s, s = textS (wordOf k) b st0 := ⟨_, rfl⟩
  obtain ⟨s2, e2⟩ : ∃ s, s = if 0 < idOf k then idS (idOf k) b s1 else s1 := ⟨_, rfl⟩
  obtain ⟨s3, e3⟩ : ∃ s, s = if 0 < nuOf k then numS (nuOf k) b s2 else s2 := ⟨_, rfl⟩
  obtain ⟨s4, e4⟩ : ∃ s, s = if tuOf k = true then tubeS b s3 else s3 := ⟨_, rfl⟩
  obtain ⟨s5, e5⟩ : ∃ s, s = if 0 < boOf k then sizeS (boOf k) b s4 else s4 := ⟨_, rfl⟩
  obtain ⟨s6, e6⟩ : ∃ s, s = bodyS k b s5 := ⟨_, rfl⟩
  obtain ⟨s7, e7⟩ : ∃ s, s = textS [13, 10] b s6 := ⟨_, rfl⟩
  have ek : kindS k b = s7 := by rw [e7, e6, e5, e4, e3, e2, e1]; rfl
  rw [ek] at h ⊢
  have z6 : s6.st = 0 := (fine_text [13, 10]).was (by rw [← e7]; exact h)
  have z5 : s5.st = 0 := (fine_body k).was (by rw [← e6]; exact z6)
  have z4 : s4.st = 0 := ((fine_size (boOf k)).opt (0 < boOf k)).was (b := b) (by show (if 0 < boOf k then sizeS (boOf k) b s4 else s4).st = 0; rw [← e5]; exact z5)
  have z3 : s3.st = 0 := (fine_tube.opt (tuOf k = true)).was (b := b) (by show (if tuOf k = true then tubeS b s3 else s3).st = 0; rw [← e4]; exact z4)
  have z2 : s2.st = 0 := ((fine_num (nuOf k)).opt (0 < nuOf k)).was (b := b) (by show (if 0 < nuOf k then numS (nuOf k) b s2 else s2).st = 0; rw [← e3]; exact z3)
  have z1 : s1.st = 0 := ((fine_id (idOf k)).opt (0 < idOf k)).was (b := b) (by show (if 0 < idOf k then idS (idOf k) b s1 else s1).st = 0; rw [← e2]; exact z2)
  have k1 := St.keep_text (wordOf k) b st0
  rw [← e1] at k1
  have g1 : Got b s1 (wordOf k) := by
    have := got_text (w := wordOf k) (b := b) (t := []) (s := st0) ⟨rfl, Nat.zero_le _, rfl⟩ (by rw [← e1]; exact z1)
    rw [← e1] at this
    exact this
  have g2 : Got b s2 (wordOf k ++ if 0 < idOf k then 32 :: decL s2.id else []) ∧ min (idOf k) 1 ≤ s2.id ∧ s2.id ≤ idOf k ∧ s2.num = 0 ∧ s2.tube = [] ∧ s2.body = [] := by
    by_cases hc : 0 < idOf k
    · rw [if_pos hc] at e2
      rw [if_pos hc]
      obtain ⟨a, c, d⟩ := got_id (m := idOf k) g1 (by rw [← e2]; exact z2)
      have kk := St.keep_id (idOf k) b s1
      rw [← e2] at a c d kk
      exact ⟨a, by omega, d, kk.1.trans k1.2.1, kk.2.1.trans k1.2.2.1, kk.2.2.2.trans k1.2.2.2.2⟩
    · rw [if_neg hc] at e2
      rw [if_neg hc, List.append_nil, e2, k1.1]
      exact ⟨g1, by show min (idOf k) 1 ≤ 0; omega, t1, k1.2.1, k1.2.2.1, k1.2.2.2.2⟩
  have g3 : Got b s3 (wordOf k ++ (if 0 < idOf k then 32 :: decL s3.id else []) ++ if 0 < nuOf k then 32 :: decL s3.num else []) ∧ s3.id = s2.id ∧ 0 ≤ s3.num ∧ s3.num ≤ nuOf k ∧ s3.tube = [] ∧ s3.body = [] := by
    by_cases hc : 0 < nuOf k
    · rw [if_pos hc] at e3
      rw [if_pos hc]
      obtain ⟨a, c, d⟩ := got_num (m := nuOf k) g2.1 (by rw [← e3]; exact z3)
      have kk := St.keep_num (nuOf k) b s2
      rw [← e3] at a c d kk
      rw [kk.1]
      exact ⟨a, rfl, c, d, kk.2.1.trans g2.2.2.2.2.1, kk.2.2.2.trans g2.2.2.2.2.2⟩
    · rw [if_neg hc] at e3
      rw [if_neg hc, List.append_nil, e3, g2.2.2.2.1]
      exact ⟨g2.1, rfl, Int.le_refl _, t2, g2.2.2.2.2⟩
  have g4 : Got b s4 (wordOf k ++ (if 0 < idOf k then 32 :: decL s4.id else []) ++ (if 0 < nuOf k then 32 :: decL s4.num else []) ++ if tuOf k = true then 32 :: s4.tube else []) ∧ s4.id = s3.id ∧ s4.num = s3.num ∧ (if tuOf k = true then validB s4.tube else s4.tube.isEmpty) = true ∧ s4.body = [] := by
    by_cases hc : tuOf k = true
    · rw [if_pos hc] at e4
      rw [if_pos hc, if_pos hc]
      obtain ⟨a, c⟩ := got_tube g3.1 (by rw [← e4]; exact z4)
      have kk := St.keep_tube b s3
      rw [← e4] at a c kk
      rw [kk.1, kk.2.1]
      exact ⟨a, rfl, rfl, c, kk.2.2.2.trans g3.2.2.2.2.2⟩
    · rw [if_neg hc] at e4
      rw [if_neg hc, if_neg hc, List.append_nil, e4, g3.2.2.2.2.1]
      exact ⟨g3.1, rfl, rfl, rfl, g3.2.2.2.2.2⟩
  have g5 : Got b s5 (wordOf k ++ (if 0 < idOf k then 32 :: decL s5.id else []) ++ (if 0 < nuOf k then 32 :: decL s5.num else []) ++ (if tuOf k = true then 32 :: s5.tube else []) ++ if 0 < boOf k then 32 :: decL s5.size else []) ∧ s5.id = s4.id ∧ s5.num = s4.num ∧ s5.tube = s4.tube ∧ (0 < boOf k → 0 ≤ s5.size ∧ s5.size ≤ boOf k) ∧ s5.body = [] := by
    by_cases hc : 0 < boOf k
    · rw [if_pos hc] at e5
      rw [if_pos hc]
      obtain ⟨a, c, d⟩ := got_size (m := boOf k) g4.1 (by rw [← e5]; exact z5)
      have kk := St.keep_size (boOf k) b s4
      rw [← e5] at a c d kk
      rw [kk.1, kk.2.1, kk.2.2.1]
      exact ⟨a, rfl, rfl, rfl, fun _ => ⟨c, d⟩, kk.2.2.2.trans g4.2.2.2.2⟩
    · rw [if_neg hc] at e5
      rw [if_neg hc, List.append_nil, e5]
      exact ⟨g4.1, rfl, rfl, rfl, fun h => absurd h hc, g4.2.2.2.2⟩
  have g6 : Got b s6 (wordOf k ++ (if 0 < idOf k then 32 :: decL s6.id else []) ++ (if 0 < nuOf k then 32 :: decL s6.num else []) ++ (if tuOf k = true then 32 :: s6.tube else []) ++ (if 0 < boOf k then 32 :: decL s6.body.length else []) ++ if 0 < boOf k then 13 :: 10 :: s6.body else []) ∧ s6.id = s5.id ∧ s6.num = s5.num ∧ s6.tube = s5.tube ∧ (s6.body.length : Int) ≤ boOf k := by
    by_cases hc : 0 < boOf k
    · unfold bodyS at e6
      rw [if_pos hc] at e6
      rw [if_pos hc] at g5
      rw [if_pos hc, if_pos hc]
      have zt : (textS [13, 10] b s5).st = 0 := fine_take.was (by rw [← e6]; exact z6)
      have a1 := got_text (w := [13, 10]) g5.1 zt
      obtain ⟨a2, a3⟩ := got_take a1 (by rw [← e6]; exact z6)
      have kt := St.keep_text [13, 10] b s5
      have kk := St.keep_take b (textS [13, 10] b s5)
      rw [← e6] at a2 a3 kk
      rw [kk.1.trans kt.1, kk.2.1.trans kt.2.1, kk.2.2.1.trans kt.2.2.1]
      obtain ⟨q1, q2⟩ := g5.2.2.2.2.1 hc
      rw [kt.2.2.2.1] at a3
      have hs : (s6.body.length : Int) = s5.size := by omega
      rw [hs]
      refine ⟨?_, rfl, rfl, rfl, q2⟩
      have : ∀ (x : List UInt8), x ++ [13, 10] ++ s6.body = x ++ 13 :: 10 :: s6.body := fun x => by simp
      rw [this] at a2
      exact a2
    · unfold bodyS at e6
      rw [if_neg hc] at e6
      rw [if_neg hc] at g5
      rw [if_neg hc, if_neg hc, List.append_nil, e6, g5.2.2.2.2.2]
      exact ⟨g5.1, rfl, rfl, rfl, t3⟩
  have g7 := got_text (w := [13, 10]) g6.1 (by rw [← e7]; exact h)
  have k7 := St.keep_text [13, 10] b s6
  rw [← e7] at g7 k7
  constructor
  · rw [g7.2.2]
    unfold putL fieldsL rpOf
    simp only [Int.toNat_natCast]
    rw [k7.1, k7.2.1, k7.2.2.1, k7.2.2.2.2]
    by_cases hc : 0 < boOf k
    · simp [hc]
    · simp [hc]
  · unfold rightB rpOf
    simp only [Int.toNat_natCast]
    rw [k7.1, k7.2.1, k7.2.2.1, k7.2.2.2.2, g6.2.1, g6.2.2.1, g6.2.2.2.1, g5.2.1, g5.2.2.1, g5.2.2.2.1, g4.2.1, g4.2.2.1, g3.2.1]
    simp only [Bool.and_eq_true, decide_eq_true_eq]
    exact ⟨⟨⟨⟨⟨⟨⟨by omega, by omega⟩, g2.2.1⟩, g2.2.2.1⟩, g3.2.2.1⟩, g3.2.2.2.1⟩, g6.2.2.2.2⟩, g4.2.2.2.1⟩

theorem right_facts {r : Rp} (h : rightB r = true) : 1 ≤ r.kind ∧ r.kind ≤ 23 ∧ min (idOf r.kind.toNat) 1 ≤ r.id ∧ r.id ≤ idOf r.kind.toNat ∧ 0 ≤ r.num ∧ r.num ≤ nuOf r.kind.toNat ∧ (r.body.length : Int) ≤ boOf r.kind.toNat ∧ (if tuOf r.kind.toNat = true then validB r.tube else r.tube.isEmpty) = true := by
  unfold rightB at h
  simp only [Bool.and_eq_true, decide_eq_true_eq] at h
  obtain ⟨⟨⟨⟨⟨⟨⟨a, b⟩, c⟩, d⟩, e⟩, f⟩, g⟩, i⟩ := h
  exact ⟨a, b, c, d, e, f, g, i⟩
theorem dec_short {n : Int} (h1 : n ≤ 4611686018427387903) : (decL n).length ≤ 200 := by
  unfold decL
  have := Lib.itoa_length_le (n.toNat : Int) (by omega) (by omega)
  rw [Lib.itoa_nonneg] at this
  exact Nat.le_trans this (by decide)
theorem num_is {l m : Int} (hl : l ≤ 1) {b : List UInt8} {p : Nat} {n : Int} {c : UInt8} {r : List UInt8} (h : b.drop p = 32 :: (decL n ++ c :: r)) (h0 : 0 ≤ n) (h1 : l ≤ n) (h2 : n ≤ m) (hm : m ≤ 4611686018427387903) (hc : c = 32 ∨ c = 13) :
    wordP b (numFits l m) p = (decL n, p + 1 + (decL n).length, 0) ∧ parseV (decL n) m = n := by
  have hf : numFits l m (decL n) = true := fits_dec.2 ⟨n.toNat, rfl, by omega, by omega⟩
  refine ⟨word_is (num_closed hl) b p (decL n) c r h (dec_ne _) hf (dec_short (by omega)) (num_ends _ c (by rcases hc with rfl | rfl <;> decide)), ?_⟩
  have := dec_value (m := m) (u := n.toNat) (by omega)
  rw [show (n.toNat : Int) = n by omega] at this
  exact this
theorem drop_on {b w r : List UInt8} {p : Nat} (h : b.drop p = w ++ r) : b.drop (p + w.length) = r := by
  rw [← List.drop_drop, h, List.drop_left]
theorem heads {c : Prop} [Decidable c] {w T : List UInt8} (h : ∃ x r, T = x :: r ∧ (x = 32 ∨ x = 13)) : ∃ x r, (if c then 32 :: w else []) ++ T = x :: r ∧ (x = 32 ∨ x = 13) := by
  by_cases hc : c
  · rw [if_pos hc]; exact ⟨32, w ++ T, rfl, .inl rfl⟩
  · rw [if_neg hc]; exact h
/-- What is written is read. -/
theorem kind_read {r : Rp} (h : rightB r = true) (x : List UInt8) : ∃ z, kindS r.kind.toNat (putL r ++ x) = ⟨(putL r).length, 0, r.id, r.num, r.tube, z, r.body⟩ := by
  obtain ⟨h1, h2, h3, h4, h5, h6, h7, h8⟩ := right_facts h
  obtain ⟨k, hk⟩ : ∃ k, k = r.kind.toNat := ⟨_, rfl⟩
  rw [← hk] at h3 h4 h6 h7 h8 ⊢
  obtain ⟨t1, t2, t3, t4, t5, t6⟩ := table k (by omega)
  obtain ⟨B, hB⟩ : ∃ B, B = putL r ++ x := ⟨_, rfl⟩
  obtain ⟨T5, hT5⟩ : ∃ T, T = [13, 10] ++ ((if 0 < boOf k then r.body ++ [13, 10] else []) ++ x) := ⟨_, rfl⟩
  obtain ⟨T4, hT4⟩ : ∃ T, T = (if 0 < boOf k then 32 :: decL r.body.length else []) ++ T5 := ⟨_, rfl⟩
  obtain ⟨T3, hT3⟩ : ∃ T, T = (if tuOf k = true then 32 :: r.tube else []) ++ T4 := ⟨_, rfl⟩
  obtain ⟨T2, hT2⟩ : ∃ T, T = (if 0 < nuOf k then 32 :: decL r.num else []) ++ T3 := ⟨_, rfl⟩
  obtain ⟨T1, hT1⟩ : ∃ T, T = (if 0 < idOf k then 32 :: decL r.id else []) ++ T2 := ⟨_, rfl⟩
  have b0 : B.drop 0 = wordOf k ++ T1 := by
    rw [List.drop_zero, hB, hT1, hT2, hT3, hT4, hT5]
    unfold putL fieldsL
    rw [← hk]
    simp
  rw [← hB]
  have n5 : ∃ y s, T5 = y :: s ∧ (y = 32 ∨ y = 13) := ⟨13, _, hT5, .inr rfl⟩
  have n4 : ∃ y s, T4 = y :: s ∧ (y = 32 ∨ y = 13) := by rw [hT4]; exact heads n5
  have n3 : ∃ y s, T3 = y :: s ∧ (y = 32 ∨ y = 13) := by rw [hT3]; exact heads n4
  have n2 : ∃ y s, T2 = y :: s ∧ (y = 32 ∨ y = 13) := by rw [hT2]; exact heads n3
  -- the word
  obtain ⟨p1, hp1⟩ : ∃ p, p = (wordOf k).length := ⟨_, rfl⟩
  have s1 : textS (wordOf k) B st0 = ⟨p1, 0, 0, 0, [], 0, []⟩ := by
    show (⟨(textP B (wordOf k) 0).1, (textP B (wordOf k) 0).2, 0, 0, [], 0, []⟩ : St) = _
    rw [text_is B (wordOf k) T1 0 b0, hp1]
    simp
  have b1 : B.drop p1 = T1 := by
    have := drop_on b0
    rw [Nat.zero_add] at this
    rw [hp1]; exact this
  -- the id
  obtain ⟨p2, s2, b2⟩ : ∃ p2, (if 0 < idOf k then idS (idOf k) B ⟨p1, 0, 0, 0, [], 0, []⟩ else ⟨p1, 0, 0, 0, [], 0, []⟩) = (⟨p2, 0, r.id, 0, [], 0, []⟩ : St) ∧ B.drop p2 = T2 := by
    by_cases hc : 0 < idOf k
    · rw [if_pos hc] at hT1 ⊢
      obtain ⟨y, s, e, hy⟩ := n2
      obtain ⟨a, c⟩ := num_is (l := 1) (m := idOf k) (by decide) (b := B) (p := p1) (n := r.id) (c := y) (r := s) (by rw [b1, hT1, e]; rfl) (by omega) (by omega) h4 t4 hy
      refine ⟨p1 + 1 + (decL r.id).length, ?_, ?_⟩
      · unfold idS
        rw [if_pos rfl, a, c]
      · rw [hT1] at b1
        have := drop_on b1
        rw [List.length_cons, Nat.add_comm _ 1, ← Nat.add_assoc] at this
        exact this
    · rw [if_neg hc] at hT1 ⊢
      refine ⟨p1, ?_, by rw [b1, hT1]; rfl⟩
      rw [show r.id = 0 by omega]
  obtain ⟨p3, s3, b3⟩ : ∃ p3, (if 0 < nuOf k then numS (nuOf k) B ⟨p2, 0, r.id, 0, [], 0, []⟩ else ⟨p2, 0, r.id, 0, [], 0, []⟩) = (⟨p3, 0, r.id, r.num, [], 0, []⟩ : St) ∧ B.drop p3 = T3 := by
    by_cases hc : 0 < nuOf k
    · rw [if_pos hc] at hT2 ⊢
      obtain ⟨y, s, e, hy⟩ := n3
      obtain ⟨a, c⟩ := num_is (l := 0) (m := nuOf k) (by decide) (b := B) (p := p2) (n := r.num) (c := y) (r := s) (by rw [b2, hT2, e]; rfl) h5 h5 h6 (by omega) hy
      refine ⟨p2 + 1 + (decL r.num).length, ?_, ?_⟩
      · unfold numS
        rw [if_pos rfl, a, c]
      · rw [hT2] at b2
        have := drop_on b2
        rw [List.length_cons, Nat.add_comm _ 1, ← Nat.add_assoc] at this
        exact this
    · rw [if_neg hc] at hT2 ⊢
      refine ⟨p2, ?_, by rw [b2, hT2]; rfl⟩
      rw [show r.num = 0 by omega]
  obtain ⟨p4, s4, b4⟩ : ∃ p4, (if tuOf k = true then tubeS B ⟨p3, 0, r.id, r.num, [], 0, []⟩ else ⟨p3, 0, r.id, r.num, [], 0, []⟩) = (⟨p4, 0, r.id, r.num, r.tube, 0, []⟩ : St) ∧ B.drop p4 = T4 := by
    by_cases hc : tuOf k = true
    · rw [if_pos hc] at hT3 h8 ⊢
      obtain ⟨y, s, e, hy⟩ := n4
      have hv : 1 ≤ r.tube.length ∧ r.tube.length ≤ 200 := by
        unfold validB at h8
        simp only [Bool.and_eq_true, decide_eq_true_eq] at h8
        exact h8.1.1
      have a := word_is valid_closed B p3 r.tube y s (by rw [b3, hT3, e]; rfl) (fun e => by rw [e] at hv; simp at hv) h8 hv.2 (valid_ends _ y (by rcases hy with rfl | rfl <;> decide))
      refine ⟨p3 + 1 + r.tube.length, ?_, ?_⟩
      · unfold tubeS
        rw [if_pos rfl, a]
      · rw [hT3] at b3
        have := drop_on b3
        rw [List.length_cons, Nat.add_comm _ 1, ← Nat.add_assoc] at this
        exact this
    · rw [if_neg hc] at hT3 h8 ⊢
      refine ⟨p3, ?_, by rw [b3, hT3]; rfl⟩
      rw [List.isEmpty_iff.1 h8]
  obtain ⟨p5, z, s5, b5, hz⟩ : ∃ p5 z, (if 0 < boOf k then sizeS (boOf k) B ⟨p4, 0, r.id, r.num, r.tube, 0, []⟩ else ⟨p4, 0, r.id, r.num, r.tube, 0, []⟩) = (⟨p5, 0, r.id, r.num, r.tube, z, []⟩ : St) ∧ B.drop p5 = T5 ∧ (0 < boOf k → z = r.body.length) := by
    by_cases hc : 0 < boOf k
    · rw [if_pos hc] at hT4 ⊢
      obtain ⟨y, s, e, hy⟩ := n5
      obtain ⟨a, c⟩ := num_is (l := 0) (m := boOf k) (by decide) (b := B) (p := p4) (n := r.body.length) (c := y) (r := s) (by rw [b4, hT4, e]; rfl) (by omega) (by omega) h7 (by omega) hy
      refine ⟨p4 + 1 + (decL r.body.length).length, r.body.length, ?_, ?_, fun _ => rfl⟩
      · unfold sizeS
        rw [if_pos rfl, a, c]
      · rw [hT4] at b4
        have := drop_on b4
        rw [List.length_cons, Nat.add_comm _ 1, ← Nat.add_assoc] at this
        exact this
    · rw [if_neg hc] at hT4 ⊢
      exact ⟨p4, 0, rfl, by rw [b4, hT4]; rfl, fun h => absurd h hc⟩
  have hline : lineS k B st0 = ⟨p5, 0, r.id, r.num, r.tube, z, []⟩ := by
    unfold lineS
    simp only
    rw [s1, s2, s3, s4, s5]
  obtain ⟨p6, s6, b6⟩ : ∃ p6, bodyS k B ⟨p5, 0, r.id, r.num, r.tube, z, []⟩ = ⟨p6, 0, r.id, r.num, r.tube, z, r.body⟩ ∧ B.drop p6 = [13, 10] ++ x := by
    unfold bodyS
    by_cases hc : 0 < boOf k
    · rw [if_pos hc]
      rw [if_pos hc] at hT5
      have hz := hz hc
      have st : textS [13, 10] B ⟨p5, 0, r.id, r.num, r.tube, z, []⟩ = ⟨p5 + 2, 0, r.id, r.num, r.tube, z, []⟩ := by
        unfold textS
        rw [if_pos rfl, text_is B [13, 10] _ p5 (by rw [b5, hT5])]
        rfl
      have bt : B.drop (p5 + 2) = r.body ++ ([13, 10] ++ x) := by
        rw [hT5] at b5
        have := drop_on b5
        rw [show p5 + 2 = p5 + ([13, 10] : List UInt8).length from rfl, this]
        simp
      have hlen : p5 + 2 + r.body.length ≤ B.length := by
        have e := congrArg List.length bt
        simp only [List.length_append, List.length_cons, List.length_drop, List.length_nil] at e
        omega
      refine ⟨p5 + 2 + r.body.length, ?_, ?_⟩
      · rw [st]
        unfold takeS
        rw [if_pos rfl]
        dsimp only
        rw [hz, Int.toNat_natCast, if_neg (by omega), bt, List.take_left]
      · exact drop_on bt
    · rw [if_neg hc]
      rw [if_neg hc] at hT5
      refine ⟨p5, ?_, by rw [b5, hT5]; simp⟩
      have : r.body = [] := List.length_eq_zero_iff.1 (by omega)
      rw [this]
  have s7 : kindS k B = ⟨p6 + 2, 0, r.id, r.num, r.tube, z, r.body⟩ := by
    unfold kindS
    rw [hline, s6]
    unfold textS
    rw [if_pos rfl, text_is B [13, 10] x p6 b6]
    rfl
  refine ⟨z, ?_⟩
  rw [s7]
  congr 1
  have e := drop_on b6
  have hl := congrArg List.length e
  rw [hB] at hl
  simp only [List.length_append, List.length_cons, List.length_drop, List.length_nil] at hl
  have e2 := congrArg List.length b6
  rw [hB] at e2
  simp only [List.length_append, List.length_cons, List.length_drop, List.length_nil] at e2
  omega
theorem put_read {r : Rp} (h : rightB r = true) (x : List UInt8) : readP (putL r ++ x) = (r, (putL r).length, 0) := by
  obtain ⟨z, hz⟩ := kind_read h x
  obtain ⟨h1, h2, _⟩ := right_facts h
  have h0 : (kindS r.kind.toNat (putL r ++ x)).st = 0 := by rw [hz]
  have := from_first (putL r ++ x) 23 1 0 r.kind.toNat (by omega) (by omega) (fun i hi hi2 => (kind_other i r.kind.toNat _ (by omega) (by omega) (by omega) h0).1) (by rw [h0]; decide)
  show readFrom (putL r ++ x) 23 1 0 = _
  rw [this, hz]
  unfold rpOf
  rw [show ((r.kind.toNat : Nat) : Int) = r.kind by omega]
theorem read_put {b : List UInt8} (h : (readP b).2.2 = 0) : b.take (readP b).2.1 = putL (readP b).1 ∧ rightB (readP b).1 = true := by
  rcases read_pick b with ⟨j, h1, h2, _, _, e⟩ | ⟨_, h2, _⟩
  · rw [e] at h ⊢
    exact kind_put j ⟨h1, h2⟩ b h
  · omega
end Go.Proofs.YtienggblpmkjjaaDoor

namespace Go.Proofs.YtienggblpmkjjaaDoor
open Go.RowKit

theorem pparse_pos (most : Int) : ∀ (l : List UInt8) (n : Int), 0 ≤ n → ∀ v, parseFrom most l n = some v → 0 ≤ v
  | [], n, hn, v, h => by rw [parseFrom] at h; cases h; exact hn
  | c :: r, n, hn, v, h => by
    rw [parseFrom] at h
    split at h
    · rename_i hc
      split at h
      · cases h
      · exact pparse_pos most r _ (by omega) v h
    · cases h
theorem pparse_le (most : Int) : ∀ (l : List UInt8) (n : Int), n ≤ most → ∀ v, parseFrom most l n = some v → v ≤ most
  | [], n, hn, v, h => by rw [parseFrom] at h; cases h; exact hn
  | c :: r, n, hn, v, h => by
    rw [parseFrom] at h
    split at h
    · rename_i hc
      split at h
      · cases h
      · exact pparse_le most r _ (by omega) v h
    · cases h
theorem pV_pos (l : List UInt8) (most : Int) : 0 ≤ parseV l most := by
  unfold parseV
  split
  · exact Int.le_refl _
  · cases h : parseFrom most l 0 with
    | none => exact Int.le_refl _
    | some v => exact pparse_pos most l 0 (Int.le_refl _) v h
theorem pV_le (l : List UInt8) (most : Int) (hm : 0 ≤ most) : parseV l most ≤ most := by
  unfold parseV
  split
  · exact hm
  · cases h : parseFrom most l 0 with
    | none => exact hm
    | some v => exact pparse_le most l 0 hm v h

theorem size_bound (k : Nat) (hk : k < 24) (b : List UInt8) : 0 ≤ (lineS k b st0).size ∧ (lineS k b st0).size ≤ 4294967295 := by
  have ht : boOf k ≤ 4294967295 := by
    have : ∀ k, k < 24 → boOf k ≤ 4294967295 := by decide
    exact this k hk
  obtain ⟨s4, e4⟩ : ∃ s, s = (fun s => if tuOf k then tubeS b s else s) ((fun s => if 0 < nuOf k then numS (nuOf k) b s else s) ((fun s => if 0 < idOf k then idS (idOf k) b s else s) (textS (wordOf k) b st0))) := ⟨_, rfl⟩
  have z4 : s4.size = 0 := by
    have a1 : (textS (wordOf k) b st0).size = 0 := by unfold textS; split <;> rfl
    have a2 : ∀ s : St, s.size = 0 → (if 0 < idOf k then idS (idOf k) b s else s).size = 0 := fun s h => by
      split
      · unfold idS; split <;> exact h
      · exact h
    have a3 : ∀ s : St, s.size = 0 → (if 0 < nuOf k then numS (nuOf k) b s else s).size = 0 := fun s h => by
      split
      · unfold numS; split <;> exact h
      · exact h
    have a4 : ∀ s : St, s.size = 0 → (if tuOf k then tubeS b s else s).size = 0 := fun s h => by
      split
      · unfold tubeS; split <;> exact h
      · exact h
    rw [e4]
    exact a4 _ (a3 _ (a2 _ a1))
  have e5 : lineS k b st0 = if 0 < boOf k then sizeS (boOf k) b s4 else s4 := by rw [e4]; rfl
  rw [e5]
  by_cases hc : 0 < boOf k
  · rw [if_pos hc]
    unfold sizeS
    by_cases hz : s4.st = 0
    · rw [if_pos hz]
      have h1 := pV_pos (wordP b (numFits 0 (boOf k)) s4.pos).1 (boOf k)
      have h2 := pV_le (wordP b (numFits 0 (boOf k)) s4.pos).1 (boOf k) (by omega)
      exact ⟨h1, Int.le_trans h2 ht⟩
    · rw [if_neg hz, z4]; omega
  · rw [if_neg hc, z4]; omega
theorem kind_bound (k : Nat) (hk : k < 24) (b : List UInt8) : (kindS k b).pos ≤ b.length + 4294967295 := by
  have h3 := kind_three k b
  by_cases h0 : (kindS k b).st = 0
  · have := kind_good k b h0; omega
  by_cases h2 : (kindS k b).st = 2
  · have := kind_wrong k b h2; omega
  have h : (kindS k b).st = 1 := by omega
  have same : (kindS k b).pos = b.length → (kindS k b).pos ≤ b.length + 4294967295 := fun e => by omega
  by_cases hc : 0 < boOf k
  · obtain ⟨s5, e5⟩ : ∃ s, s = textS [13, 10] b (lineS k b st0) := ⟨_, rfl⟩
    have hk5 : kindS k b = textS [13, 10] b (takeS b s5) := by unfold kindS bodyS; rw [if_pos hc, ← e5]
    have F5 := (fine_line k).comp (fine_text [13, 10])
    by_cases hz : s5.st = 0
    · have p5 : s5.pos ≤ b.length := by rw [e5] at hz ⊢; exact F5.good b st0 rfl (Nat.zero_le _) hz
      by_cases hl : b.length < s5.pos + s5.size.toNat
      · have et : takeS b s5 = { s5 with pos := s5.pos + s5.size.toNat, st := 1 } := by unfold takeS; rw [if_pos hz, if_pos hl]
        have ek : kindS k b = { s5 with pos := s5.pos + s5.size.toNat, st := 1 } := by rw [hk5, et, (fine_text _).stuck _ _ (by show (1 : Nat) ≠ 0; decide)]
        rw [ek]
        have hs := size_bound k hk b
        have : s5.size = (lineS k b st0).size := by rw [e5]; unfold textS; split <;> rfl
        show s5.pos + s5.size.toNat ≤ _
        omega
      · refine same ?_
        have et : takeS b s5 = { s5 with pos := s5.pos + s5.size.toNat, body := (b.drop s5.pos).take s5.size.toNat } := by unfold takeS; rw [if_pos hz, if_neg hl]
        rw [hk5, et] at h ⊢
        exact tight_text [13, 10] b _ hz (by show s5.pos + s5.size.toNat ≤ _; omega) h
    · refine same ?_
      have et : takeS b s5 = s5 := fine_take.stuck b s5 hz
      rw [hk5, et, (fine_text _).stuck _ _ hz] at h ⊢
      have T5 := (tight_line k).comp (fine_line k) (tight_text [13, 10]) (fine_text [13, 10])
      rw [e5] at h ⊢
      exact T5 b st0 rfl (Nat.zero_le _) h
  · refine same ?_
    have hk5 : kindS k b = textS [13, 10] b (lineS k b st0) := by unfold kindS bodyS; rw [if_neg hc]
    have T5 := (tight_line k).comp (fine_line k) (tight_text [13, 10]) (fine_text [13, 10])
    rw [hk5] at h ⊢
    exact T5 b st0 rfl (Nat.zero_le _) h
theorem read_bound (b : List UInt8) : (readP b).2.1 ≤ b.length + 4294967295 := by
  rcases read_pick b with ⟨j, h1, h2, _, _, e⟩ | ⟨_, _, h3, _⟩
  · rw [e]; exact kind_bound j (by omega) b
  · omega

end Go.Proofs.YtienggblpmkjjaaDoor
