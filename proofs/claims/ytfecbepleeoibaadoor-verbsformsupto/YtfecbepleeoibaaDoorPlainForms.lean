/-
  Plain facts: a line that is read is written as it was, but for zeros ahead.
-/
import Derived.Test.YtfecbepleeoibaaDoorCutV
import Derived.Test.YtfecbepleeoibaaDoorEight
namespace Go.Proofs.YtfecbepleeoibaaDoor
open Go.RowKit

theorem strip_snoc : ∀ (y : List UInt8) (d : UInt8), y ≠ [] → strip (y ++ [d]) = if strip y = [48] then [d] else strip y ++ [d]
  | [], _, h => absurd rfl h
  | [c], d, _ => by
    show strip [c, d] = _
    rw [strip, strip, strip]
    by_cases h : c = 48 <;> simp [h]
  | c :: e :: r, d, _ => by
    have ih := strip_snoc (e :: r) d (by simp)
    rw [List.cons_append, List.cons_append, strip, strip]
    rw [List.cons_append] at ih
    by_cases h : c = 48
    · rw [if_pos h, if_pos h, ih]
    · rw [if_neg h, if_neg h, if_neg (by simp)]
      simp
def valN (x : List UInt8) : Nat := x.foldl (fun n c => n * 10 + (c.toNat - 48)) 0
theorem digit_of {c : UInt8} (h : digitB c = true) : UInt8.ofNat (48 + (c.toNat - 48)) = c ∧ c.toNat - 48 < 10 := by
  simp [digitB] at h
  refine ⟨?_, by omega⟩
  rw [show 48 + (c.toNat - 48) = c.toNat by omega]
  simp
theorem dec_zero {u : Nat} (h : Lib.decDigits u = [48]) : u = 0 := by
  by_cases h10 : u < 10
  · rw [dec_small h10] at h
    have := congrArg (fun l => (l.headD 0).toNat) h
    simp only [List.headD_cons, UInt8.toNat_ofNat'] at this
    have h48 : (48 : UInt8).toNat = 48 := rfl
    omega
  · rw [dec_big h10] at h
    have := congrArg List.length h
    have h2 := dec_ne (u / 10)
    cases hd : Lib.decDigits (u / 10) with
    | nil => exact absurd hd h2
    | cons a r => rw [hd] at this; simp at this
theorem strip_val : ∀ (n : Nat) (x : List UInt8), x.length = n + 1 → x.all digitB = true → strip x = Lib.decDigits (valN x)
  | 0, x, hx, hd => by
    match x, hx with
    | [c], _ =>
      have hc := digit_of (c := c) (by simpa using hd)
      rw [strip, show valN [c] = c.toNat - 48 by simp [valN], dec_small hc.2, hc.1]
  | n + 1, x, hx, hd => by
    obtain ⟨y, d, rfl⟩ : ∃ y d, x = y ++ [d] := by
      have hne : x ≠ [] := by intro e; rw [e] at hx; cases hx
      exact ⟨x.dropLast, x.getLast hne, (List.dropLast_concat_getLast hne).symm⟩
    have hy : y.length = n + 1 := by simpa using hx
    have hyne : y ≠ [] := by intro e; rw [e] at hy; cases hy
    rw [List.all_append, Bool.and_eq_true] at hd
    have ih := strip_val n y hy hd.1
    have hc := digit_of (c := d) (by simpa using hd.2)
    have hv : valN (y ++ [d]) = valN y * 10 + (d.toNat - 48) := by simp [valN, List.foldl_append]
    rw [strip_snoc y d hyne, hv]
    by_cases h0 : strip y = [48]
    · rw [if_pos h0]
      have hz := dec_zero (ih.symm.trans h0)
      rw [hz, Nat.zero_mul, Nat.zero_add, dec_small hc.2, hc.1]
    · rw [if_neg h0, ih]
      have hnz : valN y ≠ 0 := by
        intro hz
        rw [hz, dec_small (by decide)] at ih
        exact h0 (ih.trans rfl)
      rw [dec_big (u := valN y * 10 + (d.toNat - 48)) (by omega), show (valN y * 10 + (d.toNat - 48)) / 10 = valN y by omega, show (valN y * 10 + (d.toNat - 48)) % 10 = d.toNat - 48 by omega, hc.1]
theorem from_val (most : Int) : ∀ (x : List UInt8) (n : Nat) (m : Int), parseFrom most x (n : Int) = some m → x.all digitB = true ∧ m = ((x.foldl (fun n c => n * 10 + (c.toNat - 48)) n : Nat) : Int) ∧ (x ≠ [] → m ≤ most)
  | [], n, m, h => by
    rw [parseFrom] at h
    exact ⟨rfl, (Option.some.inj h).symm, fun h => absurd rfl h⟩
  | c :: r, n, m, h => by
    rw [parseFrom] at h
    split at h
    · rename_i hc
      split at h
      · cases h
      · rename_i hm
        have e : (n : Int) * 10 + ((c.toNat : Int) - 48) = ((n * 10 + (c.toNat - 48) : Nat) : Int) := by omega
        rw [e] at h
        obtain ⟨h1, h2, h3⟩ := from_val most r (n * 10 + (c.toNat - 48)) m h
        refine ⟨?_, h2, fun _ => ?_⟩
        · rw [List.all_cons, h1, Bool.and_true]
          simp [digitB]
          omega
        · by_cases hr : r = []
          · subst hr
            rw [parseFrom] at h
            have := Option.some.inj h
            omega
          · exact h3 hr
    · cases h
theorem parse_facts {x : List UInt8} {most : Int} (h : parseB x most = true) : x ≠ [] ∧ x.all digitB = true ∧ parseV x most = (valN x : Int) ∧ parseV x most ≤ most := by
  unfold parseB at h
  rw [Bool.and_eq_true] at h
  have hne : x ≠ [] := by intro e; rw [e] at h; simp at h
  have he : x.isEmpty = false := by cases x with | nil => exact absurd rfl hne | cons => rfl
  cases hp : parseFrom most x 0 with
  | none => rw [hp] at h; simp at h
  | some m =>
    obtain ⟨h1, h2, h3⟩ := from_val most x 0 m hp
    have hv : parseV x most = m := by unfold parseV; rw [he, hp]; rfl
    rw [hv]
    exact ⟨hne, h1, h2, h3 hne⟩
theorem print_parsed {x : List UInt8} {most : Int} (h : parseB x most = true) : printL (parseV x most) = trimL x := by
  obtain ⟨h1, h2, h3, _⟩ := parse_facts h
  rw [h3, print_dec (by omega), trimL, if_pos h2]
  have : ((valN x : Nat) : Int).toNat = valN x := by simp
  rw [this]
  cases hl : x.length with
  | zero => exact absurd (List.length_eq_zero_iff.1 hl) h1
  | succ n => exact (strip_val n x hl h2).symm

/-- What was read into fields. -/
theorem fill_spec : ∀ (fs : List Nat) (xs : List (List UInt8)) (v : Nat → Int) (t : List UInt8) (v' : Nat → Int) (t' : List UInt8), fs.Nodup → fill fs xs v t = some (v', t') →
    (∀ i, i ∉ fs → v' i = v i) ∧ (6 ∉ fs → t' = t) ∧ ∀ (j f : Nat), fs[j]? = some f → ∃ x, xs[j]? = some x ∧ (f = 6 → validB x = true ∧ t' = x) ∧ (f ≠ 6 → parseB x (great f) = true ∧ v' f = parseV x (great f))
  | [], xs, v, t, v', t', _, h => by
    rw [fill] at h
    obtain ⟨rfl, rfl⟩ := Prod.mk.inj (Option.some.inj h)
    exact ⟨fun _ _ => rfl, fun _ => rfl, fun j f hj => by cases hj⟩
  | f0 :: fs, [], v, t, v', t', _, h => by rw [fill] at h; cases h
  | f0 :: fs, x0 :: xs, v, t, v', t', hn, h => by
    have hn' := List.nodup_cons.1 hn
    rw [fill] at h
    by_cases h6 : f0 = 6
    · subst h6
      rw [if_pos rfl] at h
      by_cases hv : validB x0 = true
      · rw [if_pos hv] at h
        obtain ⟨a1, a2, a3⟩ := fill_spec fs xs v x0 v' t' hn'.2 h
        refine ⟨fun i hi => a1 i (fun hm => hi (by simp [hm])), fun hi => absurd (by simp) hi, fun j f hj => ?_⟩
        cases j with
        | zero =>
          obtain rfl : (6 : Nat) = f := by simpa using hj
          exact ⟨x0, rfl, fun _ => ⟨hv, a2 hn'.1⟩, fun h => absurd rfl h⟩
        | succ j => exact a3 j f hj
      · rw [if_neg hv] at h; cases h
    · rw [if_neg h6] at h
      by_cases hp : parseB x0 (great f0) = true
      · rw [if_pos hp] at h
        obtain ⟨a1, a2, a3⟩ := fill_spec fs xs _ t v' t' hn'.2 h
        refine ⟨fun i hi => ?_, fun hi => a2 (fun hm => hi (by simp [hm])), fun j f hj => ?_⟩
        · rw [a1 i (fun hm => hi (by simp [hm]))]
          unfold upd
          rw [if_neg (fun e => hi (by simp [e]))]
        · cases j with
          | zero =>
            obtain rfl : f0 = f := by simpa using hj
            refine ⟨x0, rfl, fun h => absurd h h6, fun _ => ⟨hp, ?_⟩⟩
            rw [a1 f0 hn'.1]
            unfold upd
            rw [if_pos rfl]
          | succ j => exact a3 j f hj
      · rw [if_neg hp] at h; cases h

/-- A word that was read, and the one that is written: alike, but for zeros ahead, and a time to run of 0. -/
def alike (k i : Nat) (a b : List UInt8) : Prop := a = b ∨ trimL a = b ∨ (k = 1 ∧ i = 3 ∧ trimL a = [48] ∧ b = [49])
theorem put_four : ∀ k, k < 26 → ∀ j, j < 4 → (formOf k)[j]? = some 4 → k = 1 ∧ j = 2 := by decide
theorem first_piece (l : List UInt8) (ws : List (List UInt8)) (h : splitL l = some ws) : ws[0]? = some (firstL l) := by
  obtain ⟨h1, h2⟩ := join_split l ws h
  obtain ⟨h3, h4⟩ := (joinB_iff ws).1 h1
  cases ws with
  | nil => exact absurd rfl h3
  | cons a r =>
    rw [← h2, Lib.join_cons, first_word a _ (word_no32 a (h4 a (by simp)))]
    · rfl
    · cases r with
      | nil => exact .inl rfl
      | cons b r => exact .inr ⟨_, rfl⟩
theorem read_facts {l : List UInt8} {k : Nat} (hk : kindL (firstL l) = k) (hk0 : k ≠ 0) {v : Nat → Int} {t : List UInt8} (h : readL k l = some (v, t)) :
    lineB (mkC k v t) = true ∧ ∃ ws, splitL l = some ws ∧ ws.length = (wordsOf (mkC k v t)).length ∧ ∀ (i : Nat) a b, ws[i]? = some a → (wordsOf (mkC k v t))[i]? = some b → alike k i a b := by
  have hk26 : k < 26 := by have := kindL_le (firstL l); omega
  have hkk : (mkC k v t).kind.toNat = k := by show ((k : Nat) : Int).toNat = k; simp
  unfold readL at h
  cases hs : splitL l with
  | none => rw [hs] at h; cases h
  | some ws =>
    rw [hs] at h
    simp only [] at h
    split at h
    · rename_i hlen
      obtain ⟨a1, a2, a3⟩ := fill_spec (formOf k) (ws.drop 1) zeros [] v t (form_nodup k hk26) h
      have hmem : ∀ f, f ∈ formOf k → f ≠ 6 → 0 ≤ v f ∧ v f ≤ great f := by
        intro f hf h6
        obtain ⟨j, hj, e⟩ := List.getElem_of_mem hf
        obtain ⟨x, _, _, hx⟩ := a3 j f (by rw [List.getElem?_eq_getElem hj, e])
        obtain ⟨hp, hv⟩ := hx h6
        rw [hv]
        exact ⟨parseV_nonneg _ _, (parse_facts hp).2.2.2⟩
      have hnum : ∀ f, f < 6 → 0 ≤ v f ∧ v f ≤ mostIn (formOf k) f := by
        intro f hf
        unfold mostIn
        by_cases hm : f ∈ formOf k
        · rw [if_pos (by simpa using hm)]
          exact hmem f hm (by omega)
        · rw [if_neg (by simpa using hm), a1 f hm]
          exact ⟨Int.le_refl _, Int.le_refl _⟩
      have hline : lineB (mkC k v t) = true := by
        have hok : okTo (mkC k v t) 6 = true := by
          unfold okTo
          rw [List.all_eq_true]
          intro f hf
          have hf6 : f < 6 := by simpa using hf
          rw [hkk]
          have hn : 0 ≤ numOf (mkC k v t) f ∧ numOf (mkC k v t) f ≤ mostIn (formOf k) f := by
            match f, hf6 with
            | 0, _ => exact ⟨Int.le_refl _, by show (0 : Int) ≤ mostIn (formOf k) 0; unfold mostIn great; split <;> decide⟩
            | 1, _ => exact hnum 1 (by decide)
            | 2, _ => exact hnum 2 (by decide)
            | 3, _ => exact hnum 3 (by decide)
            | 5, _ => exact hnum 5 (by decide)
            | 4, _ =>
              have h4 := hnum 4 (by decide)
              show 0 ≤ (if k = 1 then max (v 4) 1 else v 4) ∧ (if k = 1 then max (v 4) 1 else v 4) ≤ mostIn (formOf k) 4
              by_cases h1 : k = 1
              · rw [if_pos h1]
                subst h1
                have : mostIn (formOf 1) 4 = 4294967295 := by decide
                omega
              · rw [if_neg h1]
                exact h4
          simp [hn.1, hn.2]
        rw [line_end (mkC k v t) ⟨by show (1 : Int) ≤ (k : Int); omega, by show ((k : Nat) : Int) ≤ 25; omega⟩ (fun hz => by
          obtain ⟨z1, z2⟩ := hz
          have e1 : k = 1 := by have : ((k : Nat) : Int) = 1 := z1; omega
          have e2 : (if k = 1 then max (v 4) 1 else v 4) = 0 := z2
          rw [if_pos e1] at e2
          omega) hok, hkk]
        by_cases hm : 6 ∈ formOf k
        · rw [if_pos (by simpa using hm)]
          obtain ⟨j, hj, e⟩ := List.getElem_of_mem hm
          obtain ⟨x, _, hx, _⟩ := a3 j 6 (by rw [List.getElem?_eq_getElem hj, e])
          obtain ⟨h1, h2⟩ := hx rfl
          show validB t = true
          rw [h2]
          exact h1
        · rw [if_neg (by simpa using hm)]
          show t.isEmpty = true
          rw [a2 hm]
          rfl
      refine ⟨hline, ws, rfl, ?_, ?_⟩
      · rw [hlen]
        unfold wordsOf
        rw [hkk]
        simp
      · intro i a b ha hb
        unfold wordsOf at hb
        rw [hkk] at hb
        cases i with
        | zero =>
          rw [first_piece l ws hs] at ha
          left
          have hv := kindL_verb (firstL l) (by rw [hk]; exact hk0)
          rw [hk] at hv
          have e1 := Option.some.inj ha
          have e2 : verbOf k = b := by simpa using hb
          rw [← e1, ← e2, hv]
        | succ j =>
          rw [List.getElem?_cons_succ, List.getElem?_map] at hb
          cases hf : (formOf k)[j]? with
          | none => rw [hf] at hb; cases hb
          | some f =>
            rw [hf] at hb
            have hb : wordOf (mkC k v t) f = b := by simpa using hb
            obtain ⟨x, hx, hx6, hxn⟩ := a3 j f hf
            rw [List.getElem?_drop, Nat.add_comm] at hx
            obtain rfl : x = a := Option.some.inj (hx.symm.trans ha)
            have hfr := form_field k hk26 f (List.mem_of_getElem? hf)
            by_cases h6 : f = 6
            · subst h6
              obtain ⟨_, h2⟩ := hx6 rfl
              left
              rw [← hb, wordOf, if_pos rfl, ← h2]
              rfl
            · obtain ⟨hp, hv⟩ := hxn h6
              have hw : wordOf (mkC k v t) f = printL (numOf (mkC k v t) f) := by rw [wordOf, if_neg h6]
              by_cases hsame : numOf (mkC k v t) f = v f
              · right; left
                rw [← hb, hw, hsame, hv]
                exact (print_parsed hp).symm
              · have h4 : f = 4 := by
                  match f, hfr, h6, hsame with
                  | 1, _, _, h => exact absurd rfl h
                  | 2, _, _, h => exact absurd rfl h
                  | 3, _, _, h => exact absurd rfl h
                  | 4, _, _, _ => rfl
                  | 5, _, _, h => exact absurd rfl h
                  | 6, _, h, _ => exact absurd rfl h
                  | 0, h, _, _ => omega
                  | n + 7, h, _, _ => omega
                subst h4
                obtain ⟨e1, e2⟩ := put_four k hk26 j (by have := form_len k hk26; have := (List.getElem?_eq_some_iff.1 hf).1; omega) hf
                have hn4 : numOf (mkC k v t) 4 = max (v 4) 1 := by show (if k = 1 then max (v 4) 1 else v 4) = _; rw [if_pos e1]
                have hz : v 4 = 0 := by
                  have := parseV_nonneg x (great 4)
                  rw [← hv] at this
                  rw [hn4] at hsame
                  omega
                right; right
                refine ⟨e1, by omega, ?_, ?_⟩
                · rw [← print_parsed hp, ← hv, hz, print_dec (by decide)]
                  exact dec_small (by decide)
                · rw [← hb, hw, hn4, hz, print_dec (by decide)]
                  exact dec_small (by decide)
    · cases h
end Go.Proofs.YtfecbepleeoibaaDoor
