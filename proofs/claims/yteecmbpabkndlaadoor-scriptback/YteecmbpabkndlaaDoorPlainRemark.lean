/-
  Plain: lines that are passed over change nothing. Nothing of the program.
-/
import Derived.Test.YteecmbpabkndlaaDoorPlA
namespace Go.Proofs.YteecmbpabkndlaaDoor
open Go.RowKit

/-- A line that is passed over. -/
def passT (r : Tx) : Tx := 35 :: r.filter (· ≠ 10)
/-- A text with lines put in behind each e-th line's end. -/
def mix (pass : Tx) (e : Nat) : Nat → Tx → Tx
  | _, [] => []
  | m, c :: r => if c = 10 then (if (m + 1) % e = 0 then 10 :: 10 :: (pass ++ 10 :: mix pass e (m + 1) r) else 10 :: mix pass e (m + 1) r) else c :: mix pass e m r
/-- How far the line k is moved by that. -/
def mixM (e : Nat) (k : Int) : Nat → Tx → Int
  | _, [] => 0
  | m, c :: r => if c = 10 then (if (m + 1) % e = 0 ∧ ((m + 1 : Nat) : Int) < k then 2 else 0) + mixM e k (m + 1) r else mixM e k m r
theorem mixM_zero (e : Nat) (k : Int) : ∀ (t : Tx) (m : Nat), k ≤ m + 1 → mixM e k m t = 0
  | [], m, _ => rfl
  | c :: r, m, h => by
    rw [mixM]
    split
    · rw [if_neg (by omega), mixM_zero e k r (m + 1) (by omega)]
      rfl
    · exact mixM_zero e k r m h
theorem run_after : ∀ (l : List Tx) (st : Rd) (n k c : Int), runP st n l = .error (k, c) → n < k
  | [], st, n, k, c, h => by
    rw [runP] at h
    cases h
  | x :: r, st, n, k, c, h => by
    rw [runP] at h
    cases hl : lineP st x with
    | error c' =>
      rw [hl] at h
      cases h
      omega
    | ok s1 =>
      rw [hl] at h
      have := run_after r s1 _ k c h
      omega
theorem lineP_pass (st : Rd) (r : Tx) : lineP st (35 :: r) = .ok st := by
  unfold lineP
  simp
theorem lineP_nil (st : Rd) : lineP st [] = .ok st := rfl
theorem pass_line (r : Tx) : ∀ c ∈ passT r, c ≠ 10 := by
  intro c hc
  unfold passT at hc
  rcases List.mem_cons.1 hc with rfl | hc
  · decide
  · simpa using (List.mem_filter.1 hc).2
theorem mix_run (r0 : Tx) (e : Nat) : ∀ (t : Tx) (cur : Tx) (m : Nat) (d : Int) (st : Rd),
    runP st ((m : Int) + d) (linesA (mix (passT r0) e m t) cur) = match runP st (m : Int) (linesA t cur) with | .ok s => .ok s | .error (k, c) => .error (k + d + mixM e k m t, c)
  | [], cur, m, d, st => by
    rw [mix, linesA]
    split
    · rfl
    · rw [runP, runP]
      cases hl : lineP st cur with
      | error c =>
        simp only [mixM]
        congr 2
        omega
      | ok s => simp only [runP]
  | c :: r, cur, m, d, st => by
    rw [mix]
    by_cases hc : c = 10
    · subst hc
      rw [if_pos rfl, linesA, if_pos rfl]
      have hA : ∀ X : Tx, linesA (10 :: X) cur = cur :: linesA X [] := fun X => by rw [linesA, if_pos rfl]
      have hM : ∀ k, mixM e k m (10 :: r) = (if (m + 1) % e = 0 ∧ ((m + 1 : Nat) : Int) < k then 2 else 0) + mixM e k (m + 1) r := fun k => by rw [mixM, if_pos rfl]
      by_cases he : (m + 1) % e = 0
      · rw [if_pos he, hA, runP, runP]
        cases hl : lineP st cur with
        | error c =>
          simp only []
          rw [mixM_zero e _ _ m (by omega)]
          congr 2
          omega
        | ok s =>
          simp only []
          have h1 : linesA (10 :: (passT r0 ++ 10 :: mix (passT r0) e (m + 1) r)) [] = [] :: passT r0 :: linesA (mix (passT r0) e (m + 1) r) [] := by
            rw [linesA, if_pos rfl, linesA_cut _ _ _ (pass_line r0), List.nil_append]
          rw [h1, runP, lineP_nil]
          simp only []
          rw [runP, show passT r0 = 35 :: r0.filter (· ≠ 10) from rfl, lineP_pass]
          simp only []
          have ih := mix_run r0 e r [] (m + 1) (d + 2) s
          rw [show (m : Int) + d + 1 + 1 + 1 = ((m + 1 : Nat) : Int) + (d + 2) by omega, show (35 :: r0.filter (· ≠ 10)) = passT r0 from rfl, ih, show (m : Int) + 1 = ((m + 1 : Nat) : Int) by omega]
          cases hr : runP s ((m + 1 : Nat) : Int) (linesA r []) with
          | ok s2 => rfl
          | error p =>
            obtain ⟨k, c⟩ := p
            have hk := run_after _ _ _ _ _ hr
            simp only []
            rw [hM, if_pos ⟨he, hk⟩]
            congr 2
            omega
      · rw [if_neg he, hA, runP, runP]
        cases hl : lineP st cur with
        | error c =>
          simp only []
          rw [mixM_zero e _ _ m (by omega)]
          congr 2
          omega
        | ok s =>
          simp only []
          have ih := mix_run r0 e r [] (m + 1) d s
          rw [show (m : Int) + d + 1 = ((m + 1 : Nat) : Int) + d by omega, ih, show (m : Int) + 1 = ((m + 1 : Nat) : Int) by omega]
          cases hr : runP s ((m + 1 : Nat) : Int) (linesA r []) with
          | ok s2 => rfl
          | error p =>
            obtain ⟨k, c⟩ := p
            simp only []
            rw [hM, if_neg (fun h => he h.1)]
            congr 2
            omega
    · rw [if_neg hc, linesA, if_neg hc, linesA, if_neg hc, mix_run r0 e r (cur ++ [c]) m d st]
      have hM : ∀ k, mixM e k m (c :: r) = mixM e k m r := fun k => by rw [mixM, if_neg hc]
      cases hr : runP st (m : Int) (linesA r (cur ++ [c])) with
      | ok s2 => rfl
      | error p => simp only [hM]
theorem mix_len (pass : Tx) (e : Nat) : ∀ (t : Tx) (m : Nat), t.length ≤ (mix pass e m t).length
  | [], m => by simp
  | c :: r, m => by
    rw [mix]
    split
    · have := mix_len pass e r (m + 1)
      split
      · simp only [List.length_cons, List.length_append]
        omega
      · simp only [List.length_cons]
        omega
    · have := mix_len pass e r m
      simp only [List.length_cons]
      omega
/-- LINES THAT ARE PASSED OVER CHANGE NOTHING. -/
theorem remarks_run (r0 : Tx) (e : Nat) (t : Tx) (h : (passT r0 ++ 10 :: 10 :: mix (passT r0) e 0 t).length ≤ 1048576) :
    parseP (passT r0 ++ 10 :: 10 :: mix (passT r0) e 0 t) = ((parseP t).1, (if 0 < (parseP t).2.1 then (parseP t).2.1 + (2 + mixM e (parseP t).2.1 0 t) else (parseP t).2.1), (parseP t).2.2) := by
  have hl := mix_len (passT r0) e t 0
  have hlt : t.length ≤ 1048576 := by
    simp only [List.length_append, List.length_cons] at h
    omega
  have h1 : linesP (passT r0 ++ 10 :: 10 :: mix (passT r0) e 0 t) = passT r0 :: [] :: linesA (mix (passT r0) e 0 t) [] := by
    rw [linesP_cut _ _ (pass_line r0)]
    unfold linesP
    rw [linesA, if_pos rfl]
  unfold parseP
  rw [if_neg (by omega), if_neg (by omega), h1, runP, show passT r0 = 35 :: r0.filter (· ≠ 10) from rfl, lineP_pass]
  simp only []
  rw [runP, lineP_nil]
  simp only []
  have ih := mix_run r0 e t [] 0 2 rd0
  rw [show (0 : Int) + 1 + 1 = ((0 : Nat) : Int) + 2 by omega, show (35 :: r0.filter (· ≠ 10)) = passT r0 from rfl, ih, show ((0 : Nat) : Int) = 0 by omega]
  unfold linesP
  cases hr : runP rd0 0 (linesA t []) with
  | ok s =>
    simp only []
    cases s.hd <;> simp
  | error p =>
    obtain ⟨k, c⟩ := p
    have hk := run_after _ _ _ _ _ hr
    simp only []
    rw [if_pos hk]
    congr 2
    omega
end Go.Proofs.YteecmbpabkndlaaDoor
