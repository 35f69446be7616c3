/-
  What the document's Check tells is what we tell.
-/
import Derived.Test.YtjnjaojafimfeaaRefCheck
namespace Go.Proofs.Ytjnjaojafimfeaa
open Go.RowKit
def cnt0 (n : Nat → Int) : Bool := (n 11 == 0) && (n 12 == 0) && (n 13 == 0) && (n 14 == 0) && (n 15 == 0)
def blankB (r : Rec) (m : Nat) : Bool := (r.num 3 == 0) && (r.num 4 == 0) && (r.num 5 == 0) && (r.num 8 == 0) && (r.num 9 == 0) && (r.num 10 == 0) && cnt0 r.num && shortB r m
theorem zero16 {n : Nat → Int} : zeroB n = true ↔ n 0 = 0 ∧ n 1 = 0 ∧ n 2 = 0 ∧ n 3 = 0 ∧ n 4 = 0 ∧ n 5 = 0 ∧ n 6 = 0 ∧ n 7 = 0 ∧ n 8 = 0 ∧ n 9 = 0 ∧ n 10 = 0 ∧ n 11 = 0 ∧ n 12 = 0 ∧ n 13 = 0 ∧ n 14 = 0 ∧ n 15 = 0 := by
  unfold zeroB
  rw [show List.range 16 = [0, 1, 2, 3, 4, 5, 6, 7, 8, 9, 10, 11, 12, 13, 14, 15] from rfl]
  simp
/-- The document's Check. -/
def refOk (r : Rec) (m : Nat) : Bool :=
  if r.kind = 1 then withinB (r.num 0) 1 1099511627776 && withinB (r.num 1) 1 1099511627777 && (r.num 2 == 0) && blankB r m
  else if r.kind = 2 then (r.num 0 == 0) && (r.num 1 == 0) && (r.num 2 == 0) && changesB r.num && lastB r m
  else if r.kind = 3 then (r.num 0 == 0) && (r.num 1 == 0) && (r.num 2 == 0) && changesB r.num && shortB r m
  else (r.num 0 == 0) && (r.num 1 == 0) && withinB (r.num 2) 1 1099511627776 && blankB r m
def refE (r : Rec) (m : Nat) : Int := if withinB r.kind 1 4 = false then 100 else if refOk r m = false then 101 else 0
theorem ok_of {r : Rec} {m : Nat} (hk : withinB r.kind 1 4 = true) (h : refOk r m = true ↔ (zeroB (clr (fieldsL r.kind) r.num) = true ∧ mayBeB r.kind r.num = true ∧ textB r.kind r.tube m = true)) : refE r m = checkE r m := by
  unfold refE checkE
  rw [hk]
  by_cases h1 : refOk r m = true
  · obtain ⟨a, b, c⟩ := h.1 h1
    simp [h1, a, b, c]
  · have h2 : refOk r m = false := by simpa using h1
    have : ¬ (zeroB (clr (fieldsL r.kind) r.num) = true ∧ mayBeB r.kind r.num = true ∧ textB r.kind r.tube m = true) := fun e => h1 (h.2 e)
    rw [h2]
    by_cases a : zeroB (clr (fieldsL r.kind) r.num) = true
    · by_cases b : mayBeB r.kind r.num = true
      · have c : textB r.kind r.tube m = false := by
          cases hc : textB r.kind r.tube m with
          | false => rfl
          | true => exact absurd ⟨a, b, hc⟩ this
        simp [c]
      · simp [show mayBeB r.kind r.num = false by simpa using b]
    · simp [show zeroB (clr (fieldsL r.kind) r.num) = false by simpa using a]
theorem ref_check (r : Rec) (m : Nat) : refE r m = checkE r m := by
  by_cases hk : withinB r.kind 1 4 = true
  · refine ok_of hk ?_
    have hw := within_iff.1 hk
    have h4 : r.kind = 1 ∨ r.kind = 2 ∨ r.kind = 3 ∨ r.kind = 4 := by omega
    rcases h4 with e | e | e | e
    · simp only [refOk, e, fieldsL, zero16, clr, mayBeB, bndL, bndH, textB, blankB, cnt0, shortB, Bool.and_eq_true, within_iff, List.all_eq_true]
      simp [within_iff]
      grind
    · simp only [refOk, e, fieldsL, zero16, clr, mayBeB, bndL, bndH, textB, changesB, stateB, cntB, lastB, Bool.and_eq_true, within_iff, List.all_eq_true]
      simp [within_iff]
      grind
    · simp only [refOk, e, fieldsL, zero16, clr, mayBeB, bndL, bndH, textB, changesB, stateB, cntB, shortB, Bool.and_eq_true, within_iff, List.all_eq_true]
      simp [within_iff]
      grind
    · simp only [refOk, e, fieldsL, zero16, clr, mayBeB, bndL, bndH, textB, blankB, cnt0, shortB, Bool.and_eq_true, within_iff, List.all_eq_true]
      simp [within_iff]
      grind
  · have h : withinB r.kind 1 4 = false := by simpa using hk
    unfold refE checkE
    rw [h]
    rfl
end Go.Proofs.Ytjnjaojafimfeaa
