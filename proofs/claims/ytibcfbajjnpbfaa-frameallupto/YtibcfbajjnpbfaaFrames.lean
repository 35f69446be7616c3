/-
  The frames of a file, one behind the other.
-/
import Derived.Test.YtibcfbajjnpbfaaTake
namespace Go.Proofs.Ytibcfbajjnpbfaa
open Go.RowKit

theorem take_len {f p : Int} {b : List UInt8} (h : takeE f p b = 0) : 8 + takeLen b ≤ b.length ∧ 1 ≤ takeLen b ∧ takeLen b ≤ 66000 := by
  unfold takeE at h
  split at h
  · split at h
    · simp at h
    · split at h
      · simp at h
      · split at h
        · simp at h
        · rename_i hlb
          split at h
          · simp at h
          · have := lenB_yes (n := (takeLen b : Int)) (by simpa using hlb)
            omega
  · simp at h

/-- The frames from a place on, at most so many. -/
def framesN (f : Int) (l : List UInt8) : Nat → Nat → List (Nat × List UInt8)
  | 0, _ => []
  | k + 1, p => if takeE f p (l.drop p) = 0 then (p, takePay (l.drop p)) :: framesN f l k (p + (8 + takeLen (l.drop p))) else []
def frames (f : Int) (l : List UInt8) (p : Nat) : List (Nat × List UInt8) := framesN f l (l.length + 1 - p) p

theorem framesN_more (f : Int) (l : List UInt8) : ∀ (k p : Nat), l.length + 1 - p ≤ k → framesN f l k p = frames f l p := by
  intro k
  induction k using Nat.strongRecOn with
  | _ k ih =>
    intro p hk
    unfold frames
    obtain ⟨m, hm⟩ : ∃ m, m = l.length + 1 - p := ⟨_, rfl⟩
    rw [← hm]
    rw [← hm] at hk
    cases k with
    | zero => obtain rfl : m = 0 := by omega
              rfl
    | succ k =>
      cases m with
      | zero =>
        have : ¬ takeE f p (l.drop p) = 0 := fun h => by
          have := (take_len h).1
          simp at this
          omega
        simp [framesN, this]
      | succ m =>
        simp only [framesN]
        split
        · rename_i h
          have h1 := (take_len h).1
          simp at h1
          rw [ih k (by omega) _ (by omega)]
          by_cases hmk : m = k
          · subst hmk
            rw [ih m (by omega) _ (by omega)]
          · rw [ih m (by omega) _ (by omega)]
        · rfl
theorem frames_step {f : Int} {l : List UInt8} {p : Nat} (h : takeE f p (l.drop p) = 0) : frames f l p = (p, takePay (l.drop p)) :: frames f l (p + (8 + takeLen (l.drop p))) := by
  have h1 := (take_len h).1
  simp at h1
  have e := framesN_more f l (l.length + 2 - p) p (by omega)
  rw [show l.length + 2 - p = (l.length + 1 - p) + 1 by omega] at e
  rw [← e]
  simp only [framesN, h, if_true]
  rw [framesN_more f l _ _ (by omega)]
theorem frames_end {f : Int} {l : List UInt8} {p : Nat} (h : ¬ takeE f p (l.drop p) = 0) : frames f l p = [] := by
  unfold frames
  cases hk : l.length + 1 - p with
  | zero => rfl
  | succ k => simp [framesN, h]
end Go.Proofs.Ytibcfbajjnpbfaa
