/-
  How often the order is asked for, without memory.
-/
import Derived.Test.YtdgepinpabiabaaMembers
namespace Go.Proofs.Ytdgepinpabiabaa
variable {α : Type}

theorem log2_half (n : Nat) (h : 2 ≤ n) : Nat.log2 n = Nat.log2 (n / 2) + 1 := by
  rw [Nat.log2_def n, if_pos h]
theorem log2_mono : ∀ (n m : Nat), n ≤ m → Nat.log2 n ≤ Nat.log2 m := by
  intro n
  induction n using Nat.strongRecOn with
  | _ n ih =>
    intro m hm
    by_cases h : 2 ≤ n
    · rw [log2_half n h, log2_half m (by omega)]
      have := ih (n / 2) (by omega) (m / 2) (by omega)
      omega
    · rw [Nat.log2_def n, if_neg h]; omega

theorem rise_asks (lt : α → α → Bool) : ∀ (f : Nat) (R : List (Int × α)) (p n : Nat), n ≤ (riseL lt f R p n).2.2 ∧ (riseL lt f R p n).2.2 ≤ n + Nat.log2 (p + 1)
  | 0, R, p, n => ⟨Nat.le_refl _, Nat.le_add_right _ _⟩
  | f + 1, R, p, n => by
    unfold riseL
    split
    · exact ⟨Nat.le_refl _, Nat.le_add_right _ _⟩
    · rename_i hp
      have h1 := log2_half (p + 1) (by omega)
      split
      · split
        · have h2 := rise_asks lt f (swapL R p ((p - 1) / 2)) ((p - 1) / 2) (n + 1)
          rw [show (p - 1) / 2 + 1 = (p + 1) / 2 by omega] at h2
          omega
        · simp only []; omega
      · simp only []; omega

theorem sink_asks (lt : α → α → Bool) : ∀ (f : Nat) (R : List (Int × α)) (p n : Nat), n ≤ (sinkL lt f R p n).2 ∧ (sinkL lt f R p n).2 ≤ n + 2 * Nat.log2 (R.length / (p + 1))
  | 0, R, p, n => ⟨Nat.le_refl _, Nat.le_add_right _ _⟩
  | f + 1, R, p, n => by
    unfold sinkL
    split
    · rename_i a b ha hb
      have hl := (List.getElem?_eq_some_iff.1 hb).1
      have hq : 2 ≤ R.length / (p + 1) := (Nat.le_div_iff_mul_le (by omega)).2 (by omega)
      have h1 := log2_half _ hq
      have child : ∀ c, 2 * (p + 1) ≤ c + 1 → ∀ m, m ≤ (sinkL lt f (swapL R p c) c m).2 ∧ (sinkL lt f (swapL R p c) c m).2 ≤ m + 2 * Nat.log2 (R.length / (p + 1) / 2) := by
        intro c hc m
        have h2 := sink_asks lt f (swapL R p c) c m
        rw [swapL_length] at h2
        have h3 : R.length / (c + 1) ≤ R.length / (p + 1) / 2 := by
          rw [Nat.div_div_eq_div_mul, Nat.mul_comm (p + 1) 2]
          exact Nat.div_le_div_left hc (by omega)
        have h4 := log2_mono _ _ h3
        omega
      have c1 := child (2 * p + 1) (by omega)
      have c2 := child (2 * p + 2) (by omega)
      split
      · split
        · have := c1 (n + 1); omega
        · simp only []; omega
      · split
        · split
          · have := c2 (n + 2); omega
          · simp only []; omega
        · split
          · have := c1 (n + 2); omega
          · simp only []; omega
    · exact ⟨Nat.le_refl _, Nat.le_add_right _ _⟩

theorem settle_asks (lt : α → α → Bool) (R : List (Int × α)) (p n : Nat) (hp : p < R.length) : n ≤ (settleL lt R p n).2 ∧ (settleL lt R p n).2 ≤ n + 3 * Nat.log2 R.length := by
  have h1 := rise_asks lt p R p n
  have h2 := log2_mono (p + 1) R.length (by omega)
  unfold settleL
  split
  · simp only []; omega
  · have h3 := sink_asks lt R.length (riseL lt p R p n).1 p (riseL lt p R p n).2.2
    rw [riseL_length] at h3
    have h4 := log2_mono (R.length / (p + 1)) R.length (Nat.div_le_self _ _)
    omega
theorem drop_asks (lt : α → α → Bool) (R : List (Int × α)) (p n : Nat) : n ≤ (dropL lt R p n).2 ∧ (dropL lt R p n).2 ≤ n + 3 * Nat.log2 R.length := by
  unfold dropL
  split
  · rename_i hp
    have hl : ((swapL R p (R.length - 1)).take (R.length - 1)).length = R.length - 1 := by rw [List.length_take, swapL_length]; omega
    have h1 := settle_asks lt ((swapL R p (R.length - 1)).take (R.length - 1)) p n (by omega)
    rw [hl] at h1
    have h2 := log2_mono (R.length - 1) R.length (by omega)
    omega
  · simp only []; omega
end Go.Proofs.Ytdgepinpabiabaa
