/-
  Plain facts: how far a trial can stand.
-/
import Derived.Test.YtaaohoombjlhfaaDoorPlainRd
namespace Go.Proofs.YtaaohoombjlhfaaDoor
open Go.RowKit

theorem pparse_pos (most : Int) : ∀ (l : List UInt8) (n : Int), 0 ≤ n → ∀ v, parseFrom most l n = some v → 0 ≤ v
  | [], n, hn, v, h => by rw [parseFrom] at h; cases h; exact hn
  | c :: r, n, hn, v, h => by
    rw [parseFrom] at h
    split at h
    · rename_i hc
      split at h
      · cases h
      · exact pparse_pos most r _ (by omega) v h
    · cases h
theorem pparse_le (most : Int) : ∀ (l : List UInt8) (n : Int), n ≤ most → ∀ v, parseFrom most l n = some v → v ≤ most
  | [], n, hn, v, h => by rw [parseFrom] at h; cases h; exact hn
  | c :: r, n, hn, v, h => by
    rw [parseFrom] at h
    split at h
    · rename_i hc
      split at h
      · cases h
      · exact pparse_le most r _ (by omega) v h
    · cases h
theorem pV_pos (l : List UInt8) (most : Int) : 0 ≤ parseV l most := by
  unfold parseV
  split
  · exact Int.le_refl _
  · cases h : parseFrom most l 0 with
    | none => exact Int.le_refl _
    | some v => exact pparse_pos most l 0 (Int.le_refl _) v h
theorem pV_le (l : List UInt8) (most : Int) (hm : 0 ≤ most) : parseV l most ≤ most := by
  unfold parseV
  split
  · exact hm
  · cases h : parseFrom most l 0 with
    | none => exact hm
    | some v => exact pparse_le most l 0 hm v h

theorem size_bound (k : Nat) (hk : k < 24) (b : List UInt8) : 0 ≤ (lineS k b st0).size ∧ (lineS k b st0).size ≤ 4294967295 := by
  have ht : boOf k ≤ 4294967295 := by
    have : ∀ k, k < 24 → boOf k ≤ 4294967295 := by decide
    exact this k hk
  obtain ⟨s4, e4⟩ : ∃ s, s = (fun s => if tuOf k then tubeS b s else s) ((fun s => if 0 < nuOf k then numS (nuOf k) b s else s) ((fun s => if 0 < idOf k then idS (idOf k) b s else s) (textS (wordOf k) b st0))) := ⟨_, rfl⟩
  have z4 : s4.size = 0 := by
    have a1 : (textS (wordOf k) b st0).size = 0 := by unfold textS; split <;> rfl
    have a2 : ∀ s : St, s.size = 0 → (if 0 < idOf k then idS (idOf k) b s else s).size = 0 := fun s h => by
      split
      · unfold idS; split <;> exact h
      · exact h
    have a3 : ∀ s : St, s.size = 0 → (if 0 < nuOf k then numS (nuOf k) b s else s).size = 0 := fun s h => by
      split
      · unfold numS; split <;> exact h
      · exact h
    have a4 : ∀ s : St, s.size = 0 → (if tuOf k then tubeS b s else s).size = 0 := fun s h => by
      split
      · unfold tubeS; split <;> exact h
      · exact h
    rw [e4]
    exact a4 _ (a3 _ (a2 _ a1))
  have e5 : lineS k b st0 = if 0 < boOf k then sizeS (boOf k) b s4 else s4 := by rw [e4]; rfl
  rw [e5]
  by_cases hc : 0 < boOf k
  · rw [if_pos hc]
    unfold sizeS
    by_cases hz : s4.st = 0
    · rw [if_pos hz]
      have h1 := pV_pos (wordP b (numFits 0 (boOf k)) s4.pos).1 (boOf k)
      have h2 := pV_le (wordP b (numFits 0 (boOf k)) s4.pos).1 (boOf k) (by omega)
      exact ⟨h1, Int.le_trans h2 ht⟩
    · rw [if_neg hz, z4]; omega
  · rw [if_neg hc, z4]; omega
theorem kind_bound (k : Nat) (hk : k < 24) (b : List UInt8) : (kindS k b).pos ≤ b.length + 4294967295 := by
  have h3 := kind_three k b
  by_cases h0 : (kindS k b).st = 0
  · have := kind_good k b h0; omega
  by_cases h2 : (kindS k b).st = 2
  · have := kind_wrong k b h2; omega
  have h : (kindS k b).st = 1 := by omega
  have same : (kindS k b).pos = b.length → (kindS k b).pos ≤ b.length + 4294967295 := fun e => by omega
  by_cases hc : 0 < boOf k
  · obtain ⟨s5, e5⟩ : ∃ s, s = textS [13, 10] b (lineS k b st0) := ⟨_, rfl⟩
    have hk5 : kindS k b = textS [13, 10] b (takeS b s5) := by unfold kindS bodyS; rw [if_pos hc, ← e5]
    have F5 := (fine_line k).comp (fine_text [13, 10])
    by_cases hz : s5.st = 0
    · have p5 : s5.pos ≤ b.length := by rw [e5] at hz ⊢; exact F5.good b st0 rfl (Nat.zero_le _) hz
      by_cases hl : b.length < s5.pos + s5.size.toNat
      · have et : takeS b s5 = { s5 with pos := s5.pos + s5.size.toNat, st := 1 } := by unfold takeS; rw [if_pos hz, if_pos hl]
        have ek : kindS k b = { s5 with pos := s5.pos + s5.size.toNat, st := 1 } := by rw [hk5, et, (fine_text _).stuck _ _ (by show (1 : Nat) ≠ 0; decide)]
        rw [ek]
        have hs := size_bound k hk b
        have : s5.size = (lineS k b st0).size := by rw [e5]; unfold textS; split <;> rfl
        show s5.pos + s5.size.toNat ≤ _
        omega
      · refine same ?_
        have et : takeS b s5 = { s5 with pos := s5.pos + s5.size.toNat, body := (b.drop s5.pos).take s5.size.toNat } := by unfold takeS; rw [if_pos hz, if_neg hl]
        rw [hk5, et] at h ⊢
        exact tight_text [13, 10] b _ hz (by show s5.pos + s5.size.toNat ≤ _; omega) h
    · refine same ?_
      have et : takeS b s5 = s5 := fine_take.stuck b s5 hz
      rw [hk5, et, (fine_text _).stuck _ _ hz] at h ⊢
      have T5 := (tight_line k).comp (fine_line k) (tight_text [13, 10]) (fine_text [13, 10])
      rw [e5] at h ⊢
      exact T5 b st0 rfl (Nat.zero_le _) h
  · refine same ?_
    have hk5 : kindS k b = textS [13, 10] b (lineS k b st0) := by unfold kindS bodyS; rw [if_neg hc]
    have T5 := (tight_line k).comp (fine_line k) (tight_text [13, 10]) (fine_text [13, 10])
    rw [hk5] at h ⊢
    exact T5 b st0 rfl (Nat.zero_le _) h
theorem read_bound (b : List UInt8) : (readP b).2.1 ≤ b.length + 4294967295 := by
  rcases read_pick b with ⟨j, h1, h2, _, _, e⟩ | ⟨_, _, h3, _⟩
  · rw [e]; exact kind_bound j (by omega) b
  · omega

end Go.Proofs.YtaaohoombjlhfaaDoor
