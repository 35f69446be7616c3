/-
  What is made is taken; what is cut is torn; what is turned is told.
-/
import Derived.Test.YtjbmolclagmecabTake
namespace Go.Proofs.Ytjbmolclagmecab
open Go.RowKit

theorem makeE_ok {f p : Int} {l : List UInt8} (h : makeE f p l = 0) : wordB f = true ∧ wordB p = true ∧ lenB l.length = true := by
  unfold makeE at h
  split at h
  · rename_i hw
    split at h
    · rename_i hl; exact ⟨hw.1, hw.2, hl⟩
    · simp at h
  · simp at h
theorem makeE_mk {f p : Int} {l : List UInt8} (h1 : wordB f = true) (h2 : wordB p = true) (h3 : lenB l.length = true) : makeE f p l = 0 := by simp [makeE, h1, h2, h3]
theorem makeL_ok {f p : Int} {l : List UInt8} (h : makeE f p l = 0) : makeL f p l = Crc.frame f.toNat p.toNat l := by unfold makeL; rw [if_pos h]
theorem makeL_no {f p : Int} {l : List UInt8} (h : makeE f p l ≠ 0) : makeL f p l = [] := by unfold makeL; rw [if_neg h]

theorem head_len (A B r : List UInt8) (h : A.length = 4) : (A ++ (B ++ r)).take 4 = A := by rw [← h]; exact List.take_left
theorem mid_len (A B r : List UInt8) (h : A.length = 4) (hB : B.length = 4) : ((A ++ (B ++ r)).drop 4).take 4 = B := by
  rw [show (A ++ (B ++ r)).drop 4 = B ++ r by rw [← h]; exact List.drop_left, ← hB]
  exact List.take_left
theorem tail_len (A B r : List UInt8) (h : A.length = 4) (hB : B.length = 4) : (A ++ (B ++ r)).drop 8 = r := by
  rw [← List.append_assoc, show 8 = (A ++ B).length by simp [h, hB]]
  exact List.drop_left

/-- Bytes that say a length, a sum, and have the payload: what Take answers. -/
theorem take_parts {F P : Nat} (l r : List UInt8) (s : Nat) (hf : wordB (F : Int) = true) (hp : wordB (P : Int) = true) (hl : lenB l.length = true) (hs : s < 4294967296) :
    takeE F P (Crc.le 4 l.length ++ (Crc.le 4 s ++ (l ++ r))) = (if s = Crc.fsum F P l then 0 else 23) := by
  have hb := lenB_yes hl
  have e1 : takeLen (Crc.le 4 l.length ++ (Crc.le 4 s ++ (l ++ r))) = l.length := by
    unfold takeLen
    rw [head_len _ _ _ (Crc.le_length _ _), Crc.N_le]
    omega
  have e2 : takeSum (Crc.le 4 l.length ++ (Crc.le 4 s ++ (l ++ r))) = s := by
    unfold takeSum
    rw [mid_len _ _ _ (Crc.le_length _ _) (Crc.le_length _ _), Crc.N_le]
    omega
  have e3 : takePay (Crc.le 4 l.length ++ (Crc.le 4 s ++ (l ++ r))) = l := by
    unfold takePay
    rw [e1, tail_len _ _ _ (Crc.le_length _ _) (Crc.le_length _ _)]
    exact List.take_left
  have e4 : (Crc.le 4 l.length ++ (Crc.le 4 s ++ (l ++ r))).length = 8 + l.length + r.length := by simp [Crc.le_length]; omega
  unfold takeE
  rw [e1, e2, e3, e4, if_pos ⟨hf, hp⟩, if_neg (by omega), if_neg (by omega), if_neg (by rw [hl]; decide), if_neg (by omega)]
  simp
theorem pay_parts (l r : List UInt8) (s : Nat) (hl : lenB l.length = true) : takePay (Crc.le 4 l.length ++ (Crc.le 4 s ++ (l ++ r))) = l ∧ takeLen (Crc.le 4 l.length ++ (Crc.le 4 s ++ (l ++ r))) = l.length := by
  have hb := lenB_yes hl
  have e1 : takeLen (Crc.le 4 l.length ++ (Crc.le 4 s ++ (l ++ r))) = l.length := by
    unfold takeLen
    rw [head_len _ _ _ (Crc.le_length _ _), Crc.N_le]
    omega
  refine ⟨?_, e1⟩
  unfold takePay
  rw [e1, tail_len _ _ _ (Crc.le_length _ _) (Crc.le_length _ _)]
  exact List.take_left

theorem take_frame {F P : Nat} (l r : List UInt8) (hf : wordB (F : Int) = true) (hp : wordB (P : Int) = true) (hl : lenB l.length = true) :
    takeE F P (Crc.frame F P l ++ r) = 0 ∧ takeN F P (Crc.frame F P l ++ r) = 8 + (l.length : Int) ∧ takeL F P (Crc.frame F P l ++ r) = l := by
  have e : Crc.frame F P l ++ r = Crc.le 4 l.length ++ (Crc.le 4 (Crc.fsum F P l) ++ (l ++ r)) := by simp [Crc.frame]
  have h0 : takeE F P (Crc.frame F P l ++ r) = 0 := by rw [e, take_parts l r _ hf hp hl (Crc.fsum_lt _ _ _), if_pos rfl]
  have hpp := pay_parts l r (Crc.fsum F P l) hl
  rw [← e] at hpp
  refine ⟨h0, ?_, ?_⟩
  · unfold takeN; rw [if_pos h0, hpp.2]; omega
  · unfold takeL; rw [if_pos h0, hpp.1]

theorem take_cut {F P : Nat} (l : List UInt8) (k : Nat) (hf : wordB (F : Int) = true) (hp : wordB (P : Int) = true) (hl : lenB l.length = true) (h1 : 1 ≤ k) (h2 : k < (Crc.frame F P l).length) :
    takeE F P ((Crc.frame F P l).take k) = 21 := by
  have hb := lenB_yes hl
  have hlen : ((Crc.frame F P l).take k).length = k := by rw [List.length_take]; omega
  rw [Crc.frame_length] at h2
  unfold takeE
  rw [hlen, if_pos ⟨hf, hp⟩, if_neg (by omega)]
  by_cases h4 : k < 4
  · rw [if_pos h4]
  · have e1 : takeLen ((Crc.frame F P l).take k) = l.length := by
      unfold takeLen
      rw [List.take_take, Nat.min_eq_left (by omega)]
      unfold Crc.frame
      rw [head_len _ _ _ (Crc.le_length _ _), Crc.N_le]
      omega
    rw [if_neg h4, e1, if_neg (by rw [hl]; decide), if_pos (by omega)]
theorem take_none {f p : Int} {b : List UInt8} (h : takeE f p b ≠ 0) : takeN f p b = 0 ∧ takeL f p b = [] := by
  unfold takeN takeL; rw [if_neg h, if_neg h]; exact ⟨rfl, rfl⟩
end Go.Proofs.Ytjbmolclagmecab
