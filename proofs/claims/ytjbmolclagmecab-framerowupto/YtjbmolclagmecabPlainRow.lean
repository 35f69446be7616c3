/-
  Frames that were made one behind the other are given just so.
-/
import Derived.Test.YtjbmolclagmecabFrames
import Derived.Test.YtjbmolclagmecabPlainFrame
import Derived.Test.YtjbmolclagmecabWhole
namespace Go.Proofs.Ytjbmolclagmecab
open Go.RowKit

/-- What is made so far: which payloads stand at which places, and the bytes. -/
def rowStep (f : Int) (s : List (Nat × Nat) × List UInt8) (i : Nat) (l : List UInt8) : List (Nat × Nat) × List UInt8 :=
  if makeE f s.2.length l = 0 then (s.1 ++ [(i, s.2.length)], s.2 ++ Crc.frame f.toNat s.2.length l) else s
def rowAt (f : Int) (ls : List (List UInt8)) : Nat → List (Nat × Nat) × List UInt8
  | 0 => ([], [])
  | k + 1 => rowStep f (rowAt f ls k) k (ls[k]?.getD [])
def gave (ls : List (List UInt8)) (m : List (Nat × Nat)) : List (Nat × List UInt8) := m.map fun x => (x.2, ls[x.1]?.getD [])
def flat (m : List (Nat × Nat)) : List Nat := m.flatMap fun x => [x.1, x.2]

theorem flat_snoc (m : List (Nat × Nat)) (i p : Nat) : flat (m ++ [(i, p)]) = flat m ++ [i, p] := by simp [flat]
theorem flat_length (m : List (Nat × Nat)) : (flat m).length = 2 * m.length := by
  induction m with
  | nil => rfl
  | cons x m ih => simp only [flat, List.flatMap_cons, List.length_append, List.length_cons, List.length_nil] at ih ⊢; omega
theorem flat_get : ∀ (m : List (Nat × Nat)) (n : Nat) (x : Nat × Nat), m[n]? = some x → (flat m)[2 * n]? = some x.1 ∧ (flat m)[2 * n + 1]? = some x.2
  | [], n, x, h => by simp at h
  | y :: m, 0, x, h => by
    simp at h
    subst h
    simp [flat]
  | y :: m, n + 1, x, h => by
    have := flat_get m n x (by simpa using h)
    simp only [flat, List.flatMap_cons] at this ⊢
    rw [show 2 * (n + 1) = 2 * n + 1 + 1 by omega]
    simpa using this

theorem row_noword {f : Int} (h : wordB f = false) (ls : List (List UInt8)) : ∀ k, rowAt f ls k = ([], [])
  | 0 => rfl
  | k + 1 => by
    rw [rowAt, row_noword h ls k, rowStep, if_neg]
    simp [makeE, h]

/-- The bound of all bytes that may be made. -/
def tot (ls : List (List UInt8)) : Nat := (ls.map fun l => l.length + 9).sum
theorem tot_take (ls : List (List UInt8)) (k : Nat) : tot (ls.take (k + 1)) = tot (ls.take k) + (if k < ls.length then (ls[k]?.getD []).length + 9 else 0) := by
  by_cases h : k < ls.length
  · rw [List.take_add_one, List.getElem?_eq_getElem h, if_pos h]
    unfold tot
    rw [List.map_append, List.sum_append]
    simp
  · rw [List.take_of_length_le (by omega), List.take_of_length_le (by omega), if_neg h]; omega
theorem tot_le (ls : List (List UInt8)) (k : Nat) : tot (ls.take k) ≤ tot ls := by
  have : tot ls = tot (ls.take k) + tot (ls.drop k) := by
    unfold tot
    rw [← List.sum_append, ← List.map_append, List.take_append_drop]
  omega

theorem row_bounds (f : Int) (ls : List (List UInt8)) : ∀ k, (rowAt f ls k).2.length ≤ tot (ls.take k) ∧ (rowAt f ls k).1.length ≤ k ∧ (∀ x ∈ (rowAt f ls k).1, x.1 < k ∧ x.1 < ls.length ∧ x.2 ≤ (rowAt f ls k).2.length)
  | 0 => by simp [rowAt, tot]
  | k + 1 => by
    obtain ⟨h1, h2, h3⟩ := row_bounds f ls k
    rw [tot_take, rowAt, rowStep]
    split
    · rename_i hE
      have hl := lenB_yes (makeE_ok hE).2.2
      have hk : k < ls.length := by
        by_cases hk : k < ls.length
        · exact hk
        · rw [List.getElem?_eq_none (by omega)] at hl; simp at hl
      rw [if_pos hk]
      simp only [List.length_append, Crc.frame_length, List.length_cons, List.length_nil]
      refine ⟨by omega, by omega, fun x hx => ?_⟩
      rcases List.mem_append.1 hx with hx | hx
      · have := h3 x hx; omega
      · simp at hx; subst hx; simp; omega
    · exact ⟨by omega, by omega, fun x hx => by have := h3 x hx; omega⟩

theorem row_end (f : Int) (ls : List (List UInt8)) : ∀ k, endOf (gave ls (rowAt f ls k).1) = (rowAt f ls k).2.length
  | 0 => rfl
  | k + 1 => by
    have ih := row_end f ls k
    rw [rowAt, rowStep]
    split
    · simp only [gave, List.map_append, List.map_cons, List.map_nil, endOf_snoc, List.length_append, Crc.frame_length]
      omega
    · exact ih

theorem row_frames {f : Int} (hf : wordB f = true) (ls : List (List UInt8)) (hw : tot ls ≤ 4611686018427387903) : ∀ (k : Nat) (r : List UInt8), frames f ((rowAt f ls k).2 ++ r) 0 = gave ls (rowAt f ls k).1 ++ frames f ((rowAt f ls k).2 ++ r) (rowAt f ls k).2.length
  | 0, r => by simp [rowAt, gave]
  | k + 1, r => by
    obtain ⟨F, rfl⟩ := Int.eq_ofNat_of_zero_le (wordB_yes hf).1
    have hb := (row_bounds F ls k).1
    have ht := tot_le ls k
    have ih := row_frames hf ls hw k
    rw [rowAt, rowStep]
    split
    · rename_i hE
      obtain ⟨_, hp, hl⟩ := makeE_ok hE
      rw [List.append_assoc, ih]
      have hd : ((rowAt F ls k).2 ++ (Crc.frame (F : Int).toNat (rowAt F ls k).2.length (ls[k]?.getD []) ++ r)).drop (rowAt F ls k).2.length = Crc.frame (F : Int).toNat (rowAt F ls k).2.length (ls[k]?.getD []) ++ r := List.drop_left
      obtain ⟨t1, t2, t3⟩ := take_frame (F := F) (P := (rowAt F ls k).2.length) (ls[k]?.getD []) r hf hp hl
      rw [Int.toNat_natCast] at hd ⊢
      have hl2 : takeLen (Crc.frame F (rowAt F ls k).2.length (ls[k]?.getD []) ++ r) = (ls[k]?.getD []).length := by
        unfold takeN at t2
        rw [if_pos t1] at t2
        omega
      have hp2 : takePay (Crc.frame F (rowAt F ls k).2.length (ls[k]?.getD []) ++ r) = ls[k]?.getD [] := by
        unfold takeL at t3
        rwa [if_pos t1] at t3
      rw [frames_step (f := F) (p := (rowAt F ls k).2.length) (by rw [hd]; exact t1), hd, hl2, hp2]
      simp only [gave, List.map_append, List.map_cons, List.map_nil, List.append_assoc, List.cons_append, List.nil_append, List.length_append, Crc.frame_length]
      rw [Nat.add_comm 8]
    · exact ih r
end Go.Proofs.Ytjbmolclagmecab
