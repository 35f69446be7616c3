/-
  Plain facts for P1.6: what is printed is parsed.
-/
import Derived.Test.YthapbnlcodkalaaDoorPlainParse
import Derived.Test.YthapbnlcodkalaaDoorPrint
namespace Go.Proofs.YthapbnlcodkalaaDoor
open Go.RowKit

theorem parse_append (most : Int) : ∀ (l1 l2 : List UInt8) (n : Int), parseFrom most (l1 ++ l2) n = (parseFrom most l1 n).bind (parseFrom most l2)
  | [], l2, n => by simp [parseFrom]
  | c :: r, l2, n => by
    rw [List.cons_append, parseFrom, parseFrom]
    by_cases h : 48 ≤ (c.toNat : Int) ∧ (c.toNat : Int) ≤ 57
    · rw [if_pos h, if_pos h]
      by_cases h2 : most < (c.toNat : Int) - 48 ∨ (most - ((c.toNat : Int) - 48)) / 10 < n
      · rw [if_pos h2, if_pos h2]; rfl
      · rw [if_neg h2, if_neg h2]; exact parse_append most r l2 _
    · rw [if_neg h, if_neg h]; rfl

theorem parse_one (most n : Int) (d : Nat) (hd : d < 10) : parseFrom most [UInt8.ofNat (48 + d)] n = if most < (d : Int) ∨ (most - (d : Int)) / 10 < n then none else some (n * 10 + (d : Int)) := by
  have e : ((UInt8.ofNat (48 + d)).toNat : Int) = 48 + (d : Int) := by
    rw [UInt8.toNat_ofNat']
    omega
  rw [parseFrom, e, if_pos (by omega), show (48 + (d : Int) - 48) = (d : Int) by omega, parseFrom]

theorem parse_dec (most : Int) (u : Nat) : parseFrom most (Lib.decDigits u) 0 = if (u : Int) ≤ most then some (u : Int) else none := by
  induction u using Nat.strongRecOn with
  | _ u ih =>
    by_cases h : u < 10
    · rw [dec_small h, parse_one most 0 u h]
      by_cases hm : (u : Int) ≤ most
      · rw [if_neg (by omega), if_pos hm]; congr 1; omega
      · rw [if_pos (by omega), if_neg hm]
    · rw [dec_big h, parse_append, ih (u / 10) (by omega)]
      by_cases hm : ((u / 10 : Nat) : Int) ≤ most
      · rw [if_pos hm, Option.bind_some, parse_one most _ (u % 10) (by omega)]
        by_cases hu : (u : Int) ≤ most
        · rw [if_neg (by omega), if_pos hu]; congr 1; omega
        · rw [if_pos (by omega), if_neg hu]
      · rw [if_neg hm, if_neg (by omega)]; rfl

theorem parse_zeros (most : Int) (hm : 0 ≤ most) : ∀ z : Nat, parseFrom most (List.replicate z 48) 0 = some 0
  | 0 => rfl
  | z + 1 => by
    rw [List.replicate_succ, parseFrom, if_pos (by decide), if_neg (by simp; omega)]
    exact parse_zeros most hm z

theorem parse_printed (most : Int) (z u : Nat) : parseFrom most (List.replicate z 48 ++ Lib.decDigits u) 0 = if (u : Int) ≤ most then some (u : Int) else none := by
  by_cases hm : 0 ≤ most
  · rw [parse_append, parse_zeros most hm z, Option.bind_some, parse_dec]
  · rw [if_neg (by omega)]
    cases z with
    | zero => rw [List.replicate_zero, List.nil_append, parse_dec, if_neg (by omega)]
    | succ z => rw [List.replicate_succ, List.cons_append, parseFrom, if_pos (by decide), if_pos (by simp; omega)]

theorem dec_ne (u : Nat) : Lib.decDigits u ≠ [] := by rw [dec_ahead]; simp

theorem parsed (most : Int) (z u : Nat) : parseV (List.replicate z 48 ++ Lib.decDigits u) most = (if (u : Int) ≤ most then (u : Int) else 0) ∧ parseB (List.replicate z 48 ++ Lib.decDigits u) most = decide ((u : Int) ≤ most) := by
  have hne : (List.replicate z 48 ++ Lib.decDigits u).isEmpty = false := by
    rw [Bool.eq_false_iff]; intro h
    rw [List.isEmpty_iff, List.append_eq_nil_iff] at h
    exact dec_ne u h.2
  unfold parseV parseB
  rw [hne, parse_printed]
  by_cases h : (u : Int) ≤ most
  · simp [h]
  · simp [h]
end Go.Proofs.YthapbnlcodkalaaDoor
