/-
  Plain facts for layer 7 (verbs): the table, and how a line is read. Nothing of the program.
-/
import Derived.Test.YtfecbepleeoibaaDoorPlainSplit
import Derived.Test.YtfecbepleeoibaaDoorPlainNames
import Derived.Lib.CutLaws
namespace Go.Proofs.YtfecbepleeoibaaDoor
open Go.RowKit

/-- The verbs, and the fields behind them, by kinds. -/
def verbT : List (List UInt8) := [[], [112, 117, 116], [117, 115, 101], [114, 101, 115, 101, 114, 118, 101], [114, 101, 115, 101, 114, 118, 101, 45, 119, 105, 116, 104, 45, 116, 105, 109, 101, 111, 117, 116], [114, 101, 115, 101, 114, 118, 101, 45, 106, 111, 98], [100, 101, 108, 101, 116, 101], [114, 101, 108, 101, 97, 115, 101], [98, 117, 114, 121], [116, 111, 117, 99, 104], [119, 97, 116, 99, 104], [105, 103, 110, 111, 114, 101], [112, 101, 101, 107], [112, 101, 101, 107, 45, 114, 101, 97, 100, 121], [112, 101, 101, 107, 45, 100, 101, 108, 97, 121, 101, 100], [112, 101, 101, 107, 45, 98, 117, 114, 105, 101, 100], [107, 105, 99, 107], [107, 105, 99, 107, 45, 106, 111, 98], [115, 116, 97, 116, 115, 45, 106, 111, 98], [115, 116, 97, 116, 115, 45, 116, 117, 98, 101], [115, 116, 97, 116, 115], [108, 105, 115, 116, 45, 116, 117, 98, 101, 115], [108, 105, 115, 116, 45, 116, 117, 98, 101, 45, 117, 115, 101, 100], [108, 105, 115, 116, 45, 116, 117, 98, 101, 115, 45, 119, 97, 116, 99, 104, 101, 100], [112, 97, 117, 115, 101, 45, 116, 117, 98, 101], [113, 117, 105, 116]]
def fldT : List (List Nat) := [[0, 0, 0, 0], [2, 3, 4, 5], [6, 0, 0, 0], [0, 0, 0, 0], [5, 0, 0, 0], [1, 0, 0, 0], [1, 0, 0, 0], [1, 2, 3, 0], [1, 2, 0, 0], [1, 0, 0, 0], [6, 0, 0, 0], [6, 0, 0, 0], [1, 0, 0, 0], [0, 0, 0, 0], [0, 0, 0, 0], [0, 0, 0, 0], [5, 0, 0, 0], [1, 0, 0, 0], [1, 0, 0, 0], [6, 0, 0, 0], [0, 0, 0, 0], [0, 0, 0, 0], [0, 0, 0, 0], [0, 0, 0, 0], [6, 5, 0, 0], [0, 0, 0, 0]]
def verbOf (k : Nat) : List UInt8 := verbT.getD k []
def fldOf (k j : Nat) : Nat := (fldT.getD k []).getD j 0
def formOf (k : Nat) : List Nat := (fldT.getD k []).filter (fun f => f != 0)
/-- How great a field's number may be. -/
def great (f : Nat) : Int := ([0, 4611686018427387903, 4294967295, 4294967295, 4294967295, 4294967295] : List Int).getD f 0

/-- A command but for its body. -/
structure Cm where
  kind : Int
  id : Int
  pri : Int
  delay : Int
  ttr : Int
  number : Int
  tube : List UInt8

/-- The first kind from k on that has a verb. -/
def kindFrom (v : List UInt8) : Nat → Nat → Nat
  | 0, _ => 0
  | n + 1, k => if verbOf k = v then k else kindFrom v n (k + 1)
def kindL (v : List UInt8) : Nat := kindFrom v 25 1

theorem kind_verb : ∀ k, k < 26 → 1 ≤ k → kindL (verbOf k) = k := by decide
theorem kindFrom_le (v : List UInt8) : ∀ n k, kindFrom v n k = 0 ∨ k ≤ kindFrom v n k ∧ kindFrom v n k < k + n
  | 0, _ => .inl rfl
  | n + 1, k => by
    rw [kindFrom]
    split
    · exact .inr ⟨Nat.le_refl _, by omega⟩
    · rcases kindFrom_le v n (k + 1) with h | h
      · exact .inl h
      · exact .inr (by omega)
theorem kindL_le (v : List UInt8) : kindL v ≤ 25 := by
  have := kindFrom_le v 25 1
  unfold kindL
  omega
theorem kindFrom_verb (v : List UInt8) : ∀ n k, 1 ≤ k → kindFrom v n k ≠ 0 → verbOf (kindFrom v n k) = v
  | 0, _, _, h => absurd rfl h
  | n + 1, k, hk, h => by
    rw [kindFrom] at h ⊢
    split
    · assumption
    · rename_i hn
      rw [if_neg hn] at h
      exact kindFrom_verb v n (k + 1) (by omega) h
theorem kindL_verb (v : List UInt8) (h : kindL v ≠ 0) : verbOf (kindL v) = v := kindFrom_verb v 25 1 (Nat.le_refl _) h
theorem kind_step (v : List UInt8) (k : Nat) (hk : k ≤ 25) (hv : verbOf k ≠ v) (h : kindFrom v (26 - k) k = kindL v) : kindFrom v (26 - (k + 1)) (k + 1) = kindL v := by
  rw [show 26 - k = (26 - (k + 1)) + 1 by omega, kindFrom, if_neg hv] at h
  exact h
theorem kind_here (v : List UInt8) (k : Nat) (hk : k ≤ 25) (hv : verbOf k = v) (h : kindFrom v (26 - k) k = kindL v) : kindL v = k := by
  rw [show 26 - k = (26 - (k + 1)) + 1 by omega, kindFrom, if_pos hv] at h
  exact h.symm
theorem kind_out (v : List UInt8) (k : Nat) (hk : 25 < k) (h : kindFrom v (26 - k) k = kindL v) : kindL v = 0 := by
  rw [show 26 - k = 0 by omega, kindFrom] at h
  exact h.symm

theorem form_len : ∀ k, k < 26 → (formOf k).length ≤ 4 := by decide
theorem form_field : ∀ k, k < 26 → ∀ f ∈ formOf k, 1 ≤ f ∧ f ≤ 6 := by decide
theorem form_nodup : ∀ k, k < 26 → (formOf k).Nodup := by decide
theorem fld_le : ∀ k, k < 26 → ∀ j, j < 4 → fldOf k j ≤ 6 := by decide
/-- The fields among the first j places. -/
def formTo (k j : Nat) : List Nat := ((List.range j).map (fldOf k)).filter (fun f => f != 0)
theorem formTo_all : ∀ k, k < 26 → formTo k 4 = formOf k := by decide
theorem formTo_zero (k : Nat) : formTo k 0 = [] := rfl
theorem formTo_step (k j : Nat) : formTo k (j + 1) = formTo k j ++ (if fldOf k j = 0 then [] else [fldOf k j]) := by
  unfold formTo
  rw [List.range_succ, List.map_append, List.filter_append]
  congr 1
  by_cases h : fldOf k j = 0 <;> simp [h]
theorem formTo_len (k j : Nat) : (formTo k j).length ≤ j := by
  unfold formTo
  exact Nat.le_trans (List.length_filter_le _ _) (by simp)

def upd (v : Nat → Int) (f : Nat) (x : Int) : Nat → Int := fun i => if i = f then x else v i
/-- The words behind a verb, read into its fields. -/
def fill : List Nat → List (List UInt8) → (Nat → Int) → List UInt8 → Option ((Nat → Int) × List UInt8)
  | [], _, v, t => some (v, t)
  | _ :: _, [], _, _ => none
  | f :: fs, w :: ws, v, t => if f = 6 then (if validB w then fill fs ws v w else none) else (if parseB w (great f) then fill fs ws (upd v f (parseV w (great f))) t else none)
def zeros : Nat → Int := fun _ => 0
/-- A line, read as one of a kind. -/
def readL (k : Nat) (l : List UInt8) : Option ((Nat → Int) × List UInt8) :=
  match splitL l with
  | none => none
  | some ws => if ws.length = (formOf k).length + 1 then fill (formOf k) (ws.drop 1) zeros [] else none
def mkC (k : Nat) (v : Nat → Int) (t : List UInt8) : Cm := ⟨k, v 1, v 2, v 3, if k = 1 then max (v 4) 1 else v 4, v 5, t⟩
def zeroC : Cm := ⟨0, 0, 0, 0, 0, 0, []⟩
def firstL (l : List UInt8) : List UInt8 := (Lib.cut l [32]).1
def parseE (l : List UInt8) : Int := if kindL (firstL l) = 0 then 70 else match readL (kindL (firstL l)) l with
  | none => 71
  | some _ => 0
def parseC (l : List UInt8) : Cm := if kindL (firstL l) = 0 then zeroC else match readL (kindL (firstL l)) l with
  | none => zeroC
  | some (v, t) => mkC (kindL (firstL l)) v t

theorem pieces_count : ∀ (l cur : List UInt8), (pieces l cur).length = Lib.countByte l 32 + 1
  | [], cur => by simp [pieces, Lib.countByte]
  | c :: r, cur => by
    rw [pieces]
    by_cases h : c.toNat = 32
    · have hc : c = 32 := UInt8.toNat_inj.1 h
      rw [if_pos h, List.length_cons, pieces_count r []]
      simp [Lib.countByte, hc]
    · have hc : c ≠ 32 := fun e => h (by rw [e]; rfl)
      rw [if_neg h, pieces_count r _]
      simp [Lib.countByte, hc]
theorem split_count {l : List UInt8} {ws : List (List UInt8)} (h : splitL l = some ws) : ws.length = Lib.countByte l 32 + 1 := by
  unfold splitL at h
  split at h
  · rw [← Option.some.inj h, pieces_count]
  · cases h
theorem read_count {k : Nat} {l : List UInt8} (h : Lib.countByte l 32 ≠ (formOf k).length) : readL k l = none := by
  unfold readL
  split
  · rfl
  · rename_i ws hs
    rw [if_neg (by rw [split_count hs]; omega)]
theorem read_split {k : Nat} {l : List UInt8} (h : splitL l = none) : readL k l = none := by
  unfold readL
  rw [h]
theorem read_fill {k : Nat} {l : List UInt8} {ws : List (List UInt8)} (h : splitL l = some ws) (hc : Lib.countByte l 32 = (formOf k).length) : readL k l = fill (formOf k) (ws.drop 1) zeros [] := by
  unfold readL
  rw [h]
  simp only []
  rw [if_pos (by rw [split_count h, hc])]
end Go.Proofs.YtfecbepleeoibaaDoor
