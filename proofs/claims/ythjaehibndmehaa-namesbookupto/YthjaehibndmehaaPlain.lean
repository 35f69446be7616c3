/-
  Plain facts for layer 5 (names): which texts may be names. Nothing of the program.
-/
import Derived.WalkKit
import Derived.Lib.Bytealg
namespace Go.Proofs.Ythjaehibndmehaa
open Go.RowKit

/-- The bytes that a name may have besides letters and figures. -/
def others : List UInt8 := [45, 43, 47, 59, 46, 36, 95, 40, 41]
/-- A byte that a name may have. -/
def okn (c : UInt8) : Bool := (decide (97 ≤ c.toNat) && decide (c.toNat ≤ 122)) || (decide (65 ≤ c.toNat) && decide (c.toNat ≤ 90)) || (decide (48 ≤ c.toNat) && decide (c.toNat ≤ 57)) || others.contains c
/-- May a text be a name? -/
def validB (l : List UInt8) : Bool := decide (1 ≤ l.length) && decide (l.length ≤ 200) && !(l.head? == some 45) && l.all okn

theorem index_has (c : UInt8) : ∀ l : List UInt8, decide (0 ≤ Lib.indexByte l c) = l.contains c
  | [] => by simp [Lib.indexByte]
  | b :: l => by
    have ih := index_has c l
    have hge := Lib.indexByte_ge l c
    unfold Lib.indexByte
    by_cases h : b = c
    · subst h
      simp
    · have h2 : (c == b) = false := beq_eq_false_iff_ne.2 fun e => h e.symm
      rw [List.contains_cons, h2, Bool.false_or, ← ih, if_neg (by simpa using h)]
      by_cases h3 : Lib.indexByte l c = -1
      · simp [h3]
      · rw [if_neg (by simpa using h3)]
        have : 0 ≤ Lib.indexByte l c := by omega
        simp [this]
        omega
theorem index_others (c : UInt8) : decide (0 ≤ Lib.indexByte others c) = others.contains c := index_has c others
theorem okn_in {c : UInt8} (h : 97 ≤ c.toNat ∧ c.toNat ≤ 122 ∨ 65 ≤ c.toNat ∧ c.toNat ≤ 90 ∨ 48 ≤ c.toNat ∧ c.toNat ≤ 57) : okn c = true := by
  unfold okn
  rcases h with ⟨h, k⟩ | ⟨h, k⟩ | ⟨h, k⟩ <;> simp [h, k]
theorem okn_out {c : UInt8} (h : c.toNat < 97 ∨ 122 < c.toNat) (k : c.toNat < 65 ∨ 90 < c.toNat) (l : c.toNat < 48 ∨ 57 < c.toNat) : okn c = others.contains c := by
  unfold okn
  rw [show (decide (97 ≤ c.toNat) && decide (c.toNat ≤ 122)) = false by simp; omega, show (decide (65 ≤ c.toNat) && decide (c.toNat ≤ 90)) = false by simp; omega, show (decide (48 ≤ c.toNat) && decide (c.toNat ≤ 57)) = false by simp; omega]
  simp
/-- A letter or a figure. -/
def alnum (c : UInt8) : Bool := (decide (97 ≤ c.toNat) && decide (c.toNat ≤ 122)) || (decide (65 ≤ c.toNat) && decide (c.toNat ≤ 90)) || (decide (48 ≤ c.toNat) && decide (c.toNat ≤ 57))
theorem okn_alnum (c : UInt8) : okn c = (alnum c || others.contains c) := rfl
theorem alnum_in {c : UInt8} (h : 97 ≤ c.toNat ∧ c.toNat ≤ 122 ∨ 65 ≤ c.toNat ∧ c.toNat ≤ 90 ∨ 48 ≤ c.toNat ∧ c.toNat ≤ 57) : alnum c = true := by
  unfold alnum
  rcases h with ⟨h, k⟩ | ⟨h, k⟩ | ⟨h, k⟩ <;> simp [h, k]
theorem alnum_out {c : UInt8} (h : c.toNat < 97 ∨ 122 < c.toNat) (k : c.toNat < 65 ∨ 90 < c.toNat) (l : c.toNat < 48 ∨ 57 < c.toNat) : alnum c = false := by
  unfold alnum
  rw [show (decide (97 ≤ c.toNat) && decide (c.toNat ≤ 122)) = false by simp; omega, show (decide (65 ≤ c.toNat) && decide (c.toNat ≤ 90)) = false by simp; omega, show (decide (48 ≤ c.toNat) && decide (c.toNat ≤ 57)) = false by simp; omega]
  rfl
/-- The bytes besides letters and figures, as a text. -/
def otherB : ByteArray := ⟨#[45, 43, 47, 59, 46, 36, 95, 40, 41]⟩
theorem others_step {c : UInt8} {k : Nat} (h : k < otherB.size) : (others.take (k + 1)).contains c = ((others.take k).contains c || decide (c.toNat = otherB[k].toNat)) := by
  have hk : k < others.length := h
  show _ = (_ || decide (c.toNat = others[k].toNat))
  rw [List.take_succ_eq_append_getElem hk, List.contains_eq_any_beq, List.any_append, ← List.contains_eq_any_beq]
  congr 1
  by_cases h2 : c = others[k]
  · simp [h2]
  · simp [h2, UInt8.toNat_inj]
theorem take_snoc (s : ByteArray) (k : Nat) (h : k < s.size) : s.data.toList.take (k + 1) = s.data.toList.take k ++ [s[k]] := by
  rw [List.take_succ_eq_append_getElem (by simpa using h)]; rfl
theorem valid_step (s : ByteArray) (k : Nat) (h : k < s.size) (ha : (s.data.toList.take k).all okn = true) (h1 : okn s[k] = true) : (s.data.toList.take (k + 1)).all okn = true := by
  rw [take_snoc s k h, List.all_append, ha]; simp [h1]
theorem valid_no (s : ByteArray) (k : Nat) (h : k < s.size) (h1 : okn s[k] = false) : validB s.data.toList = false := by
  have hm : s[k] ∈ s.data.toList := by
    have : s[k] = s.data[k] := rfl
    rw [this]; simp
  have : s.data.toList.all okn = false := by
    rw [List.all_eq_false]
    exact ⟨s[k], hm, by simp [h1]⟩
  simp [validB, this]
theorem head_of (s : ByteArray) (h : 0 < s.size) : s.data.toList.head? = some s[0] := by
  rw [List.head?_eq_getElem?, List.getElem?_eq_getElem (by simpa using h)]; rfl
theorem valid_short (s : ByteArray) (h : s.size < 1) : validB s.data.toList = false := by
  have : s.data.toList.length = s.size := by simp
  simp [validB]; omega
theorem valid_long (s : ByteArray) (h : 200 < s.size) : validB s.data.toList = false := by
  have : s.data.toList.length = s.size := by simp
  have : ¬ s.data.toList.length ≤ 200 := by omega
  unfold validB
  rw [decide_eq_false this]
  simp
theorem valid_dash (s : ByteArray) (h : 0 < s.size) (h1 : s[0].toNat = 45) : validB s.data.toList = false := by
  have e : s[0] = 45 := UInt8.toNat_inj.1 (by rw [h1]; rfl)
  simp [validB, head_of s h, e]
theorem valid_end (s : ByteArray) (k : Nat) (h : ¬ k < s.size) (h0 : 1 ≤ s.size) (h2 : s.size ≤ 200) (h1 : s[0].toNat ≠ 45) (ha : (s.data.toList.take k).all okn = true) : validB s.data.toList = true := by
  rw [List.take_of_length_le (by simp; omega)] at ha
  have e : s[0] ≠ 45 := fun e => h1 (by rw [e]; rfl)
  have : s.data.toList.length = s.size := by simp
  have i1 : 1 ≤ s.data.toList.length := by omega
  have i2 : s.data.toList.length ≤ 200 := by omega
  unfold validB
  rw [ha, head_of s h0, decide_eq_true i1, decide_eq_true i2]
  simp [e]
end Go.Proofs.Ythjaehibndmehaa
