/-
  Plain facts: a command's words.
-/
import Derived.Test.YtfecbepleeoibaaDoorPlainFits
import Derived.Test.YtfecbepleeoibaaDoorPrint
import Derived.Test.YtfecbepleeoibaaDoorJoin
import Derived.Lib.Join
namespace Go.Proofs.YtfecbepleeoibaaDoor
open Go.RowKit

/-- The word of a field. -/
def wordOf (c : Cm) (f : Nat) : List UInt8 := if f = 6 then c.tube else printL (numOf c f)
/-- A command's words. -/
def wordsOf (c : Cm) : List (List UInt8) := verbOf c.kind.toNat :: (formOf c.kind.toNat).map (wordOf c)
def printB (c : Cm) (n : Nat) : Bool := lineB c && (c.kind == 1 || n == 0)
def printE (c : Cm) (n : Nat) : Int := if printB c n then 0 else 72
def printS (c : Cm) (n : Nat) : List UInt8 := if printB c n then joinV (wordsOf c) else []

theorem line_kind' {c : Cm} (h : lineB c = true) : 1 ≤ c.kind ∧ c.kind ≤ 25 := by
  by_cases hk : 1 ≤ c.kind ∧ c.kind ≤ 25
  · exact hk
  · rw [line_kind c hk] at h; cases h
theorem line_num {c : Cm} (h : lineB c = true) (f : Nat) (hf : f < 6) : 0 ≤ numOf c f ∧ numOf c f ≤ mostIn (formOf c.kind.toNat) f := by
  by_cases h0 : numOf c f < 0 ∨ mostIn (formOf c.kind.toNat) f < numOf c f
  · rw [line_no c f hf h0] at h; cases h
  · omega
theorem line_tube {c : Cm} (h : lineB c = true) : (if (formOf c.kind.toNat).contains 6 then validB c.tube else c.tube.isEmpty) = true := by
  unfold lineB at h
  simp only [Bool.and_eq_true] at h
  exact h.2
theorem great_le (f : Nat) : 0 ≤ great f ∧ great f ≤ 4611686018427387903 := by
  match f with
  | 0 => decide
  | 1 => decide
  | 2 => decide
  | 3 => decide
  | 4 => decide
  | 5 => decide
  | n + 6 => exact ⟨by show (0 : Int) ≤ 0; decide, by show (0 : Int) ≤ 4611686018427387903; decide⟩
theorem most_le (l : List Nat) (f : Nat) : mostIn l f ≤ 4611686018427387903 := by
  unfold mostIn
  split
  · exact (great_le f).2
  · decide
theorem print_len (n : Int) (h0 : 0 ≤ n) (h1 : n ≤ 4611686018427387903) : (printL n).length ≤ 21 := by
  unfold printL
  rw [if_neg (by omega)]
  exact Lib.itoa_length_le n (by omega) (by omega)
theorem valid_len {l : List UInt8} (h : validB l = true) : l.length ≤ 200 := by
  simp [validB] at h
  omega
theorem word_len {c : Cm} (h : lineB c = true) (f : Nat) (hf : f ∈ formOf c.kind.toNat) : (wordOf c f).length ≤ 200 := by
  have hk := line_kind' h
  have hr := form_field c.kind.toNat (by omega) f hf
  unfold wordOf
  split
  · rename_i h6
    subst h6
    have ht := line_tube h
    rw [if_pos (by simpa using hf)] at ht
    exact valid_len ht
  · have hn := line_num h f (by omega)
    have := print_len (numOf c f) hn.1 (Int.le_trans hn.2 (most_le _ _))
    omega
theorem verb_len : ∀ k, k < 26 → (verbOf k).length ≤ 20 := by decide
theorem lens_le : ∀ (l : List (List UInt8)) (m : Nat), (∀ x ∈ l, x.length ≤ m) → Lib.lens l ≤ m * l.length
  | [], _, _ => by simp [Lib.lens]
  | x :: r, m, h => by
    have := lens_le r m (fun y hy => h y (by simp [hy]))
    have h0 := h x (by simp)
    have e : Lib.lens (x :: r) = x.length + Lib.lens r := by simp [Lib.lens]
    rw [e, List.length_cons, Nat.mul_succ]
    omega
theorem words_len {c : Cm} (h : lineB c = true) : (Lib.join (wordsOf c) [32]).length ≤ 2000 := by
  have hk := line_kind' h
  have hf := form_len c.kind.toNat (by omega)
  have := lens_le (wordsOf c) 200 (fun x hx => by
    rcases List.mem_cons.1 hx with rfl | hx
    · have := verb_len c.kind.toNat (by omega)
      omega
    · obtain ⟨f, hf, rfl⟩ := List.mem_map.1 hx
      exact word_len h f hf)
  unfold wordsOf at this ⊢
  rw [Lib.join_length]
  simp only [List.length_cons, List.length_map, List.length_nil] at this ⊢
  omega
end Go.Proofs.YtfecbepleeoibaaDoor
