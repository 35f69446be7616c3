/-
  The order of texts. Nothing of the program.
-/
import Derived.Test.YthjaehibndmehaaPlain
namespace Go.Proofs.Ythjaehibndmehaa
open Go.RowKit

abbrev less (a b : List UInt8) : Bool := Op.bytesLess a b
theorem less_irrefl : ∀ a, less a a = false
  | [] => rfl
  | x :: a => by simp [less, Op.bytesLess]; exact less_irrefl a
theorem less_cons {x y : UInt8} {a b : List UInt8} : less (x :: a) (y :: b) = true ↔ x < y ∨ x = y ∧ less a b = true := by
  simp [less, Op.bytesLess]
theorem u8_lt {x y : UInt8} : x < y ↔ x.toNat < y.toNat := Iff.rfl
theorem u8_eq {x y : UInt8} : x = y ↔ x.toNat = y.toNat := UInt8.toNat_inj.symm
theorem less_trans : ∀ {a b c : List UInt8}, less a b = true → less b c = true → less a c = true
  | a, [], c, h, _ => by cases a <;> simp [less, Op.bytesLess] at h
  | a, _ :: _, [], _, h => by simp [less, Op.bytesLess] at h
  | [], _ :: _, _ :: _, _, _ => rfl
  | x :: a, y :: b, z :: c, h, k => by
    rw [less_cons] at *
    rw [u8_lt, u8_eq] at *
    rcases h with h | ⟨h, h2⟩ <;> rcases k with k | ⟨k, k2⟩
    · left; omega
    · left; omega
    · left; omega
    · right; exact ⟨by omega, less_trans h2 k2⟩
theorem less_total : ∀ {a b : List UInt8}, less a b = false → a ≠ b → less b a = true
  | [], [], _, h => absurd rfl h
  | [], _ :: _, h, _ => by simp [less, Op.bytesLess] at h
  | _ :: _, [], _, _ => rfl
  | x :: a, y :: b, h, k => by
    rw [less_cons]
    have h' : ¬ (x < y ∨ x = y ∧ less a b = true) := by rw [← less_cons, h]; simp
    by_cases e : x = y
    · subst e
      right
      refine ⟨rfl, less_total ?_ (fun e => k (by rw [e]))⟩
      cases hl : less a b with
      | false => rfl
      | true => exact absurd (.inr ⟨rfl, hl⟩) h'
    · left
      rw [u8_lt, u8_eq] at *
      omega
theorem less_asymm {a b : List UInt8} (h : less a b = true) (k : less b a = true) : False := by
  have := less_trans h k
  rw [less_irrefl] at this
  cases this
theorem less_ne {a b : List UInt8} (h : less a b = true) : a ≠ b := by
  rintro rfl
  rw [less_irrefl] at h
  cases h
theorem cmp_less : ∀ (a b : List UInt8), decide (Lib.compareBytes a b < 0) = less a b
  | [], [] => rfl
  | [], _ :: _ => rfl
  | _ :: _, [] => rfl
  | x :: a, y :: b => by
    unfold Lib.compareBytes less Op.bytesLess
    by_cases h : x < y
    · simp [h]
    · rw [if_neg h]
      by_cases k : y < x
      · have : (x == y) = false := beq_eq_false_iff_ne.2 (fun e => by subst e; exact h k)
        simp [h, k, this]
      · have : x = y := by rw [u8_lt] at *; rw [u8_eq]; omega
        subst this
        have ih := cmp_less a b
        simp [h] at ih ⊢
        exact ih

abbrev Text := List UInt8
/-- A name, and how often it is held. -/
abbrev RowT := Text × Int
/-- The rows of a book, the names rising. -/
structure Listed (g : Text → Option Int) (S : List RowT) : Prop where
  up : S.Pairwise (fun x y => less x.1 y.1 = true)
  mem : ∀ t v, (t, v) ∈ S ↔ g t = some v
theorem up_unique : ∀ (S S' : List RowT), S.Pairwise (fun x y => less x.1 y.1 = true) → S'.Pairwise (fun x y => less x.1 y.1 = true) → (∀ x, x ∈ S ↔ x ∈ S') → S = S'
  | [], [], _, _, _ => rfl
  | [], b :: S', _, _, h => absurd ((h b).2 (by simp)) (by simp)
  | a :: S, [], _, _, h => absurd ((h a).1 (by simp)) (by simp)
  | a :: S, b :: S', h, h', hm => by
    obtain ⟨h1, h2⟩ := List.pairwise_cons.1 h
    obtain ⟨k1, k2⟩ := List.pairwise_cons.1 h'
    have hab : a = b := by
      have ma := (hm a).1 (by simp)
      have mb := (hm b).2 (by simp)
      rcases List.mem_cons.1 ma with e | ma
      · exact e
      · rcases List.mem_cons.1 mb with e | mb
        · exact e.symm
        · exact (less_asymm (k1 a ma) (h1 b mb)).elim
    subst hab
    rw [up_unique S S' h2 k2 (fun x => ?_)]
    have n1 : a ∉ S := fun m => by have := h1 a m; rw [less_irrefl] at this; cases this
    have n2 : a ∉ S' := fun m => by have := k1 a m; rw [less_irrefl] at this; cases this
    constructor
    · intro m
      rcases List.mem_cons.1 ((hm x).1 (List.mem_cons_of_mem _ m)) with e | m'
      · exact absurd (e ▸ m) n1
      · exact m'
    · intro m
      rcases List.mem_cons.1 ((hm x).2 (List.mem_cons_of_mem _ m)) with e | m'
      · exact absurd (e ▸ m) n2
      · exact m'
theorem Listed.unique {g : Text → Option Int} {S S' : List RowT} (h : Listed g S) (k : Listed g S') : S = S' :=
  up_unique S S' h.up k.up (fun ⟨t, v⟩ => (h.mem t v).trans (k.mem t v).symm)
end Go.Proofs.Ythjaehibndmehaa
