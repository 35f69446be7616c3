/-
  The document's reading of a payload: its numbers, and that it reads as the program does. Nothing of the program.
-/
import Derived.Test.YtjnjaojafimfeaaPlainRec
namespace Go.Proofs.Ytjnjaojafimfeaa
open Go.RowKit

/-- The j-th number of bytes that begin with numbers; none: it is none, or not there. -/
def numO (r : List UInt8) (j : Nat) : Option Int :=
  match r[8 * j + 7]? with
  | none => none
  | some x => if 63 < x.toNat then none else some (val8 ((r.drop (8 * j)).take 8) : Int)
def setAll : List Nat → List Int → (Nat → Int) → (Nat → Int)
  | f :: fs, x :: xs, n => setAll fs xs (upd n f x)
  | _, _, n => n
theorem numO_succ (r : List UInt8) (j : Nat) : numO r (j + 1) = numO (r.drop 8) j := by
  unfold numO
  rw [List.getElem?_drop, List.drop_drop, show 8 * (j + 1) + 7 = 8 + (8 * j + 7) by omega, show 8 * (j + 1) = 8 + 8 * j by omega]
theorem val_top (l : List UInt8) (x : UInt8) (hl : 8 ≤ l.length) (h : l[7]? = some x) : x.toNat * 72057594037927936 ≤ val8 (l.take 8) ∧ val8 (l.take 8) < (x.toNat + 1) * 72057594037927936 := by
  match l, hl with
  | a :: b :: c :: d :: e :: f :: g :: y :: r, _ =>
    simp only [List.getElem?_cons_succ, List.getElem?_cons_zero, Option.some.injEq] at h
    subst h
    have := a.toNat_lt
    have := b.toNat_lt
    have := c.toNat_lt
    have := d.toNat_lt
    have := e.toNat_lt
    have := f.toNat_lt
    have := g.toNat_lt
    simp only [List.take_succ_cons, List.take_zero, val8]
    omega
theorem numO_zero_some {r : List UInt8} {v : Int} (h : numO r 0 = some v) : 8 ≤ r.length ∧ num8 (r.take 8) = v ∧ 0 ≤ v ∧ v ≤ 4611686018427387903 := by
  unfold numO at h
  split at h
  · cases h
  · rename_i x hx
    split at h
    · cases h
    · rename_i h63
      have hl := (List.getElem?_eq_some_iff.1 hx).1
      simp only [Nat.mul_zero, Nat.zero_add, List.drop_zero, Option.some.injEq] at h hx
      have ht := val_top r x (by omega) hx
      have hb : val8 (r.take 8) < 4611686018427387904 := by
        have : (x.toNat + 1) * 72057594037927936 ≤ 64 * 72057594037927936 := Nat.mul_le_mul_right _ (by omega)
        omega
      refine ⟨by omega, ?_, by omega, by omega⟩
      unfold num8
      rw [IntKind.wrap_i64]
      omega
theorem numO_zero_none {r : List UInt8} (h : numO r 0 = none) (hl : 8 ≤ r.length) : ¬ (0 ≤ num8 (r.take 8) ∧ num8 (r.take 8) ≤ 4611686018427387903) := by
  unfold numO at h
  split at h
  · rename_i hx
    rw [List.getElem?_eq_none_iff] at hx
    omega
  · rename_i x hx
    simp only [Nat.mul_zero, Nat.zero_add, List.drop_zero] at h hx
    split at h
    · rename_i h63
      have ht := val_top r x hl hx
      have hx8 := x.toNat_lt
      have h1 : 64 * 72057594037927936 ≤ x.toNat * 72057594037927936 := Nat.mul_le_mul_right _ (by omega)
      have h2 : (x.toNat + 1) * 72057594037927936 ≤ 256 * 72057594037927936 := Nat.mul_le_mul_right _ (by omega)
      unfold num8
      rw [IntKind.wrap_i64]
      omega
    · cases h
/-- All numbers are there. -/
theorem take_all : ∀ (fs : List Nat) (l : List Int) (r : List UInt8) (n : Nat → Int), l.length = fs.length → (∀ (j : Nat) x, l[j]? = some x → numO r j = some x) → takeN fs r n = some (setAll fs l n, r.drop (8 * fs.length)) ∧ 8 * fs.length ≤ r.length
  | [], [], r, n, _, _ => ⟨by simp [takeN, setAll], by simp⟩
  | f :: fs, x :: xs, r, n, hl, h => by
    have h0 := numO_zero_some (h 0 x (by simp))
    have ih := take_all fs xs (r.drop 8) (upd n f x) (by simpa using hl) (fun j y hy => by
      rw [← numO_succ]
      exact h (j + 1) y (by simpa using hy))
    have hd : (r.drop 8).length = r.length - 8 := by simp
    refine ⟨?_, by rw [List.length_cons]; omega⟩
    rw [takeN, if_neg (by omega), h0.2.1, ih.1, setAll, List.drop_drop, List.length_cons, show 8 + 8 * fs.length = 8 * (fs.length + 1) by omega]
theorem take_others : ∀ (fs : List Nat) (b : List UInt8) (n n' : Nat → Int) (rest : List UInt8), takeN fs b n = some (n', rest) → ∀ f, ¬ f ∈ fs → n' f = n f
  | [], b, n, n', rest, h, f, _ => by
    simp only [takeN, Option.some.injEq, Prod.mk.injEq] at h
    rw [h.1]
  | g :: fs, b, n, n', rest, h, f, hf => by
    rw [takeN] at h
    split at h
    · cases h
    · simp only [List.mem_cons, not_or] at hf
      rw [take_others fs _ _ n' rest h f hf.2]
      simp [upd, hf.1]
/-- One is not there, or is none. -/
theorem take_not : ∀ (fs : List Nat) (r : List UInt8) (n : Nat → Int), fs.Nodup → (∃ j, j < fs.length ∧ numO r j = none) → takeN fs r n = none ∨ ∃ n' rest, takeN fs r n = some (n', rest) ∧ ∃ f, f ∈ fs ∧ ¬ (0 ≤ n' f ∧ n' f ≤ 4611686018427387903)
  | [], r, n, _, ⟨j, hj, _⟩ => by simp at hj
  | f :: fs, r, n, hd, ⟨j, hj, hn⟩ => by
    by_cases hl : r.length < 8
    · left
      rw [takeN, if_pos hl]
    · rw [takeN, if_neg hl]
      match j, hj, hn with
      | j + 1, hj, hn =>
        rw [numO_succ] at hn
        rcases take_not fs (r.drop 8) (upd n f (num8 (r.take 8))) (List.nodup_cons.1 hd).2 ⟨j, by simpa using hj, hn⟩ with e | ⟨n', rest, e, g, hg, hb⟩
        · exact .inl e
        · exact .inr ⟨n', rest, e, g, by simp [hg], hb⟩
      | 0, hj, hn =>
        cases e : takeN fs (r.drop 8) (upd n f (num8 (r.take 8))) with
        | none => exact .inl rfl
        | some p =>
          obtain ⟨n', rest⟩ := p
          refine .inr ⟨n', rest, rfl, f, by simp, ?_⟩
          rw [take_others fs (r.drop 8) _ n' rest e f (List.nodup_cons.1 hd).1]
          have := numO_zero_none hn (by omega)
          simpa [upd] using this
theorem getK_bad {k : Int} {n : Nat → Int} {rest : List UInt8} {f : Nat} (hf : f ∈ fieldsL k) (h : ¬ (0 ≤ n f ∧ n f ≤ 4611686018427387903)) : getK k n rest = none := by
  have key : ∀ t m, checkE ⟨k, n, t⟩ m ≠ 0 := fun t m h0 => h (num_bound h0 hf)
  unfold getK
  split
  · split
    · rfl
    · exact if_neg (key _ _)
  · exact if_neg (key _ _)
/-- A payload whose numbers are not all there. -/
theorem get_not (c : UInt8) (r : List UInt8) (h : ∃ j, j < (fieldsL (c.toNat : Int)).length ∧ numO r j = none) : getP (c :: r) = none := by
  rcases take_not (fieldsL (c.toNat : Int)) r (fun _ => 0) (fields_nodup _) h with e | ⟨n', rest, e, f, hf, hb⟩
  · simp only [getP, e]
  · simp only [getP, e]
    exact getK_bad hf hb
theorem get_all (c : UInt8) (r : List UInt8) (l : List Int) (hl : l.length = (fieldsL (c.toNat : Int)).length) (h : ∀ (j : Nat) x, l[j]? = some x → numO r j = some x) :
    getP (c :: r) = getK (c.toNat : Int) (setAll (fieldsL (c.toNat : Int)) l (fun _ => 0)) (r.drop (8 * (fieldsL (c.toNat : Int)).length)) ∧ 8 * (fieldsL (c.toNat : Int)).length ≤ r.length := by
  have := take_all (fieldsL (c.toNat : Int)) l r (fun _ => 0) hl h
  refine ⟨?_, this.2⟩
  simp only [getP, this.1]
/-- A payload of no kind. -/
theorem get_kindless (c : UInt8) (r : List UInt8) (h : c.toNat < 1 ∨ 4 < c.toNat) : getP (c :: r) = none := by
  have hf : fieldsL (c.toNat : Int) = [] := by
    unfold fieldsL
    rw [if_neg (by omega), if_neg (by omega), if_neg (by omega), if_neg (by omega)]
  simp only [getP, hf, takeN, getK]
  rw [if_neg (by omega)]
  apply if_neg
  unfold checkE
  rw [if_pos (by unfold withinB; rw [Bool.and_eq_false_iff]; simp only [decide_eq_false_iff_not]; omega)]
  decide
theorem fin_rest {k : Int} {n : Nat → Int} {rest : List UInt8} (hk : k ≠ 2) (h : rest ≠ []) : fin ⟨k, n, []⟩ rest = none := by
  apply if_neg
  intro h0
  have ht := (check_ok h0).2.2.2
  simp only [textB] at ht
  rw [if_neg hk, Bool.and_eq_true, beq_iff_eq, beq_iff_eq] at ht
  exact h (List.eq_nil_of_length_eq_zero ht.2)
end Go.Proofs.Ytjnjaojafimfeaa
