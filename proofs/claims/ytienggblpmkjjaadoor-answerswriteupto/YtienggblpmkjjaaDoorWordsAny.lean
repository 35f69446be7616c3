/-
  The words of a right reply's line, joined.
-/
import Derived.Test.YtienggblpmkjjaaDoorWords
import Derived.Test.YtienggblpmkjjaaDoorJoin
import Derived.Test.YtienggblpmkjjaaDoorPlainBd
import Derived.Test.YtienggblpmkjjaaDoorReadA
namespace Go.Proofs.YtienggblpmkjjaaDoor
open Go.RowKit

set_option maxRecDepth 100000 in
theorem okn_okc : ∀ c : UInt8, okn c = true → okc c = true := by
  have : ∀ n : Fin 256, okn (UInt8.ofNat n.1) = true → okc (UInt8.ofNat n.1) = true := by decide
  intro c h
  have := this ⟨c.toNat, UInt8.toNat_lt c⟩
  simpa using this (by simpa using h)
theorem dec_word (n : Int) : wordB (decL n) = true := by
  have h1 := dec_ne n.toNat
  unfold wordB decL
  rw [Bool.and_eq_true]
  refine ⟨by simpa using h1, List.all_eq_true.2 (fun c hc => ?_)⟩
  have := digit_of c hc
  unfold okc
  simp
  omega
theorem print_decL {n : Int} (h : 0 ≤ n) : printL n = decL n := print_dec h
theorem wordOf_word : ∀ k, k < 24 → 1 ≤ k → wordB (wordOf k) = true := by decide
theorem bare : ∀ k, k < 24 → k ≠ 1 ∧ k ≠ 2 ∧ k ≠ 3 ∧ k ≠ 10 ∧ k ≠ 12 ∧ k ≠ 13 ∧ k ≠ 16 → idOf k = 0 ∧ nuOf k = 0 ∧ boOf k = 0 ∧ tuOf k = false := by decide
theorem name_word {l : List UInt8} (h : validB l = true) : wordB l = true := by
  unfold validB at h
  unfold wordB
  simp only [Bool.and_eq_true, decide_eq_true_eq, List.all_eq_true] at h ⊢
  refine ⟨?_, fun c hc => okn_okc c (h.2 c hc)⟩
  cases l with
  | nil => simp at h
  | cons => rfl
theorem join1 (a : List UInt8) : Lib.join [a] [32] = a := by simp [Lib.join]
theorem join2 (a b : List UInt8) : Lib.join [a, b] [32] = a ++ 32 :: b := by simp [Lib.join]
theorem join3 (a b c : List UInt8) : Lib.join [a, b, c] [32] = a ++ 32 :: (b ++ 32 :: c) := by simp [Lib.join]
/-- What wordsOf tells of a right reply. -/
def WordsPost (r : Rp) (b : Value) (w : World) (x : Ending) (w' : World) : Prop := ∃ v ws, x = .returned v ∧ Wk w w' r.kind r.id r.num ⟨r.tube.toArray⟩ b v ws ∧ joinB (ws.map (·.data.toList)) = true ∧ Lib.join (ws.map (·.data.toList)) [32] = wordOf r.kind.toNat ++ fieldsL r ∧ ws.length ≤ 3 ∧ 0 < ws.length
theorem words_any (w : World) (r : Rp) (a : Option Addr) (c : Nat) (hT : Tabs w) (hr : rightB r = true) :
    Calls Tryd.prog 37 #[rpV r (.slice a r.body.length c)] w (WordsPost r (.slice a r.body.length c) w) := by
  have hf := right_facts hr
  obtain ⟨k, hk⟩ : ∃ k : Nat, r.kind = k := ⟨r.kind.toNat, by omega⟩
  obtain ⟨kind, id, num, tube, body⟩ := r
  simp only at hk hf
  subst hk
  rw [Int.toNat_natCast] at hf
  obtain ⟨h1, h2, h3, h4, h5, h6, h7, h8⟩ := hf
  obtain ⟨t1, t2, t3, t4, t5, t6⟩ := table k (by omega)
  have hi0 : -9223372036854775808 ≤ id := by omega
  have hi1 : id ≤ 9223372036854775807 := by omega
  have hn0 : -9223372036854775808 ≤ num := by omega
  have hn1 : num ≤ 9223372036854775807 := by omega
  have hz : 0 ≤ id := by omega
  have hl : body.length ≤ 9223372036854775807 := by omega
  have hw := wordOf_word k (by omega) (by omega)
  have pi : printL id = decL id := print_decL hz
  have pn : printL num = decL num := print_decL h5
  have pb : printL (body.length : Int) = decL (body.length : Int) := print_decL (by omega)
  have di := dec_word id
  have dn := dec_word num
  have db := dec_word (body.length : Int)
  have hc : k = 1 ∨ k = 2 ∨ k = 3 ∨ k = 10 ∨ k = 12 ∨ k = 13 ∨ k = 16 ∨ (k ≠ 1 ∧ k ≠ 2 ∧ k ≠ 3 ∧ k ≠ 10 ∧ k ≠ 12 ∧ k ≠ 13 ∧ k ≠ 16) := by omega
  rcases hc with rfl | rfl | rfl | rfl | rfl | rfl | rfl | hne
  · refine (words_1 w id num ⟨tube.toArray⟩ a body.length c hT hi0 hi1).mono ?_
    rintro x w' ⟨v, rfl, hW⟩
    refine ⟨v, _, rfl, hW, by simp [joinB, hw, pi, di], ?_, by simp, by simp⟩
    simp only [List.map_cons, List.map_nil, pi, join2]
    simp [fieldsL, idOf, nuOf, boOf, tuOf]
  · refine (words_2 w id num ⟨tube.toArray⟩ a body.length c hT).mono ?_
    rintro x w' ⟨v, rfl, hW⟩
    have ht : wordB tube = true := name_word (by simpa [tuOf] using h8)
    refine ⟨v, _, rfl, hW, by simp [joinB, hw, ht], ?_, by simp, by simp⟩
    simp only [List.map_cons, List.map_nil, join2]
    simp [fieldsL, idOf, nuOf, boOf, tuOf]
  · refine (words_3 w id num ⟨tube.toArray⟩ a body.length c hT hi0 hi1 hl).mono ?_
    rintro x w' ⟨v, rfl, hW⟩
    refine ⟨v, _, rfl, hW, by simp [joinB, hw, pi, di, pb, db], ?_, by simp, by simp⟩
    simp only [List.map_cons, List.map_nil, pi, pb, join3]
    simp [fieldsL, idOf, nuOf, boOf, tuOf]
  · refine (words_10 w id num ⟨tube.toArray⟩ a body.length c hT hn0 hn1).mono ?_
    rintro x w' ⟨v, rfl, hW⟩
    refine ⟨v, _, rfl, hW, by simp [joinB, hw, pn, dn], ?_, by simp, by simp⟩
    simp only [List.map_cons, List.map_nil, pn, join2]
    simp [fieldsL, idOf, nuOf, boOf, tuOf]
  · refine (words_12 w id num ⟨tube.toArray⟩ a body.length c hT hi0 hi1 hl).mono ?_
    rintro x w' ⟨v, rfl, hW⟩
    refine ⟨v, _, rfl, hW, by simp [joinB, hw, pi, di, pb, db], ?_, by simp, by simp⟩
    simp only [List.map_cons, List.map_nil, pi, pb, join3]
    simp [fieldsL, idOf, nuOf, boOf, tuOf]
  · refine (words_13 w id num ⟨tube.toArray⟩ a body.length c hT hn0 hn1).mono ?_
    rintro x w' ⟨v, rfl, hW⟩
    refine ⟨v, _, rfl, hW, by simp [joinB, hw, pn, dn], ?_, by simp, by simp⟩
    simp only [List.map_cons, List.map_nil, pn, join2]
    simp [fieldsL, idOf, nuOf, boOf, tuOf]
  · refine (words_16 w id num ⟨tube.toArray⟩ a body.length c hT hl).mono ?_
    rintro x w' ⟨v, rfl, hW⟩
    refine ⟨v, _, rfl, hW, by simp [joinB, hw, pb, db], ?_, by simp, by simp⟩
    simp only [List.map_cons, List.map_nil, pb, join2]
    simp [fieldsL, idOf, nuOf, boOf, tuOf]
  · refine (words_0 w k (by omega) hne id num ⟨tube.toArray⟩ a body.length c hT).mono ?_
    rintro x w' ⟨v, rfl, hW⟩
    obtain ⟨q1, q2, q3, q4⟩ := bare k (by omega) hne
    refine ⟨v, _, rfl, hW, by simp [joinB, hw], ?_, by simp, by simp⟩
    simp only [List.map_cons, List.map_nil, join1]
    simp [fieldsL, q1, q2, q3, q4]
end Go.Proofs.YtienggblpmkjjaaDoor
