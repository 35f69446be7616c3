/-
  For ScriptRemarks.
-/
import Derived.Test.YteecmbpabkndlaaDoorSameS
import Derived.Test.YteecmbpabkndlaaDoorShown19
import Derived.Test.YteecmbpabkndlaaDoorPlainRemark
namespace Go.Proofs.YteecmbpabkndlaaDoor
open Go.RowKit

theorem run_few : ∀ (l : List Tx) (st st' : Rd) (n : Int), runP st n l = .ok st' → st.steps.length ≤ 4000 → st'.steps.length ≤ 4000
  | [], st, st', n, h, hf => by
    rw [runP] at h
    cases h
    exact hf
  | x :: r, st, st', n, h, hf => by
    rw [runP] at h
    cases hl : lineP st x with
    | error c => rw [hl] at h; cases h
    | ok s1 =>
      rw [hl] at h
      exact run_few r s1 st' _ h (line_few hl hf)
theorem parse_few (t : Tx) : (parseP t).1.steps.length ≤ 4000 := by
  unfold parseP
  split
  · simp [rd0]
  · split
    · simp [rd0]
    · rename_i st hr
      split
      · exact run_few _ _ _ _ hr (by simp [rd0])
      · simp [rd0]
theorem parse_line (t : Tx) : 0 ≤ (parseP t).2.1 ∧ (parseP t).2.1 ≤ 1048577 := by
  have hb : ∀ (l : List Tx) (st : Rd) (n k c : Int), runP st n l = .error (k, c) → k ≤ n + l.length := by
    intro l
    induction l with
    | nil => intro st n k c h; rw [runP] at h; cases h
    | cons x r ih =>
      intro st n k c h
      rw [runP] at h
      cases hl : lineP st x with
      | error c' => rw [hl] at h; cases h; simp; omega
      | ok s1 =>
        rw [hl] at h
        have := ih s1 _ k c h
        simp
        omega
  have hla : ∀ (t cur : Tx), (linesA t cur).length ≤ t.length + 1 := by
    intro t
    induction t with
    | nil => intro cur; rw [linesA]; split <;> simp
    | cons c r ih =>
      intro cur
      rw [linesA]
      split
      · have := ih []
        simp
        omega
      · have := ih (cur ++ [c])
        simp
        omega
  unfold parseP
  split
  · simp
  · rename_i hl
    split
    · rename_i n c hr
      have h1 := run_after _ _ _ _ _ hr
      have h2 := hb _ _ _ _ _ hr
      have h3 := hla t []
      unfold linesP at h2
      simp only []
      omega
    · split <;> simp
/-- Bytes that were made by a literal. -/
theorem own_made (w : World) (B : Nat) (l : List UInt8) (cs : Array Value) (hc : cs = (u8s l).toArray) (hB : B ≤ w.heap.size) (hl : l.length ≤ 1000) : Own (w.alloc (.cells cs 5)) B (.slice (some ⟨w.heap.size, 0, none⟩) l.length l.length) l := by
  subst hc
  have hu := u8s_length l
  exact ⟨by simp [hu], .inr ⟨w.heap.size, l.length, (u8s l).toArray, rfl, hB, heap_alloc_new w _, Nat.le_refl _, by unfold maxLen; omega, by simp [hu], by simp [List.take_of_length_le, hu]⟩⟩
theorem one8 (w : World) (cs : Array Value) (l : List UInt8) (hc : cs = (u8s l).toArray) (hl : l.length ≤ 1000) : IsBytes (w.alloc (.cells cs 5)) (some ⟨w.heap.size, 0, none⟩) l.length l :=
  (row_new w l cs hc).is 0 l.length l (fun j x hj => by rw [Nat.zero_add]; exact hj) (Nat.le_refl _) (by unfold maxLen; omega)
/-- The state ahead of both loops: the play that was read lies in its box. -/
structure RK (W w : World) (B : Nat) (text : Tx) (bx : Nat) (sv : Value) (l : List Sq) : Prop where
  low : Below W.heap.size W w
  size : W.heap.size ≤ B
  box : w.heap[bx]? = some (.cells #[.int .i64 (parseP text).1.j, .int .i64 (parseP text).1.s, .int .i64 (parseP text).1.q, sv] 31 (0, 0))
  bxB : bx < B
  play : PlayIn w sv l
  eqs : l.map (·.p) = (parseP text).1.steps
  tabs : Tabs w
  Bw : B ≤ w.heap.size
theorem PlayIn.later {D w : World} {sv : Value} {l : List Sq} (h : PlayIn D sv l) (hb : Below D.heap.size D w) : PlayIn w sv l := by
  obtain ⟨⟨a, c, e, hml, hcell⟩, hall⟩ := h
  refine ⟨⟨a, c, e, hml, ?_⟩, fun q hq => (hall q hq).later hb⟩
  rcases hcell with h0 | ⟨b, o, e, hg, hcell⟩
  · exact .inl h0
  · exact .inr ⟨b, o, e, Nat.lt_of_lt_of_le hg hb.size, fun i x hx => (hb.cell (p := ⟨b, o + i, none⟩) hg).trans (hcell i x hx)⟩
theorem drop_take (l : Tx) (i : Nat) (c : UInt8) (h : l[i]? = some c) : l.drop i = c :: l.drop (i + 1) ∧ l.take (i + 1) = l.take i ++ [c] := by
  obtain ⟨hi, e⟩ := List.getElem?_eq_some_iff.1 h
  exact ⟨by rw [List.drop_eq_getElem_cons hi, e], by rw [List.take_add_one, h]; rfl⟩
theorem filter_snoc (l : Tx) (c : UInt8) : (l ++ [c]).filter (· ≠ 10) = if c = 10 then l.filter (· ≠ 10) else l.filter (· ≠ 10) ++ [c] := by
  rw [List.filter_append]
  by_cases h : c = 10
  · simp [h]
  · simp [h]
theorem passT_len (r : Tx) : (passT r).length ≤ r.length + 1 := by
  unfold passT
  rw [List.length_cons]
  have := List.length_filter_le (fun x : UInt8 => decide (x ≠ 10)) r
  omega
theorem byte_at_i {x : ByteArray} {i : Nat} (hi : i < x.size) : x.data.toList[i]? = some (x[i]'hi) := by
  rw [Array.getElem?_toList]
  exact Array.getElem?_eq_getElem hi
end Go.Proofs.YteecmbpabkndlaaDoor
