/-
  PlainRemark, RemKit, RemKit2.
-/
import Derived.Test.YteaccpolmmkclaaDoorPlA
import Derived.Test.YteaccpolmmkclaaDoorSameS
import Derived.Test.YteaccpolmmkclaaDoorShown19
namespace Go.Proofs.YteaccpolmmkclaaDoor
open Go.RowKit

/-- A line that is passed over. -/
def passT (r : Tx) : Tx := 35 :: r.filter (· ≠ 10)
/-- A text with lines put in behind each e-th line's end. -/
def mix (pass : Tx) (e : Nat) : Nat → Tx → Tx
  | _, [] => []
  | m, c :: r => if c = 10 then (if (m + 1) % e = 0 then 10 :: 10 :: (pass ++ 10 :: mix pass e (m + 1) r) else 10 :: mix pass e (m + 1) r) else c :: mix pass e m r
/-- How far the line k is moved by that. -/
def mixM (e : Nat) (k : Int) : Nat → Tx → Int
  | _, [] => 0
  | m, c :: r => if c = 10 then (if (m + 1) % e = 0 ∧ ((m + 1 : Nat) : Int) < k then 2 else 0) + mixM e k (m + 1) r else mixM e k m r
theorem mixM_zero (e : Nat) (k : Int) : ∀ (t : Tx) (m : Nat), k ≤ m + 1 → mixM e k m t = 0
  | [], m, _ => rfl
  | c :: r, m, h => by
    rw [mixM]
    split
    · rw [if_neg (by omega), mixM_zero e k r (m + 1) (by omega)]
      rfl
    · exact mixM_zero e k r m h
theorem run_after : ∀ (l : List Tx) (st : Rd) (n k c : Int), runP st n l = .error (k, c) → n < k
  | [], st, n, k, c, h => by
    rw [runP] at h
    cases h
  | x :: r, st, n, k, c, h => by
    rw [runP] at h
    cases hl : lineP st x with
    | error c' =>
      rw [hl] at h
      cases h
      omega
    | ok s1 =>
      rw [hl] at h
      have := run_after r s1 _ k c h
      omega
theorem lineP_pass (st : Rd) (r : Tx) : lineP st (35 :: r) = .ok st := by
  unfold lineP
  simp
theorem lineP_nil (st : Rd) : lineP st [] = .ok st := rfl
theorem pass_line (r : Tx) : ∀ c ∈ passT r, c ≠ 10 := by
  intro c hc
  unfold passT at hc
  rcases List.mem_cons.1 hc with rfl | hc
  · decide
  · simpa using (List.mem_filter.1 hc).2
theorem mix_run (r0 : Tx) (e : Nat) : ∀ (t : Tx) (cur : Tx) (m : Nat) (d : Int) (st : Rd),
    runP st ((m : Int) + d) (linesA (mix (passT r0) e m t) cur) = match runP st (m : Int) (linesA t cur) with | .ok s => .ok s | .error (k, c) => .error (k + d + mixM e k m t, c)
  | [], cur, m, d, st => by
    rw [mix, linesA]
    split
    · rfl
    · rw [runP, runP]
      cases hl : lineP st cur with
      | error c =>
        simp only [mixM]
        congr 2
        omega
      | ok s => simp only [runP]
  | c :: r, cur, m, d, st => by
    rw [mix]
    by_cases hc : c = 10
    · subst hc
      rw [if_pos rfl, linesA, if_pos rfl]
      have hA : ∀ X : Tx, linesA (10 :: X) cur = cur :: linesA X [] := fun X => by rw [linesA, if_pos rfl]
      have hM : ∀ k, mixM e k m (10 :: r) = (if (m + 1) % e = 0 ∧ ((m + 1 : Nat) : Int) < k then 2 else 0) + mixM e k (m + 1) r := fun k => by rw [mixM, if_pos rfl]
      by_cases he : (m + 1) % e = 0
      · rw [if_pos he, hA, runP, runP]
        cases hl : lineP st cur with
        | error c =>
          simp only []
          rw [mixM_zero e _ _ m (by omega)]
          congr 2
          omega
        | ok s =>
          simp only []
          have h1 : linesA (10 :: (passT r0 ++ 10 :: mix (passT r0) e (m + 1) r)) [] = [] :: passT r0 :: linesA (mix (passT r0) e (m + 1) r) [] := by
            rw [linesA, if_pos rfl, linesA_cut _ _ _ (pass_line r0), List.nil_append]
          rw [h1, runP, lineP_nil]
          simp only []
          rw [runP, show passT r0 = 35 :: r0.filter (· ≠ 10) from rfl, lineP_pass]
          simp only []
          have ih := mix_run r0 e r [] (m + 1) (d + 2) s
          rw [show (m : Int) + d + 1 + 1 + 1 = ((m + 1 : Nat) : Int) + (d + 2) by omega, show (35 :: r0.filter (· ≠ 10)) = passT r0 from rfl, ih, show (m : Int) + 1 = ((m + 1 : Nat) : Int) by omega]
          cases hr : runP s ((m + 1 : Nat) : Int) (linesA r []) with
          | ok s2 => rfl
          | error p =>
            obtain ⟨k, c⟩ := p
            have hk := run_after _ _ _ _ _ hr
            simp only []
            rw [hM, if_pos ⟨he, hk⟩]
            congr 2
            omega
      · rw [if_neg he, hA, runP, runP]
        cases hl : lineP st cur with
        | error c =>
          simp only []
          rw [mixM_zero e _ _ m (by omega)]
          congr 2
          omega
        | ok s =>
          simp only []
          have ih := mix_run r0 e r [] (m + 1) d s
          rw [show (m : Int) + d + 1 = ((m + 1 : Nat) : Int) + d by omega, ih, show (m : Int) + 1 = ((m + 1 : Nat) : Int) by omega]
          cases hr : runP s ((m + 1 : Nat) : Int) (linesA r []) with
          | ok s2 => rfl
          | error p =>
            obtain ⟨k, c⟩ := p
            simp only []
            rw [hM, if_neg (fun h => he h.1)]
            congr 2
            omega
    · rw [if_neg hc, linesA, if_neg hc, linesA, if_neg hc, mix_run r0 e r (cur ++ [c]) m d st]
      have hM : ∀ k, mixM e k m (c :: r) = mixM e k m r := fun k => by rw [mixM, if_neg hc]
      cases hr : runP st (m : Int) (linesA r (cur ++ [c])) with
      | ok s2 => rfl
      | error p => simp only [hM]
theorem mix_len (pass : Tx) (e : Nat) : ∀ (t : Tx) (m : Nat), t.length ≤ (mix pass e m t).length
  | [], m => by simp
  | c :: r, m => by
    rw [mix]
    split
    · have := mix_len pass e r (m + 1)
      split
      · simp only [List.length_cons, List.length_append]
        omega
      · simp only [List.length_cons]
        omega
    · have := mix_len pass e r m
      simp only [List.length_cons]
      omega
/-- LINES THAT ARE PASSED OVER CHANGE NOTHING. -/
theorem remarks_run (r0 : Tx) (e : Nat) (t : Tx) (h : (passT r0 ++ 10 :: 10 :: mix (passT r0) e 0 t).length ≤ 1048576) :
    parseP (passT r0 ++ 10 :: 10 :: mix (passT r0) e 0 t) = ((parseP t).1, (if 0 < (parseP t).2.1 then (parseP t).2.1 + (2 + mixM e (parseP t).2.1 0 t) else (parseP t).2.1), (parseP t).2.2) := by
  have hl := mix_len (passT r0) e t 0
  have hlt : t.length ≤ 1048576 := by
    simp only [List.length_append, List.length_cons] at h
    omega
  have h1 : linesP (passT r0 ++ 10 :: 10 :: mix (passT r0) e 0 t) = passT r0 :: [] :: linesA (mix (passT r0) e 0 t) [] := by
    rw [linesP_cut _ _ (pass_line r0)]
    unfold linesP
    rw [linesA, if_pos rfl]
  unfold parseP
  rw [if_neg (by omega), if_neg (by omega), h1, runP, show passT r0 = 35 :: r0.filter (· ≠ 10) from rfl, lineP_pass]
  simp only []
  rw [runP, lineP_nil]
  simp only []
  have ih := mix_run r0 e t [] 0 2 rd0
  rw [show (0 : Int) + 1 + 1 = ((0 : Nat) : Int) + 2 by omega, show (35 :: r0.filter (· ≠ 10)) = passT r0 from rfl, ih, show ((0 : Nat) : Int) = 0 by omega]
  unfold linesP
  cases hr : runP rd0 0 (linesA t []) with
  | ok s =>
    simp only []
    cases s.hd <;> simp
  | error p =>
    obtain ⟨k, c⟩ := p
    have hk := run_after _ _ _ _ _ hr
    simp only []
    rw [if_pos hk]
    congr 2
    omega
end Go.Proofs.YteaccpolmmkclaaDoor

namespace Go.Proofs.YteaccpolmmkclaaDoor
open Go.RowKit

theorem run_few : ∀ (l : List Tx) (st st' : Rd) (n : Int), runP st n l = .ok st' → st.steps.length ≤ 4000 → st'.steps.length ≤ 4000
  | [], st, st', n, h, hf => by
    rw [runP] at h
    cases h
    exact hf
  | x :: r, st, st', n, h, hf => by
    rw [runP] at h
    cases hl : lineP st x with
    | error c => rw [hl] at h; cases h
    | ok s1 =>
      rw [hl] at h
      exact run_few r s1 st' _ h (line_few hl hf)
theorem parse_few (t : Tx) : (parseP t).1.steps.length ≤ 4000 := by
  unfold parseP
  split
  · simp [rd0]
  · split
    · simp [rd0]
    · rename_i st hr
      split
      · exact run_few _ _ _ _ hr (by simp [rd0])
      · simp [rd0]
theorem parse_line (t : Tx) : 0 ≤ (parseP t).2.1 ∧ (parseP t).2.1 ≤ 1048577 := by
  have hb : ∀ (l : List Tx) (st : Rd) (n k c : Int), runP st n l = .error (k, c) → k ≤ n + l.length := by
    intro l
    induction l with
    | nil => intro st n k c h; rw [runP] at h; cases h
    | cons x r ih =>
      intro st n k c h
      rw [runP] at h
      cases hl : lineP st x with
      | error c' => rw [hl] at h; cases h; simp; omega
      | ok s1 =>
        rw [hl] at h
        have := ih s1 _ k c h
        simp
        omega
  have hla : ∀ (t cur : Tx), (linesA t cur).length ≤ t.length + 1 := by
    intro t
    induction t with
    | nil => intro cur; rw [linesA]; split <;> simp
    | cons c r ih =>
      intro cur
      rw [linesA]
      split
      · have := ih []
        simp
        omega
      · have := ih (cur ++ [c])
        simp
        omega
  unfold parseP
  split
  · simp
  · rename_i hl
    split
    · rename_i n c hr
      have h1 := run_after _ _ _ _ _ hr
      have h2 := hb _ _ _ _ _ hr
      have h3 := hla t []
      unfold linesP at h2
      simp only []
      omega
    · split <;> simp
/-- Bytes that were made by a literal. -/
theorem own_made (w : World) (B : Nat) (l : List UInt8) (cs : Array Value) (hc : cs = (u8s l).toArray) (hB : B ≤ w.heap.size) (hl : l.length ≤ 1000) : Own (w.alloc (.cells cs 5)) B (.slice (some ⟨w.heap.size, 0, none⟩) l.length l.length) l := by
  subst hc
  have hu := u8s_length l
  exact ⟨by simp [hu], .inr ⟨w.heap.size, l.length, (u8s l).toArray, rfl, hB, heap_alloc_new w _, Nat.le_refl _, by unfold maxLen; omega, by simp [hu], by simp [List.take_of_length_le, hu]⟩⟩
theorem one8 (w : World) (cs : Array Value) (l : List UInt8) (hc : cs = (u8s l).toArray) (hl : l.length ≤ 1000) : IsBytes (w.alloc (.cells cs 5)) (some ⟨w.heap.size, 0, none⟩) l.length l :=
  (row_new w l cs hc).is 0 l.length l (fun j x hj => by rw [Nat.zero_add]; exact hj) (Nat.le_refl _) (by unfold maxLen; omega)
/-- The state ahead of both loops: the play that was read lies in its box. -/
structure RK (W w : World) (B : Nat) (text : Tx) (bx : Nat) (sv : Value) (l : List Sq) : Prop where
  low : Below W.heap.size W w
  size : W.heap.size ≤ B
  box : w.heap[bx]? = some (.cells #[.int .i64 (parseP text).1.j, .int .i64 (parseP text).1.s, .int .i64 (parseP text).1.q, sv] 31 (0, 0))
  bxB : bx < B
  play : PlayIn w sv l
  eqs : l.map (·.p) = (parseP text).1.steps
  tabs : Tabs w
  Bw : B ≤ w.heap.size
theorem PlayIn.later {D w : World} {sv : Value} {l : List Sq} (h : PlayIn D sv l) (hb : Below D.heap.size D w) : PlayIn w sv l := by
  obtain ⟨⟨a, c, e, hml, hcell⟩, hall⟩ := h
  refine ⟨⟨a, c, e, hml, ?_⟩, fun q hq => (hall q hq).later hb⟩
  rcases hcell with h0 | ⟨b, o, e, hg, hcell⟩
  · exact .inl h0
  · exact .inr ⟨b, o, e, Nat.lt_of_lt_of_le hg hb.size, fun i x hx => (hb.cell (p := ⟨b, o + i, none⟩) hg).trans (hcell i x hx)⟩
theorem drop_take (l : Tx) (i : Nat) (c : UInt8) (h : l[i]? = some c) : l.drop i = c :: l.drop (i + 1) ∧ l.take (i + 1) = l.take i ++ [c] := by
  obtain ⟨hi, e⟩ := List.getElem?_eq_some_iff.1 h
  exact ⟨by rw [List.drop_eq_getElem_cons hi, e], by rw [List.take_add_one, h]; rfl⟩
theorem filter_snoc (l : Tx) (c : UInt8) : (l ++ [c]).filter (· ≠ 10) = if c = 10 then l.filter (· ≠ 10) else l.filter (· ≠ 10) ++ [c] := by
  rw [List.filter_append]
  by_cases h : c = 10
  · simp [h]
  · simp [h]
theorem passT_len (r : Tx) : (passT r).length ≤ r.length + 1 := by
  unfold passT
  rw [List.length_cons]
  have := List.length_filter_le (fun x : UInt8 => decide (x ≠ 10)) r
  omega
theorem byte_at_i {x : ByteArray} {i : Nat} (hi : i < x.size) : x.data.toList[i]? = some (x[i]'hi) := by
  rw [Array.getElem?_toList]
  exact Array.getElem?_eq_getElem hi
end Go.Proofs.YteaccpolmmkclaaDoor

namespace Go.Proofs.YteaccpolmmkclaaDoor
open Go.RowKit

theorem Own.form {w : World} {B : Nat} {v : Value} {l : List UInt8} (h : Own w B v l) : ∃ a c, v = .slice a l.length c := by
  obtain ⟨a, c, e, _⟩ := h.shape
  exact ⟨a, c, e⟩
/-- The remark and the text so far, in memory. -/
structure R1 (E w : World) (B : Nat) (pv ov : Value) (P O : Tx) : Prop where
  low : Below B E w
  Bw : B ≤ w.heap.size
  pass : Own w B pv P
  out : Own w B ov O
  le : P.length ≤ O.length
theorem R1.later {E w w' : World} {B : Nat} {pv ov : Value} {P O : Tx} (h : R1 E w B pv ov P O) (hb : Below w.heap.size w w') : R1 E w' B pv ov P O :=
  ⟨h.low.trans (hb.mono h.Bw), Nat.le_trans h.Bw hb.size, h.pass.below hb, h.out.below hb, h.le⟩
theorem R1.app {E w w' : World} {B : Nat} {pv ov v' : Value} {P O Y : Tx} (h : R1 E w B pv ov P O) (ho : Own w' B v' (O ++ Y)) (hg : w.grownBy w' ov.ownBlock) (hk : ∀ (b0 : Nat) (u : Value) (ys : List UInt8), Own w b0 u ys → (u.ownBlock = ov.ownBlock → ys.length ≤ O.length) → Own w' b0 u ys) : R1 E w' B pv v' P (O ++ Y) :=
  ⟨h.low.grown hg h.Bw (fun g e => (h.out.lt g e).1), Nat.le_trans h.Bw hg.size, hk B pv P h.pass (fun _ => h.le), ho, by have := h.le; rw [List.length_append]; omega⟩
theorem R1.lit {E w : World} {B : Nat} {pv ov : Value} {P O : Tx} (h : R1 E w B pv ov P O) (o : Obj) : R1 E (w.alloc o) B pv ov P O := h.later ((Below.refl _ w).alloc (Nat.le_refl _) o)
theorem R1.passed {E w : World} {B : Nat} {pa : Option Addr} {n pc : Nat} {ov : Value} {P O : Tx} (h : R1 E w B (.slice pa n pc) ov P O) : IsBytes w pa pc P := by
  obtain ⟨a, c, e, hb⟩ := h.pass.shape
  cases e
  exact hb
/-- How far it is. -/
structure R2 (P O T : Tx) (e : Nat) (line : Int) (i m : Nat) (more : Int) : Prop where
  full : P ++ 10 :: 10 :: mix P e 0 T = O ++ mix P e m (T.drop i)
  mor : 2 + mixM e line 0 T = more + mixM e line m (T.drop i)
  mi : m ≤ i
  mb : 0 ≤ more ∧ more ≤ 2 + 2 * i
  bnd : O.length ≤ 1048576 + P.length + 10
theorem R2.start (P T : Tx) (e : Nat) (line : Int) : R2 P (P ++ [10, 10]) T e line 0 0 2 := ⟨by simp, by simp, by omega, by omega, by simp; omega⟩
theorem R2.other {P O T : Tx} {e : Nat} {line : Int} {i m : Nat} {more : Int} {y : UInt8} (h : R2 P O T e line i m more) (hy : T[i]? = some y) (h10 : y ≠ 10) (hl : O.length ≤ 1048576) : R2 P (O ++ [y]) T e line (i + 1) m more := by
  have hd := (drop_take T i y hy).1
  have f := h.full
  have g := h.mor
  rw [hd, mix, if_neg h10] at f
  rw [hd, mixM, if_neg h10] at g
  exact ⟨by rw [f]; simp, g, by have := h.mi; omega, by have := h.mb; omega, by simp; omega⟩
theorem R2.bare {P O T : Tx} {e : Nat} {line : Int} {i m : Nat} {more : Int} (h : R2 P O T e line i m more) (hy : T[i]? = some 10) (hm : ¬ (m + 1) % e = 0) (hl : O.length ≤ 1048576) : R2 P (O ++ [10]) T e line (i + 1) (m + 1) more := by
  have hd := (drop_take T i 10 hy).1
  have f := h.full
  have g := h.mor
  rw [hd, mix, if_pos rfl, if_neg hm] at f
  rw [hd, mixM, if_pos rfl, if_neg (fun h => hm h.1)] at g
  exact ⟨by rw [f]; simp, by omega, by have := h.mi; omega, by have := h.mb; omega, by simp; omega⟩
theorem R2.put {P O T : Tx} {e : Nat} {line : Int} {i m : Nat} {more : Int} (h : R2 P O T e line i m more) (hy : T[i]? = some 10) (hm : (m + 1) % e = 0) (hl : O.length ≤ 1048576) : R2 P (O ++ [10] ++ [10] ++ P ++ [10]) T e line (i + 1) (m + 1) (if ((m : Int) + 1) < line then more + 2 else more) := by
  have hd := (drop_take T i 10 hy).1
  have f := h.full
  have g := h.mor
  rw [hd, mix, if_pos rfl, if_pos hm] at f
  rw [hd, mixM, if_pos rfl] at g
  refine ⟨by rw [f]; simp, ?_, by have := h.mi; omega, by have := h.mb; split <;> omega, by simp; omega⟩
  by_cases hlt : ((m : Int) + 1) < line
  · rw [if_pos ⟨hm, by omega⟩] at g
    rw [if_pos hlt]
    omega
  · rw [if_neg (fun h => hlt (by have := h.2; omega))] at g
    rw [if_neg hlt]
    omega
theorem R2.fin {P O T : Tx} {e : Nat} {line : Int} {i m : Nat} {more : Int} (h : R2 P O T e line i m more) (hi : T.length ≤ i) : P ++ 10 :: 10 :: mix P e 0 T = O ∧ 2 + mixM e line 0 T = more := by
  have f := h.full
  have g := h.mor
  rw [List.drop_of_length_le hi] at f g
  exact ⟨by rw [f]; simp [mix], by rw [g]; simp [mixM]⟩
end Go.Proofs.YteaccpolmmkclaaDoor
