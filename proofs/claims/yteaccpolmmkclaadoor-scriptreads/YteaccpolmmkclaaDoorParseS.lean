/-
  The walk of Parse.
-/
import Derived.Test.YteaccpolmmkclaaDoorRdA
import Derived.Test.YteaccpolmmkclaaDoorParD
namespace Go.Proofs.YteaccpolmmkclaaDoor
open Go.RowKit

theorem index_ten : ∀ (t : Tx), (Lib.index t [10] = -1 ∧ ∀ c ∈ t, c ≠ 10) ∨ ∃ i : Nat, Lib.index t [10] = i ∧ i < t.length ∧ t = t.take i ++ 10 :: t.drop (i + 1) ∧ ∀ c ∈ t.take i, c ≠ 10
  | [] => .inl ⟨rfl, fun _ h => by cases h⟩
  | b :: l => by
    rw [Lib.index]
    by_cases hb : b = 10
    · subst hb
      exact .inr ⟨0, by simp [List.isPrefixOf], by simp, by simp, by simp⟩
    · have hp : ([10] : Tx).isPrefixOf (b :: l) = false := by
        simp [List.isPrefixOf]
        exact fun e => hb e.symm
      rw [hp]
      simp only [Bool.false_eq_true, if_false]
      rcases index_ten l with ⟨h1, h2⟩ | ⟨i, h1, h2, h3, h4⟩
      · refine .inl ⟨by rw [h1]; rfl, fun c hc => ?_⟩
        rcases List.mem_cons.1 hc with rfl | hc
        · exact hb
        · exact h2 c hc
      · refine .inr ⟨i + 1, ?_, by simp; omega, ?_, fun c hc => ?_⟩
        · rw [h1, if_neg (by rw [beq_iff_eq]; omega)]
          omega
        · rw [List.take_succ_cons, List.drop_succ_cons, List.cons_append, ← h3]
        · rw [List.take_succ_cons] at hc
          rcases List.mem_cons.1 hc with rfl | hc
          · exact hb
          · exact h4 c hc
theorem cut_line (t : Tx) : (∀ c ∈ (Lib.cut t [10]).1, c ≠ 10) ∧ (t = (Lib.cut t [10]).1 ++ 10 :: (Lib.cut t [10]).2.1 ∨ (Lib.cut t [10]).1 = t ∧ (Lib.cut t [10]).2.1 = []) := by
  unfold Lib.cut
  rcases index_ten t with ⟨h1, h2⟩ | ⟨i, h1, h2, h3, h4⟩
  · rw [h1]
    exact ⟨h2, .inr ⟨rfl, rfl⟩⟩
  · rw [h1, if_pos (by omega)]
    exact ⟨h4, .inl h3⟩
theorem cut_lines {t : Tx} (h : t ≠ []) : linesP t = (Lib.cut t [10]).1 :: linesP (Lib.cut t [10]).2.1 ∧ (Lib.cut t [10]).1.length ≤ t.length ∧ (Lib.cut t [10]).2.1.length + 1 ≤ t.length := by
  obtain ⟨h1, h2 | ⟨h2, h3⟩⟩ := cut_line t
  · have e := congrArg List.length h2
    simp only [List.length_append, List.length_cons] at e
    refine ⟨?_, by omega, by omega⟩
    have := linesP_cut _ (Lib.cut t [10]).2.1 h1
    rwa [← h2] at this
  · rw [h2] at h1
    rw [h2, h3, linesP_one t h1 h]
    have := List.length_pos_iff.2 h
    exact ⟨rfl, Nat.le_refl _, by simp; omega⟩
/-- Where Parse is, between two lines. -/
structure PInv (W w : World) (text : Tx) (t : Tx) (st : Rd) (sv : Value) (l : List Sq) (n : Int) : Prop where
  below : Below W.heap.size W w
  b1 : w.heap[W.heap.size]? = some (.cells #[.int .i64 0, .int .i64 0, .int .i64 0, .slice none 0 0] 31 (0, 0))
  b2 : w.heap[W.heap.size + 1]? = some (.cells #[.int .i64 0] 3 (0, 0))
  b3 : w.heap[W.heap.size + 1 + 1]? = some (.cells #[.int .i64 0] 32 (0, 0))
  rd : RdBox w (W.heap.size + 1 + 1 + 1) st.j st.s st.q sv st.hd n
  steps : StepsAt w (W.heap.size + 4) sv l
  big : W.heap.size + 4 ≤ w.heap.size
  same : l.map (·.p) = st.steps
  few : l.length ≤ 4000
  n0 : 0 ≤ n
  n1 : n + t.length ≤ text.length
  run : runP rd0 0 (linesP text) = runP st n (linesP t)
  ap : ApartS l
/-- What Parse tells. -/
def ParsePost (W : World) (text : Tx) (e : Ending) (w' : World) : Prop :=
  Below W.heap.size W w' ∧ ∃ sv l, e = .returned (.tuple #[.agg #[.int .i64 (parseP text).1.j, .int .i64 (parseP text).1.s, .int .i64 (parseP text).1.q, sv], .int .i64 (parseP text).2.1, .int .i64 (parseP text).2.2]) ∧ StepsAt w' W.heap.size sv l ∧ l.map (·.p) = (parseP text).1.steps
def ParsePostA (W : World) (text : Tx) (e : Ending) (w' : World) : Prop :=
  Below W.heap.size W w' ∧ ∃ sv l, e = .returned (.tuple #[.agg #[.int .i64 (parseP text).1.j, .int .i64 (parseP text).1.s, .int .i64 (parseP text).1.q, sv], .int .i64 (parseP text).2.1, .int .i64 (parseP text).2.2]) ∧ StepsAt w' W.heap.size sv l ∧ l.map (·.p) = (parseP text).1.steps ∧ ApartS l
theorem ParsePostA.weak {W : World} {text : Tx} {e : Ending} {w' : World} (h : ParsePostA W text e w') : ParsePost W text e w' := by
  obtain ⟨h0, sv, l, h1, h2, h3, _⟩ := h
  exact ⟨h0, sv, l, h1, h2, h3⟩
theorem apart_nil : ApartS [] := fun i j x y hx => by simp at hx
theorem pinv_start (W : World) (text : Tx) : PInv W ((((W.alloc (.cells #[.int .i64 0, .int .i64 0, .int .i64 0, .slice none 0 0] 31)).alloc (.cells #[.int .i64 0] 3)).alloc (.cells #[.int .i64 0] 32)).alloc (.cells #[.int .i64 0, .int .i64 0, .int .i64 0, .slice none 0 0, .bool false, .int .i64 0] 44)) text text rd0 (.slice none 0 0) [] 0 := by
  have a1 := heap_alloc_new W (.cells #[.int .i64 0, .int .i64 0, .int .i64 0, .slice none 0 0] 31)
  generalize h1 : W.alloc (.cells #[.int .i64 0, .int .i64 0, .int .i64 0, .slice none 0 0] 31) = w1 at a1 ⊢
  have e1 : w1.heap.size = W.heap.size + 1 := by rw [← h1]; simp
  have a2 := heap_alloc_new w1 (.cells #[.int .i64 0] 3)
  have a12 := (heap_alloc_old w1 (.cells #[.int .i64 0] 3) (by omega : W.heap.size < w1.heap.size)).trans a1
  have q2 : Below W.heap.size W (w1.alloc (.cells #[.int .i64 0] 3)) := by rw [← h1]; exact ((Below.refl _ W).alloc (Nat.le_refl _) _).alloc (by simp) _
  generalize h2 : w1.alloc (.cells #[.int .i64 0] 3) = w2 at a2 a12 q2 ⊢
  have e2 : w2.heap.size = W.heap.size + 1 + 1 := by rw [← h2]; simp [e1]
  rw [e1] at a2
  have a3 := heap_alloc_new w2 (.cells #[.int .i64 0] 32)
  have a13 := (heap_alloc_old w2 (.cells #[.int .i64 0] 32) (by omega : W.heap.size < w2.heap.size)).trans a12
  have a23 := (heap_alloc_old w2 (.cells #[.int .i64 0] 32) (by omega : W.heap.size + 1 < w2.heap.size)).trans a2
  have q3 := q2.alloc (o := .cells #[.int .i64 0] 32) (by omega)
  generalize h3 : w2.alloc (.cells #[.int .i64 0] 32) = w3 at a3 a13 a23 q3 ⊢
  have e3 : w3.heap.size = W.heap.size + 1 + 1 + 1 := by rw [← h3]; simp [e2]
  rw [e2] at a3
  have a4 := heap_alloc_new w3 (.cells #[.int .i64 0, .int .i64 0, .int .i64 0, .slice none 0 0, .bool false, .int .i64 0] 44)
  rw [e3] at a4
  refine ⟨q3.alloc (by omega) _, (heap_alloc_old w3 _ (by omega)).trans a13, (heap_alloc_old w3 _ (by omega)).trans a23, (heap_alloc_old w3 _ (by omega)).trans a3, a4, ⟨World.ownsRow_nil _ _ _ 5, fun _ h => by cases h⟩, by simp; omega, rfl, by simp, by omega, by omega, rfl, apart_nil⟩
/-- A line is read. -/
theorem PInv.step {W w w' : World} {text t : Tx} {st st' : Rd} {sv : Value} {l : List Sq} {n : Int} {e : Ending} (h : PInv W w text t st sv l n) (ht : t ≠ []) (hl : lineP st (Lib.cut t [10]).1 = .ok st') (hp : ReadPost w (W.heap.size + 1 + 1 + 1) sv n (W.heap.size + 4) (.ok st') e w') :
    e = .returned (.tuple #[]) ∧ ∃ sv' l', PInv W w' text (Lib.cut t [10]).2.1 st' sv' l' (n + 1) := by
  obtain ⟨k, rfl, sv', l', r1, r2, r3, r4, r5⟩ := hp
  have hc := cut_lines ht
  have hbig := h.big
  have nb : ∀ b, b < W.heap.size + 1 + 1 + 1 → ¬ (b = W.heap.size + 1 + 1 + 1 ∨ sv.ownBlock = some b) := fun b hb hx => by
    rcases hx with e | e
    · omega
    · have := (h.steps.1.lt b e).1
      omega
  refine ⟨rfl, sv', l', ⟨h.below.trans (k.below (by omega) (fun i hi => nb i (by omega))), (k.block _ (by omega) (nb _ (by omega))).trans h.b1, (k.block _ (by omega) (nb _ (by omega))).trans h.b2, (k.block _ (by omega) (nb _ (by omega))).trans h.b3, r1, r2, by have := k.size; omega, r3, ?_, by have := h.n0; omega, by have := h.n1; omega, ?_, r5⟩⟩
  · have := line_few hl (by rw [← h.same]; simpa using h.few)
    rw [← r3] at this
    simpa using this
  · rw [h.run, hc.1, runP, hl]
theorem StepsAt.mono {w : World} {B B' : Nat} {sv : Value} {l : List Sq} (h : StepsAt w B sv l) (hB : B' ≤ B) : StepsAt w B' sv l := by
  refine ⟨⟨h.1.1, ?_⟩, fun q hq => ⟨(h.2 q hq).1.mono hB, (h.2 q hq).2.mono hB⟩⟩
  rcases h.1.2 with h0 | ⟨g, cap, cur, hv, hb, rest⟩
  · exact .inl h0
  · exact .inr ⟨g, cap, cur, hv, Nat.le_trans hB hb, rest⟩
theorem res_set {w : World} {b1 b2 b3 : Nat} {x0 x1 x2 x3 y z : Value} (h1 : w.heap[b1]? = some (.cells #[x0, x1, x2, x3] 31 (0, 0))) (h2 : w.heap[b2]? = some (.cells #[y] 3 (0, 0))) (h3 : w.heap[b3]? = some (.cells #[z] 32 (0, 0))) (a b c v n e : Value) :
    Kept (fun i => i = b1 ∨ i = b2 ∨ i = b3) w ((((((w.setCell ⟨b1, 0, none⟩ a).setCell ⟨b1, 1, none⟩ b).setCell ⟨b1, 2, none⟩ c).setCell ⟨b1, 3, none⟩ v).setCell ⟨b2, 0, none⟩ n).setCell ⟨b3, 0, none⟩ e) ∧
    ((((((w.setCell ⟨b1, 0, none⟩ a).setCell ⟨b1, 1, none⟩ b).setCell ⟨b1, 2, none⟩ c).setCell ⟨b1, 3, none⟩ v).setCell ⟨b2, 0, none⟩ n).setCell ⟨b3, 0, none⟩ e).heap[b1]? = some (.cells #[a, b, c, v] 31 (0, 0)) ∧
    ((((((w.setCell ⟨b1, 0, none⟩ a).setCell ⟨b1, 1, none⟩ b).setCell ⟨b1, 2, none⟩ c).setCell ⟨b1, 3, none⟩ v).setCell ⟨b2, 0, none⟩ n).setCell ⟨b3, 0, none⟩ e).heap[b2]? = some (.cells #[n] 3 (0, 0)) ∧
    ((((((w.setCell ⟨b1, 0, none⟩ a).setCell ⟨b1, 1, none⟩ b).setCell ⟨b1, 2, none⟩ c).setCell ⟨b1, 3, none⟩ v).setCell ⟨b2, 0, none⟩ n).setCell ⟨b3, 0, none⟩ e).heap[b3]? = some (.cells #[e] 32 (0, 0)) := by
  have n12 : ¬ b1 = b2 := by intro e; rw [e, h2] at h1; simp at h1
  have n13 : ¬ b1 = b3 := by intro e; rw [e, h3] at h1; simp at h1
  have n23 : ¬ b2 = b3 := by intro e; rw [e, h3] at h2; simp at h2
  have s10 := (set_cells h1 0 a).1
  have s11 := (set_cells s10 1 b).1
  have s12 := (set_cells s11 2 c).1
  have s13 := (set_cells s12 3 v).1
  have k1 : Kept (fun i => i = b1) w ((((w.setCell ⟨b1, 0, none⟩ a).setCell ⟨b1, 1, none⟩ b).setCell ⟨b1, 2, none⟩ c).setCell ⟨b1, 3, none⟩ v) := (((Kept.setCell (fun i => i = b1) _ _ _ _ rfl).trans (Kept.setCell (fun i => i = b1) _ _ _ _ rfl)).trans (Kept.setCell (fun i => i = b1) _ _ _ _ rfl)).trans (Kept.setCell (fun i => i = b1) _ _ _ _ rfl)
  generalize hq : ((((w.setCell ⟨b1, 0, none⟩ a).setCell ⟨b1, 1, none⟩ b).setCell ⟨b1, 2, none⟩ c).setCell ⟨b1, 3, none⟩ v) = wq at s13 k1 ⊢
  have q2 := (k1.block b2 (Array.getElem?_eq_some_iff.1 h2).1 (fun e => n12 e.symm)).trans h2
  have q3 := (k1.block b3 (Array.getElem?_eq_some_iff.1 h3).1 (fun e => n13 e.symm)).trans h3
  have k2 : Kept (fun i => i = b2) wq (wq.setCell ⟨b2, 0, none⟩ n) := Kept.setCell _ _ _ _ _ rfl
  have u2 := (set_cells q2 0 n).1
  have u3 := (k2.block b3 (Array.getElem?_eq_some_iff.1 q3).1 (fun e => n23 e.symm)).trans q3
  have u1 := (k2.block b1 (Array.getElem?_eq_some_iff.1 s13).1 n12).trans s13
  have k3 : Kept (fun i => i = b3) (wq.setCell ⟨b2, 0, none⟩ n) ((wq.setCell ⟨b2, 0, none⟩ n).setCell ⟨b3, 0, none⟩ e) := Kept.setCell _ _ _ _ _ rfl
  exact ⟨((k1.mono (Q := fun i => i = b1 ∨ i = b2 ∨ i = b3) (fun i _ e => .inl e)).trans (k2.mono (fun i _ e => .inr (.inl e)))).trans (k3.mono (fun i _ e => .inr (.inr e))), (k3.block b1 (Array.getElem?_eq_some_iff.1 u1).1 n13).trans u1, (k3.block b2 (Array.getElem?_eq_some_iff.1 u2).1 n23).trans u2, (set_cells u3 0 e).1⟩
theorem parse_leaves {w : World} {b1 b2 b3 : Nat} {R : Ending → World → Prop} {tmps : Array Value} {a b c : Int} {sv : Value} {n e : Int} (t2 : tmps[2]? = some (.pointer (some ⟨b1, 0, none⟩))) (t3 : tmps[3]? = some (.pointer (some ⟨b2, 0, none⟩))) (t4 : tmps[4]? = some (.pointer (some ⟨b3, 0, none⟩)))
    (h1 : w.heap[b1]? = some (.cells #[.int .i64 a, .int .i64 b, .int .i64 c, sv] 31 (0, 0))) (h2 : w.heap[b2]? = some (.cells #[.int .i64 n] 3 (0, 0))) (h3 : w.heap[b3]? = some (.cells #[.int .i64 e] 32 (0, 0)))
    (hR : R (.returned (.tuple #[.agg #[.int .i64 a, .int .i64 b, .int .i64 c, sv], .int .i64 n, .int .i64 e])) w) : Leaves Tryd.prog Tryd.f5 tmps R [] .returning w := by
  have r1 : w.cell? ⟨b1, 0, none⟩ = some (.int .i64 a) ∧ w.cell? ⟨b1, 1, none⟩ = some (.int .i64 b) ∧ w.cell? ⟨b1, 2, none⟩ = some (.int .i64 c) ∧ w.cell? ⟨b1, 3, none⟩ = some sv := by simp [World.cell?, h1]
  have r2 : w.cell? ⟨b2, 0, none⟩ = some (.int .i64 n) := by simp [World.cell?, h2]
  have r3 : w.cell? ⟨b3, 0, none⟩ = some (.int .i64 e) := by simp [World.cell?, h3]
  simp [Leaves, results, Tryd.results5, go_sem, t2, t3, t4, r1, r2, r3]
  exact hR
/-- The end: the results' boxes were written. -/
theorem PInv.out {W w w' : World} {text t : Tx} {st : Rd} {sv : Value} {l : List Sq} {n : Int} (h : PInv W w text t st sv l n) (k : Kept (fun i => i = W.heap.size ∨ i = W.heap.size + 1 ∨ i = W.heap.size + 1 + 1) w w') : Below W.heap.size W w' ∧ StepsAt w' W.heap.size sv l := by
  have hbig := h.big
  refine ⟨h.below.trans (k.below (by omega) (fun i hi e => by omega)), (h.steps.kept k (fun g hg e => ?_) (fun q hq => ⟨fun g hg e => ?_, fun g hg e => ?_⟩)).mono (by omega)⟩
  · have := (h.steps.1.lt g hg).1
    omega
  · have := ((h.steps.2 q hq).1.lt g hg).1
    omega
  · have := ((h.steps.2 q hq).2.lt g hg).1
    omega
theorem steps_none (w : World) (B : Nat) : StepsAt w B (.slice none 0 0) [] := ⟨World.ownsRow_nil _ _ _ 5, fun _ h => by cases h⟩
theorem PInv.fin {W w w' : World} {text : Tx} {st : Rd} {sv : Value} {l : List Sq} {n : Int} (h : PInv W w text [] st sv l n) (hx : text.length ≤ 1048576) (k : Kept (fun i => i = W.heap.size ∨ i = W.heap.size + 1 ∨ i = W.heap.size + 1 + 1) w w') :
    (st.hd = false → ParsePostA W text (.returned (.tuple #[.agg #[.int .i64 0, .int .i64 0, .int .i64 0, .slice none 0 0], .int .i64 0, .int .i64 191])) w') ∧
    (st.hd = true → ParsePostA W text (.returned (.tuple #[.agg #[.int .i64 st.j, .int .i64 st.s, .int .i64 st.q, sv], .int .i64 0, .int .i64 0])) w') := by
  have hr : runP rd0 0 (linesP text) = .ok st := by rw [h.run]; rfl
  have ho := h.out k
  refine ⟨fun hd => ⟨ho.1, ?_⟩, fun hd => ⟨ho.1, ?_⟩⟩
  · have e : parseP text = (rd0, 0, 191) := by
      unfold parseP
      rw [if_neg (by omega), hr]
      simp only []
      rw [if_neg (by rw [hd]; simp)]
    rw [e]
    exact ⟨_, [], rfl, steps_none _ _, rfl, apart_nil⟩
  · have e : parseP text = (st, 0, 0) := by
      unfold parseP
      rw [if_neg (by omega), hr]
      simp only []
      rw [if_pos hd]
    rw [e]
    exact ⟨sv, l, rfl, ho.2, h.same, h.ap⟩
theorem PInv.bad {W w w1 w' : World} {text t : Tx} {st : Rd} {sv : Value} {l : List Sq} {n c : Int} (h : PInv W w text t st sv l n) (hx : text.length ≤ 1048576) (ht : t ≠ []) (hl : lineP st (Lib.cut t [10]).1 = .error c) (k1 : Kept (fun i => i = W.heap.size + 1 + 1 + 1 ∨ sv.ownBlock = some i) w w1) (k : Kept (fun i => i = W.heap.size ∨ i = W.heap.size + 1 ∨ i = W.heap.size + 1 + 1) w1 w') :
    ParsePostA W text (.returned (.tuple #[.agg #[.int .i64 0, .int .i64 0, .int .i64 0, .slice none 0 0], .int .i64 (n + 1), .int .i64 c])) w' := by
  have hbig := h.big
  have hs1 := k1.size
  have b1 : Below W.heap.size W w1 := h.below.trans (k1.below (by omega) (fun i hi e => by
    rcases e with e | e
    · omega
    · have := (h.steps.1.lt i e).1
      omega))
  refine ⟨b1.trans (k.below (by omega) (fun i hi e => by omega)), ?_⟩
  have e : parseP text = (rd0, n + 1, c) := by
    unfold parseP
    rw [if_neg (by omega), h.run, (cut_lines ht).1, runP, hl]
  rw [e]
  exact ⟨_, [], rfl, steps_none _ _, rfl, apart_nil⟩
theorem PInv.later {W w w' : World} {text t : Tx} {st : Rd} {sv : Value} {l : List Sq} {n : Int} (h : PInv W w text t st sv l n) (hb : Below w.heap.size w w') : PInv W w' text t st sv l n := by
  have hbig := h.big
  have h7 := hb.size
  exact ⟨h.below.trans (hb.mono (by omega)), (hb.block _ (by omega)).trans h.b1, (hb.block _ (by omega)).trans h.b2, (hb.block _ (by omega)).trans h.b3, rd_later h.rd hb, h.steps.kept (P := fun _ => False) (Kept.ofBelow hb) (fun _ _ h => h) (fun _ _ => ⟨fun _ _ h => h, fun _ _ h => h⟩), by omega, h.same, h.few, h.n0, h.n1, h.run, h.ap⟩
set_option maxHeartbeats 4000000 in
set_option maxRecDepth 1000000 in
theorem parse_walk (W : World) (x : ByteArray) (T : Tabs W) (h6 : 6 ≤ W.heap.size) (hx : x.size ≤ 1048576) :
    Calls Tryd.prog 5 #[.string x] W (ParsePostA W x.data.toList) := by
  have hmf : ∀ (fn : Fn) (first cap : Array Value) (w : World), (Instr.makeFunc fn first cap).run Tryd.prog w = .ok (.func fn first cap) w := fun _ _ _ _ => rfl
  have HT := hide T
  have HS := hide (pinv_start W x.data.toList)
  have HX : Hid (x.data.toList.length ≤ 1048576) := by show _ ≤ _; simpa using hx
  clear T
  go_enter_defers Tryd.func5, Tryd.ntmps5
  go_wp2_with fail
  go_loopg [0] x.size (fun gk s0 wr => ∃ (t : ByteArray) (st : Rd) (sv : Value) (l : List Sq) (n : Int), s0 = .string t ∧ t.size ≤ gk ∧ Hid (PInv W wr x.data.toList t.data.toList st sv l n))
  case atStart => exact ⟨x, rd0, _, [], 0, rfl, Nat.le_refl _, HS⟩
  case round =>
    obtain ⟨t, st, sv, l, n, rfl, hgk, HI⟩ := hrel
    by_cases ht : t.data.toList = []
    · have te : t = ⟨#[]⟩ := by
        rcases t with ⟨⟨l⟩⟩
        simp at ht
        rw [ht]
      subst te
      obtain ⟨y0, y1, y2, y3, y4, y5, yf, yl⟩ := HI.out.rd.cells
      have r1 : wr.cell? ⟨W.heap.size, 0, none⟩ = some (.int .i64 0) ∧ wr.cell? ⟨W.heap.size, 1, none⟩ = some (.int .i64 0) ∧ wr.cell? ⟨W.heap.size, 2, none⟩ = some (.int .i64 0) ∧ wr.cell? ⟨W.heap.size, 3, none⟩ = some (.slice none 0 0) ∧ ∀ i, wr.frozen? ⟨W.heap.size, i, none⟩ = false := by simp [World.cell?, World.frozen?, HI.out.b1]
      have r2 : wr.cell? ⟨W.heap.size + 1, 0, none⟩ = some (.int .i64 0) ∧ wr.frozen? ⟨W.heap.size + 1, 0, none⟩ = false := by simp [World.cell?, World.frozen?, HI.out.b2]
      have r3 : wr.cell? ⟨W.heap.size + 1 + 1, 0, none⟩ = some (.int .i64 0) ∧ wr.frozen? ⟨W.heap.size + 1 + 1, 0, none⟩ = false := by simp [World.cell?, World.frozen?, HI.out.b3]
      obtain ⟨e10, e11, e12, e13, ef⟩ := r1
      obtain ⟨e2, f2⟩ := r2
      obtain ⟨e3, f3⟩ := r3
      have f10 := ef 0
      have f11 := ef 1
      have f12 := ef 2
      have f13 := ef 3
      obtain ⟨hd, hhd⟩ : ∃ b, st.hd = b := ⟨_, rfl⟩
      rw [hhd] at y4
      have HH := hide hhd
      clear yf ef hhd
      cases hd
      · go_wp2_with fail
        refine leaves_cons (f := 11) (args := #[.pointer (some ⟨W.heap.size + 1 + 1 + 1, 0, none⟩), .pointer (some ⟨W.heap.size, 0, none⟩), .pointer (some ⟨W.heap.size + 1, 0, none⟩), .pointer (some ⟨W.heap.size + 1 + 1, 0, none⟩)]) (by simp) (by simp [go_sem]) ?_
        refine (parseD_idle _ _ _ _ _).mono ?_
        rintro e u' w'' ⟨rfl, rfl, rfl⟩
        have hs := res_set HI.out.b1 HI.out.b2 HI.out.b3 (.int .i64 0) (.int .i64 0) (.int .i64 0) (.slice none 0 0) (.int .i64 0) (.int .i64 191)
        exact parse_leaves rfl rfl rfl hs.2.1 hs.2.2.1 hs.2.2.2 ((HI.out.fin HX.out hs.1).1 HH.out)
      · obtain ⟨as9, cs9, hsv⟩ := HI.out.steps.form
        subst hsv
        go_wp2_with fail
        refine leaves_cons (f := 11) (args := #[.pointer (some ⟨W.heap.size + 1 + 1 + 1, 0, none⟩), .pointer (some ⟨W.heap.size, 0, none⟩), .pointer (some ⟨W.heap.size + 1, 0, none⟩), .pointer (some ⟨W.heap.size + 1 + 1, 0, none⟩)]) (by simp) (by simp [go_sem]) ?_
        refine (parseD_idle _ _ _ _ _).mono ?_
        rintro e u' w'' ⟨rfl, rfl, rfl⟩
        have hs := res_set HI.out.b1 HI.out.b2 HI.out.b3 (.int .i64 st.j) (.int .i64 st.s) (.int .i64 st.q) (.slice as9 l.length cs9) (.int .i64 0) (.int .i64 0)
        exact parse_leaves rfl rfl rfl hs.2.1 hs.2.2.1 hs.2.2.2 ((HI.out.fin HX.out hs.1).2 HH.out)
    · have te : (t.toList == []) = false := by rw [ByteArray.toList_eq]; simpa using ht
      have HN := hide ht
      have CL := hide (cut_lines ht)
      have hle : t.size < 4294967281 := by
        have h1 := HI.out.n1
        have h0 := HI.out.n0
        have h2 := HX.out
        have e : t.data.toList.length = t.size := by simp
        omega
      obtain ⟨m, hm⟩ := HT.out.max
      have hmw : wr.cell? ⟨2, 0, none⟩ = some (.int .i64 m) := (HI.out.below.cell (p := ⟨2, 0, none⟩) (cell_lt hm)).trans hm
      have CC := hide (Tryd.strings_Cut t ⟨#[10]⟩ m wr hle hmw)
      rw [show (⟨#[10]⟩ : ByteArray).data.toList = [10] from rfl] at CC
      have CR : Hid (∀ X, Below wr.heap.size wr X → Calls Tryd.prog 13 #[.pointer (some ⟨W.heap.size + 1 + 1 + 1, 0, none⟩), .string ⟨(Lib.cut t.data.toList [10]).1.toArray⟩] X (ReadPost X (W.heap.size + 1 + 1 + 1) sv n (W.heap.size + 4) (lineP st (Lib.cut t.data.toList [10]).1))) := fun X hX => by
        have hbig := HI.out.big
        have h7 := hX.size
        have h1 := HI.out.n1
        have h0 := HI.out.n0
        have h2 := HX.out
        refine read_any X (W.heap.size + 1 + 1 + 1) ⟨(Lib.cut t.data.toList [10]).1.toArray⟩ st sv n (W.heap.size + 4) l HI.out.ap ((HT.out.below HI.out.below).below hX) (by omega) (rd_later HI.out.rd hX) (HI.out.steps.kept (P := fun _ => False) (Kept.ofBelow hX) (fun _ _ h => h) (fun _ _ => ⟨fun _ _ h => h, fun _ _ h => h⟩)) HI.out.same (by omega) HI.out.few h0 (by omega) ?_
        show (Lib.cut t.data.toList [10]).1.toArray.size ≤ _
        have := CL.out.2.1
        simp only [List.size_toArray]
        omega
      clear ht hm hmw
      cases hln : lineP st (Lib.cut t.data.toList [10]).1 with
      | ok st' =>
        rw [hln] at CR
        have HLN := hide hln
        clear hln
        go_wp2_with (first
          | (go_at_call 12
             refine CC.out.mono ?_
             rintro e w1 ⟨rfl, k1, hw1⟩
             have HB1 : Hid (Below wr.heap.size wr w1) := by rw [hw1]; exact below_drewN (Below.refl _ wr) k1
             clear hw1)
          | (go_at_call 13
             refine (CR.out _ HB1.out).mono ?_
             intro e w2 h2
             have hI1 : PInv W w1 x.data.toList t.data.toList st sv l n := HI.out.later HB1.out
             obtain ⟨rfl, sv2, l2, h3⟩ := hI1.step HN.out HLN.out h2
             have HI2 := hide h3
             clear h2 h3 hI1))
        go_roundg (t.size - 1)
        case measure =>
          have := CL.out.2.2
          have e : t.data.toList.length = t.size := by simp
          omega
        case rel =>
          refine ⟨⟨(Lib.cut t.data.toList [10]).2.1.toArray⟩, st', sv2, l2, n + 1, rfl, ?_, HI2⟩
          show (Lib.cut t.data.toList [10]).2.1.toArray.size ≤ _
          have := CL.out.2.2
          have e : t.data.toList.length = t.size := by simp
          simp only [List.size_toArray]
          omega
      | error c =>
        rw [hln] at CR
        have HLN := hide hln
        clear hln
        go_wp2_with (first
          | (go_at_call 12
             refine CC.out.mono ?_
             rintro e w1 ⟨rfl, k1, hw1⟩
             have HB1 : Hid (Below wr.heap.size wr w1) := by rw [hw1]; exact below_drewN (Below.refl _ wr) k1
             clear hw1)
          | (go_at_call 13
             refine (CR.out _ HB1.out).mono ?_
             rintro e w2 ⟨k2, he, j2, s2, q2, sv2, hd2, r2⟩
             unfold pan at he
             subst he
             have HI1 : Hid (PInv W w1 x.data.toList t.data.toList st sv l n) := HI.out.later HB1.out
             have HR2 := hide (And.intro k2 r2)
             clear k2 r2))
        have hbig := HI1.out.big
        have hk2 := HR2.out.1.size
        have nb : ∀ b, b < W.heap.size + 1 + 1 + 1 → ¬ (b = W.heap.size + 1 + 1 + 1 ∨ sv.ownBlock = some b) := fun b hb hx => by
          rcases hx with e | e
          · omega
          · have := (HI1.out.steps.1.lt b e).1
            omega
        have g1 := (HR2.out.1.block _ (by omega) (nb _ (by omega))).trans HI1.out.b1
        have g2 := (HR2.out.1.block _ (by omega) (nb _ (by omega))).trans HI1.out.b2
        have g3 := (HR2.out.1.block _ (by omega) (nb _ (by omega))).trans HI1.out.b3
        refine leaves_cons (f := 11) (args := #[.pointer (some ⟨W.heap.size + 1 + 1 + 1, 0, none⟩), .pointer (some ⟨W.heap.size, 0, none⟩), .pointer (some ⟨W.heap.size + 1, 0, none⟩), .pointer (some ⟨W.heap.size + 1 + 1, 0, none⟩)]) (by simp) (by simp [go_sem]) ?_
        refine (parseD_pan _ _ _ _ c (n + 1) w2 HR2.out.2.cells.2.2.2.2.2.1 g1 g2 g3).mono ?_
        rintro e u' w'' ⟨rfl, rfl, k3, q1, q2, q3⟩
        exact parse_leaves rfl rfl rfl q1 q2 q3 (HI1.out.bad HX.out HN.out HLN.out HR2.out.1 k3)
theorem three_new (W : World) (o1 o2 o3 : Obj) : Below W.heap.size W (((W.alloc o1).alloc o2).alloc o3) ∧ (((W.alloc o1).alloc o2).alloc o3).heap[W.heap.size]? = some o1 ∧ (((W.alloc o1).alloc o2).alloc o3).heap[W.heap.size + 1]? = some o2 ∧ (((W.alloc o1).alloc o2).alloc o3).heap[W.heap.size + 1 + 1]? = some o3 := by
  have a1 := heap_alloc_new W o1
  have q1 := (Below.refl W.heap.size W).alloc (Nat.le_refl _) o1
  have e1 : (W.alloc o1).heap.size = W.heap.size + 1 := by simp
  generalize W.alloc o1 = w1 at a1 q1 e1 ⊢
  have a2 := heap_alloc_new w1 o2
  have a12 := (heap_alloc_old w1 o2 (by omega : W.heap.size < w1.heap.size)).trans a1
  have q2 := q1.alloc (by omega) o2
  have e2 : (w1.alloc o2).heap.size = W.heap.size + 1 + 1 := by simp [e1]
  rw [e1] at a2
  generalize w1.alloc o2 = w2 at a2 a12 q2 e2 ⊢
  have a3 := heap_alloc_new w2 o3
  rw [e2] at a3
  exact ⟨q2.alloc (by omega) o3, (heap_alloc_old w2 o3 (by omega)).trans a12, (heap_alloc_old w2 o3 (by omega)).trans a2, a3⟩
set_option maxHeartbeats 1000000 in
set_option maxRecDepth 1000000 in
theorem parse_long (W : World) (x : ByteArray) (hx : 1048576 < x.size) :
    Calls Tryd.prog 5 #[.string x] W (ParsePostA W x.data.toList) := by
  have HX : Hid (1048576 < x.data.toList.length) := by show _ < _; simpa using hx
  have hx' : (1048576 : Int) < (x.size : Int) := by omega
  go_enter_defers Tryd.func5, Tryd.ntmps5
  go_wp2_with fail
  have h3 := three_new W (.cells #[.int .i64 0, .int .i64 0, .int .i64 0, .slice none 0 0] 31) (.cells #[.int .i64 0] 3) (.cells #[.int .i64 193] 32)
  refine parse_leaves rfl rfl rfl h3.2.1 h3.2.2.1 h3.2.2.2 ⟨h3.1, ?_⟩
  have e : parseP x.data.toList = (rd0, 0, 193) := by
    unfold parseP
    rw [if_pos HX.out]
  rw [e]
  exact ⟨_, [], rfl, steps_none _ _, rfl, apart_nil⟩
theorem parse_any19A (W : World) (x : ByteArray) (T : Tabs W) (h6 : 6 ≤ W.heap.size) :
    Calls Tryd.prog 5 #[.string x] W (ParsePostA W x.data.toList) := by
  by_cases hx : x.size ≤ 1048576
  · exact parse_walk W x T h6 hx
  · exact parse_long W x (by omega)
theorem parse_any19 (W : World) (x : ByteArray) (T : Tabs W) (h6 : 6 ≤ W.heap.size) :
    Calls Tryd.prog 5 #[.string x] W (ParsePost W x.data.toList) := (parse_any19A W x T h6).mono fun _ _ h => h.weak
end Go.Proofs.YteaccpolmmkclaaDoor
