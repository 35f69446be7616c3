/-
  Layer 13: pairs put behind pairs; a tube's cells.
-/
import Derived.Test.YthapbnlcodkalaaDoorRefFig
namespace Go.Proofs.YthapbnlcodkalaaDoor
open Go.RowKit Go.Sort

theorem cellsP_app (ps qs : List BP) : cellsP (ps ++ qs) = cellsP ps ++ cellsP qs := by simp [cellsP]
theorem cellsP_one (ps : List BP) : ∀ u ∈ cellsP ps, u.oneCell' = true := by
  intro u hu
  simp only [cellsP, List.mem_flatMap] at hu
  obtain ⟨p, _, hp⟩ := hu
  simp at hp
  rcases hp with rfl | rfl <;> rfl
theorem row_src {w : World} {B : Nat} {a : Option Addr} {c : Nat} {qs : List BP} (h : w.ownsRow B 52 2 (.slice a qs.length c) qs.length (cellsP qs)) : (a = none ∧ qs.length = 0) ∨ ∃ ad, a = some ad ∧ ∀ j u, (cellsP qs)[j]? = some u → w.cell? (ad.add j) = some u := by
  rcases h.2 with ⟨e, h0⟩ | ⟨g, cap, cur, e, rest⟩
  · simp only [Value.slice.injEq] at e
    exact .inl ⟨e.1, h0⟩
  · simp only [Value.slice.injEq] at e
    obtain ⟨rfl, _, rfl⟩ := e
    exact .inr ⟨_, rfl, h.cells (g := g) rfl⟩
theorem run_pairs (w : World) (B B2 : Nat) (ty : TypeId) (v : Value) (ps qs : List BP) (a : Option Addr) (c : Nat) (hown : w.ownsRow B 52 2 v ps.length (cellsP ps)) (hsrc : w.ownsRow B2 52 2 (.slice a qs.length c) qs.length (cellsP qs)) (hl : ps.length ≤ 1000) (hq : qs.length ≤ 1000) (hB : B ≤ w.heap.size) :
    ∃ v' w', (Builtin.append_ #[46, 46] ty #[v, .slice a qs.length c]).run Tryd.prog w = .ok v' w' ∧ w'.ownsRow B 52 2 v' (ps ++ qs).length (cellsP (ps ++ qs)) ∧ w.grownBy w' v.ownBlock := by
  obtain ⟨i0, hi, hz0, hz1, hz2⟩ := info_parts info_pair
  obtain ⟨v', w', hr, h2, h3, _⟩ := run_append_keepsG (P := Tryd.prog) w 2 B 46 ty 52 i0 (.agg #[.string ⟨#[]⟩, .string ⟨#[]⟩]) Tryd.underlying46 hi hz0 hz1 rfl v ps.length (cellsP ps) hown a qs.length c (cellsP qs) (cellsP_len qs) (row_src hsrc) (cellsP_one qs) (by unfold maxLen; omega) (by rw [hz2]; omega) hB
  exact ⟨v', w', hr, by rw [List.length_append, cellsP_app]; exact h2, h3⟩
theorem wpList_pairs {w : World} {ops : Array Oper} {rest : List Oper} {o : Oper} {a : Act} {Q : Exit → Act → World → Prop} (hgd : o.guard = none) (s x : Operand)
    (ho : o.op = .call { callee := .builtin .append, args := #[s, x], argTypes := #[46, 46] }) (B B2 : Nat) (v : Value) (ps qs : List BP) (ad : Option Addr) (c : Nat) (hs : a.eval s = v) (hx : a.eval x = .slice ad qs.length c)
    (hown : w.ownsRow B 52 2 v ps.length (cellsP ps)) (hsrc : w.ownsRow B2 52 2 (.slice ad qs.length c) qs.length (cellsP qs)) (hl : ps.length ≤ 1000) (hq : qs.length ≤ 1000) (hB : B ≤ w.heap.size)
    (h : ∀ v' w', w'.ownsRow B 52 2 v' (ps ++ qs).length (cellsP (ps ++ qs)) → w.grownBy w' v.ownBlock → wpList Tryd.prog ops Q rest (a.put o.dst v') w') : wpList Tryd.prog ops Q (o :: rest) a w := by
  refine wpList_plain hgd fun K hK => ?_
  obtain ⟨v', w', hr, h2, h3⟩ := run_pairs w B B2 o.type v ps qs ad c hown hsrc hl hq hB
  unfold Oper.wp execOp
  simp only [ho, resolve, invoke, builtin, Sem.run_bind, Sem.run_pure, Result.andThen_ok, List.map_toArray, List.map_cons, List.map_nil, hs, hx, hr]
  exact hK _ _ (h v' w' h2 h3)
theorem step_pairs {w : World} {ops : Array Oper} {o : Oper} {a : Act} {K : Act → World → Prop} {Q : Exit → Act → World → Prop} {E : Prop} (hgd : o.guard = none) (s x : Operand)
    (ho : o.op = .call { callee := .builtin .append, args := #[s, x], argTypes := #[46, 46] }) (B B2 : Nat) (v : Value) (ps qs : List BP) (ad : Option Addr) (c : Nat) (hs : a.eval s = v) (hx : a.eval x = .slice ad qs.length c)
    (hown : w.ownsRow B 52 2 v ps.length (cellsP ps)) (hsrc : w.ownsRow B2 52 2 (.slice ad qs.length c) qs.length (cellsP qs)) (hl : ps.length ≤ 1000) (hq : qs.length ≤ 1000) (hB : B ≤ w.heap.size)
    (h : ∀ v' w', w'.ownsRow B 52 2 v' (ps ++ qs).length (cellsP (ps ++ qs)) → w.grownBy w' v.ownBlock → K (a.put o.dst v') w') : if Region.wanted o (yielded ops a.tmps) = true then Oper.wp Tryd.prog o a w K Q else E := by
  have hw : Region.wanted o (yielded ops a.tmps) = true := by simp [Region.wanted, hgd]
  rw [if_pos hw]
  obtain ⟨v', w', hr, h2, h3⟩ := run_pairs w B B2 o.type v ps qs ad c hown hsrc hl hq hB
  unfold Oper.wp execOp
  simp only [ho, resolve, invoke, builtin, Sem.run_bind, Sem.run_pure, Result.andThen_ok, List.map_toArray, List.map_cons, List.map_nil, hs, hx, hr]
  exact h v' w' h2 h3
theorem row_new (w : World) (qs : List BP) (cs : Array Value) (n : Nat) (hn : n = qs.length) (h : cs.toList = cellsP qs) (hl : qs.length ≤ 1000) : (w.alloc (.cells cs 52)).ownsRow w.heap.size 52 2 (.slice (some ⟨w.heap.size, 0, none⟩) n n) n (cellsP qs) := by
  subst hn
  have hc : cs.size = qs.length * 2 := by rw [← Array.length_toList, h, cellsP_len]
  refine ⟨cellsP_len qs, .inr ⟨w.heap.size, qs.length, cs, rfl, Nat.le_refl _, heap_alloc_new w _, Nat.le_refl _, by unfold maxLen; omega, hc, ?_⟩⟩
  rw [h, List.take_of_length_le (by rw [cellsP_len]; omega)]
theorem tube_cells (nm : ByteArray) (r d rs b u us wa wt tt de pa pz ul : Int) (W : World) (sb : Nat) (C : Array Value) (h : W.heap[sb]? = some (.cells C 38 (0, 0))) (hC : C = #[.string nm, .int .i64 r, .int .i64 d, .int .i64 rs, .int .i64 b, .int .i64 u, .int .i64 us, .int .i64 wa, .int .i64 wt, .int .i64 tt, .int .i64 de, .int .i64 pa, .int .i64 pz, .int .i64 ul]) : W.cell? ⟨sb, 6, none⟩ = some (.int .i64 us) ∧ W.cell? ⟨sb, 7, none⟩ = some (.int .i64 wa) ∧ W.cell? ⟨sb, 8, none⟩ = some (.int .i64 wt) ∧ W.cell? ⟨sb, 9, none⟩ = some (.int .i64 tt) ∧ W.cell? ⟨sb, 10, none⟩ = some (.int .i64 de) ∧ W.cell? ⟨sb, 11, none⟩ = some (.int .i64 pa) ∧ W.cell? ⟨sb, 12, none⟩ = some (.int .i64 pz) := by
  subst hC
  exact ⟨cell_of_row W sb 6 _ _ (0, 0) h, cell_of_row W sb 7 _ _ (0, 0) h, cell_of_row W sb 8 _ _ (0, 0) h, cell_of_row W sb 9 _ _ (0, 0) h, cell_of_row W sb 10 _ _ (0, 0) h, cell_of_row W sb 11 _ _ (0, 0) h, cell_of_row W sb 12 _ _ (0, 0) h⟩
def restP (us wa wt tt de pa pz ul now : Int) : List BP := [(kTotal, prS tt), (kUsing, prS us), (kWaiting, prS wt), (kWatching, prS wa), (kPause, prS pz), (kDelete, prS de), (kPauses, prS pa), (kLeft, prS (leftI pz ul now))]
end Go.Proofs.YthapbnlcodkalaaDoor
