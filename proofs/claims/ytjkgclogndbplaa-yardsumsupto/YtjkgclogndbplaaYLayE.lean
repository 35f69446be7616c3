/-
  An entry: a job with its tickets.
-/
import Derived.Test.YtjkgclogndbplaaYLayK
import Derived.Deep.WholeRow
namespace Go.Proofs.Ytjkgclogndbplaa
open Go.RowKit
def entA (j : Jb) (bv : Value) (t0 t1 : Int) : Array Value := j.cells bv ++ #[.int .i64 t0, .int .i64 t1]
theorem entA_val (j : Jb) (bv : Value) (body : List UInt8) (t0 t1 : Int) : En.val ⟨j, bv, body, t0, t1⟩ = .agg (entA j bv t0 t1) := rfl
theorem build_entry (j : Jb) (bv : Value) (w : World) : (Instr.build 74 #[(0, .agg (j.cells bv))]).run Try.prog w = .ok (.agg (entA j bv 0 0)) w := by
  obtain ⟨id, pr, dl, tr, bo, st, du, od, ho, c0, c1, c2, c3, c4, nm⟩ := j
  kernel_rfl
theorem ent_size (j : Jb) (bv : Value) (t0 t1 : Int) : (Try.prog.info? 74).map (·.size) = some (entA j bv t0 t1).size := by
  show _ = some 18
  kernel_rfl
theorem ent_one (j : Jb) (a : Option Addr) (n c : Nat) (t0 t1 : Int) : (entA j (.slice a n c) t0 t1).all (·.oneCell') = true := by
  simp [entA, Jb.cells, Value.oneCell']
def EntBox (w : World) (b : Nat) (j : Jb) (bv : Value) (t0 t1 : Int) : Prop := w.heap[b]? = some (.cells (entA j bv t0 t1) 74 (0, 0))
theorem EntBox.lt {w : World} {b : Nat} {j : Jb} {bv : Value} {t0 t1 : Int} (h : EntBox w b j bv t0 t1) : b < w.heap.size := (Array.getElem?_eq_some_iff.1 (show w.heap[b]? = _ from h)).1
theorem EntBox.cells {w : World} {b : Nat} {j : Jb} {bv : Value} {t0 t1 : Int} (h : EntBox w b j bv t0 t1) : w.cell? ⟨b, 16, none⟩ = some (.int .i64 t0) ∧ w.cell? ⟨b, 17, none⟩ = some (.int .i64 t1) ∧ ∀ k, w.frozen? ⟨b, k, none⟩ = false := by
  have h : w.heap[b]? = _ := h
  refine ⟨by simp [World.cell?, h, entA, Jb.cells], by simp [World.cell?, h, entA, Jb.cells], fun k => by simp [World.frozen?, h]⟩
theorem EntBox.set0 {w : World} {b : Nat} {j : Jb} {bv : Value} {t0 t1 : Int} (h : EntBox w b j bv t0 t1) (x : Int) : EntBox (w.setCell ⟨b, 16, none⟩ (.int .i64 x)) b j bv x t1 := by
  have := (set_cells (show w.heap[b]? = _ from h) 16 (.int .i64 x)).1
  unfold EntBox
  rw [this]
  rfl
theorem EntBox.set1 {w : World} {b : Nat} {j : Jb} {bv : Value} {t0 t1 : Int} (h : EntBox w b j bv t0 t1) (x : Int) : EntBox (w.setCell ⟨b, 17, none⟩ (.int .i64 x)) b j bv t0 x := by
  have := (set_cells (show w.heap[b]? = _ from h) 17 (.int .i64 x)).1
  unfold EntBox
  rw [this]
  rfl
theorem wpList_store_new {P : Program} {ops : Array Oper} {rest : List Oper} {o : Oper} {a : Act} {W : World} {Q : Exit → Act → World → Prop} (hgd : o.guard = none) (ty : TypeId) (x y : Operand) (ho : o.op = .store ty x y)
    (cells : Array Value) (hx : a.eval x = .pointer (some ⟨W.heap.size, 0, none⟩)) (hy : a.eval y = .agg cells) (t : TypeId) (old : Array Value) (hi : (P.info? ty).map (·.size) = some cells.size)
    (hold : old.size = cells.size) (h1 : cells.all (·.oneCell') = true) (h : wpList P ops Q rest (a.put o.dst undef) (W.alloc (.cells cells t))) : wpList P ops Q (o :: rest) a (W.alloc (.cells old t)) := by
  refine wpList_store_row hgd ty x y ho W.heap.size cells hx hy t old (heap_alloc_last W _) hi hold h1 ?_
  rw [World.setRow_alloc_new]
  exact h
theorem wpList_value {P : Program} {ops : Array Oper} {rest : List Oper} {o : Oper} {a : Act} {w : World} {v : Value} {Q : Exit → Act → World → Prop} (hgd : o.guard = none) (hx : (execOp a.eval o).run P w = .ok (.value v) w) (h : wpList P ops Q rest (a.put o.dst v) w) : wpList P ops Q (o :: rest) a w :=
  wpList_plain hgd fun K hK => by
    unfold Oper.wp
    rw [hx]
    exact hK _ _ h
theorem run_buildE {o : Oper} {a : Act} {w : World} {x : Operand} {j : Jb} {bv : Value} (ho : o.op = .build 74 #[(0, x)]) (hx : a.eval x = .agg (j.cells bv)) : (execOp a.eval o).run Try.prog w = .ok (.value (.agg (entA j bv 0 0))) w := by
  unfold execOp
  simp only [ho, hx, List.map_toArray, List.map_cons, List.map_nil, Sem.run_bind, build_entry, Sem.run_pure, Result.andThen_ok]
/-- A job's place among the others. -/
def insE : List En → En → List En
  | [], e => [e]
  | x :: r, e => if e.j.id < x.j.id then e :: x :: r else x :: insE r e
theorem insE_len : ∀ (L : List En) (e : En), (insE L e).length = L.length + 1
  | [], _ => rfl
  | x :: r, e => by
    unfold insE
    split
    · simp
    · simp [insE_len r e]
theorem mem_insE {x : En} : ∀ (L : List En) (e : En), x ∈ insE L e ↔ x = e ∨ x ∈ L
  | [], e => by simp [insE]
  | y :: r, e => by
    unfold insE
    split
    · simp
    · simp only [List.mem_cons, mem_insE r e]
      exact ⟨fun h => h.elim (fun h => .inr (.inl h)) (fun h => h.elim .inl (fun h => .inr (.inr h))), fun h => h.elim (fun h => .inr (.inl h)) (fun h => h.elim .inl (fun h => .inr (.inr h)))⟩
theorem look_insE : ∀ (L : List En) (e : En) (i : Int), lookE L e.j.id = none → lookE (insE L e) i = if i = e.j.id then some e else lookE L i
  | [], e, i, _ => by
    unfold insE lookE
    simp only [List.find?_cons, List.find?_nil]
    by_cases h : i = e.j.id
    · subst h; simp
    · rw [if_neg h, show (e.j.id == i) = false by simpa using fun e2 => h e2.symm]
  | x :: r, e, i, hn => by
    unfold lookE at hn
    simp only [List.find?_cons] at hn
    cases hx : (x.j.id == e.j.id) with
    | true => rw [hx] at hn; cases hn
    | false =>
      rw [hx] at hn
      have ih := look_insE r e i hn
      have hxe : ¬ x.j.id = e.j.id := by simpa using hx
      unfold insE
      split
      · unfold lookE
        simp only [List.find?_cons]
        by_cases h : i = e.j.id
        · subst h; simp
        · rw [if_neg h, show (e.j.id == i) = false by simpa using fun e2 => h e2.symm]
      · unfold lookE at ih ⊢
        simp only [List.find?_cons]
        cases hxi : (x.j.id == i) with
        | true =>
          have : ¬ i = e.j.id := fun e2 => hxe (by rw [← e2]; simpa using hxi)
          rw [if_neg this]
        | false => exact ih
end Go.Proofs.Ytjkgclogndbplaa
