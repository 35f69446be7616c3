/-
  Steps stored into rows, lists of slices that grow.
-/
import Derived.Test.YteaccpolmmkclaaDoorLenA
import Derived.Laws.CopyRow
namespace Go.Proofs.YteaccpolmmkclaaDoor
open Go.RowKit

/-! ### A step stored into a row of steps -/

theorem run_storeVar_at {P : Program} (w : World) (g o : Nat) (t ty : TypeId) (cur cells : Array Value) (hg : w.heap[g]? = some (.cells cur t (0, 0))) (hi : (P.info? ty).map (·.size) = some cells.size)
    (ho : o + cells.size ≤ cur.size) (h1 : cells.all (·.oneCell') = true) :
    (storeVar ty ⟨g, o, none⟩ (.agg cells)).run P w = .ok () (w.setRow g (cur.toList.take o ++ cells.toList ++ cur.toList.drop (o + cells.size)).toArray) := by
  have := run_storeCells_at (P := P) g o t cells.toList 0 cur w hg (by simp; omega) (fun v hv => (Array.all_eq_true_iff_forall_mem.1 h1) v (by simpa using hv))
  simp only [Nat.add_zero, Array.length_toList] at this
  cases hq : P.info? ty with
  | none => simp [hq] at hi
  | some i =>
    have hs : cells.size = i.size := by simp [hq] at hi; omega
    simp [storeVar, sizeOf, typeInfo, hq, Value.cells, hs, this]
theorem run_exec_storeAt {P : Program} {o : Oper} {a : Act} {w : World} {ty : TypeId} {x y : Operand} (ho : o.op = .store ty x y) (g k : Nat) (cells : Array Value) (hx : a.eval x = .pointer (some ⟨g, k, none⟩)) (hy : a.eval y = .agg cells)
    (t : TypeId) (cur : Array Value) (hg : w.heap[g]? = some (.cells cur t (0, 0))) (hi : (P.info? ty).map (·.size) = some cells.size) (hold : k + cells.size ≤ cur.size) (h1 : cells.all (·.oneCell') = true) :
    (execOp a.eval o).run P w = .ok .skip (w.setRow g (cur.toList.take k ++ cells.toList ++ cur.toList.drop (k + cells.size)).toArray) := by
  unfold execOp
  simp only [ho, hx, hy, Instr.storeAt, Instr.sureAddr, Sem.run_bind, Sem.run_pure, Result.andThen_ok, run_storeVar_at w g k t ty cur cells hg hi hold h1]
theorem step_size {a b c d e : Value} : (Tryd.prog.info? 40).map (·.size) = some (#[a, b, c, d, e] : Array Value).size := by kernel_rfl
theorem step_one {x y z : Int} {a1 a2 : Option Addr} {n1 n2 c1 c2 : Nat} : (#[.int .i64 x, .int .i64 y, .slice a1 n1 c1, .int .i64 z, .slice a2 n2 c2] : Array Value).all (·.oneCell') = true := by simp [Value.oneCell']
theorem flat_take (l : List Sq) (i : Nat) : (flatS l).take (i * 5) = flatS (l.take i) := by
  induction l generalizing i with
  | nil => simp [flatS]
  | cons a l ih =>
    have hla : (sqCells a).length = 5 := rfl
    cases i with
    | zero => simp [flatS]
    | succ i =>
      show (sqCells a ++ flatS l).take ((i + 1) * 5) = sqCells a ++ flatS (l.take i)
      rw [List.take_append, List.take_of_length_le (by omega), hla, show (i + 1) * 5 - 5 = i * 5 by omega, ih]
theorem flat_drop (l : List Sq) (i : Nat) : (flatS l).drop (i * 5) = flatS (l.drop i) := by
  induction l generalizing i with
  | nil => simp [flatS]
  | cons a l ih =>
    have hla : (sqCells a).length = 5 := rfl
    cases i with
    | zero => simp [flatS]
    | succ i =>
      show (sqCells a ++ flatS l).drop ((i + 1) * 5) = flatS (l.drop i)
      rw [List.drop_append, List.drop_of_length_le (by omega), List.nil_append, hla, show (i + 1) * 5 - 5 = i * 5 by omega, ih]
theorem set_parts {α : Type} (l : List α) (i : Nat) (z : α) (h : i < l.length) : l.set i z = l.take i ++ z :: l.drop (i + 1) := by
  rw [List.set_eq_take_append_cons_drop, if_pos h]
theorem row_store {w : World} {B g n cap i : Nat} {l : List Sq} (h : w.ownsRow B 40 5 (.slice (some ⟨g, 0, none⟩) n cap) n (flatS l)) (z : Sq) (hi : i < l.length) :
    ∃ cur, w.heap[g]? = some (.cells cur 40 (0, 0)) ∧ i * 5 + 5 ≤ cur.size ∧ (w.setRow g (cur.toList.take (i * 5) ++ (sqCells z) ++ cur.toList.drop (i * 5 + 5)).toArray).ownsRow B 40 5 (.slice (some ⟨g, 0, none⟩) n cap) n (flatS (l.set i z)) := by
  have hn : n = l.length := by have := h.1; rw [flatS_length] at this; omega
  rcases h.2 with ⟨e, _⟩ | ⟨g', cap', cur, e, hB, hg, hnc, hcm, hcs, htake⟩
  · cases e
  simp only [Value.slice.injEq, Option.some.injEq, Addr.mk.injEq, and_true, true_and] at e
  obtain ⟨rfl, rfl⟩ := e
  have hz : (sqCells z).length = 5 := rfl
  refine ⟨cur, hg, by omega, ⟨by rw [flatS_length, List.length_set, hn], .inr ⟨g, cap, _, rfl, hB, setRow_heap w g _ _ _ _ hg, hnc, hcm, ?_, ?_⟩⟩⟩
  · simp only [List.size_toArray, List.length_append, List.length_take, List.length_drop, Array.length_toList, hz]
    omega
  · have hA : (cur.toList.take (i * 5)).length = i * 5 := by rw [List.length_take, Array.length_toList]; omega
    have e1 : cur.toList.take (i * 5) = flatS (l.take i) := by
      rw [← flat_take, ← htake, List.take_take, Nat.min_eq_left (by omega)]
    have e2 : (cur.toList.drop (i * 5 + 5)).take (n * 5 - (i * 5 + 5)) = flatS (l.drop (i + 1)) := by
      rw [← flat_drop, ← htake, List.drop_take, show (i + 1) * 5 = i * 5 + 5 by omega]
    simp only []
    rw [List.take_append, List.take_of_length_le (by rw [List.length_append, hA, hz]; omega), List.length_append, hA, hz, e2, e1, set_parts l i z hi, flatS_append]
    show _ = flatS (l.take i) ++ (sqCells z ++ flatS (l.drop (i + 1)))
    rw [List.append_assoc]

/-! ### Lists turned round, place by place -/

theorem mixed_set {α : Type} (L o : List α) (k : Nat) (x : α) (hl : L.length = o.length) (hx : L[k]? = some x) : (L.take k ++ o.drop k).set k x = L.take (k + 1) ++ o.drop (k + 1) := by
  have hk := (List.getElem?_eq_some_iff.1 hx).1
  have h1 : (L.take k).length = k := by rw [List.length_take]; omega
  rw [List.set_append_right _ _ (by omega), h1, Nat.sub_self, List.drop_eq_getElem_cons (by omega), List.set_cons_zero, List.take_add_one, hx]
  simp
theorem mixed_len {α : Type} (L o : List α) (k : Nat) (hl : L.length = o.length) (hk : k ≤ o.length) : (L.take k ++ o.drop k).length = o.length := by
  rw [List.length_append, List.length_take, List.length_drop]
  omega

/-! ### Lists of slices of the call's own -/

theorem info_lists : (Tryd.prog.info? 37).map (fun i => (i.zero, i.size, i.bytes)) = some (some (.slice none 0 0), 1, 24) := by kernel_rfl
theorem run_appendV {t e : TypeId} (ht : Tryd.prog.underlying t = some (.slice e)) (hinfo : (Tryd.prog.info? e).map (fun i => (i.zero, i.size, i.bytes)) = some (some (.slice none 0 0), 1, 24)) (ty : TypeId)
    (w : World) (B : Nat) (v : Value) (n : Nat) (xs : List Value) (hown : w.ownsRow B e 1 v n xs) (g c : Nat) (u : Value) (hm : w.cell? ⟨g, 0, none⟩ = some u) (h1 : u.oneCell' = true) (hb : n ≤ 2147483647) (hbase : B ≤ w.heap.size) :
    ∃ v' w', (Builtin.append_ #[t, t] ty #[v, .slice (some ⟨g, 0, none⟩) 1 c]).run Tryd.prog w = .ok v' w' ∧ w'.ownsRow B e 1 v' (n + 1) (xs ++ [u]) ∧ w.grownBy w' v.ownBlock := by
  obtain ⟨i, hi, hz0, hz1, hz2⟩ := info_parts hinfo
  obtain ⟨v', w', hr, h2, h3, h4, h5, h6⟩ := run_append_keeps (P := Tryd.prog) w B t ty e i (.slice none 0 0) ht hi hz0 hz1 rfl v n xs hown (some ⟨g, 0, none⟩) 1 c [u] rfl (.inr ⟨_, rfl, fun j z hj => by
    cases j with
    | zero => simp at hj; subst hj; simpa [Addr.add] using hm
    | succ j => simp at hj⟩) (by intro z hz; simp at hz; subst hz; exact h1) (by unfold maxLen; omega) (by rw [hz2]; omega) hbase
  exact ⟨v', w', hr, h2, h3⟩
theorem run_exec_appendV {w w' : World} {o : Oper} {a : Act} {t : TypeId} {v y v' : Value} (s x : Operand) (ho : o.op = .call { callee := .builtin .append, args := #[s, x], argTypes := #[t, t] }) (hs : a.eval s = v) (hx : a.eval x = y)
    (hr : (Builtin.append_ #[t, t] o.type #[v, y]).run Tryd.prog w = .ok v' w') : (execOp a.eval o).run Tryd.prog w = .ok (.value v') w' := by
  unfold execOp
  simp only [ho, resolve, invoke, builtin, Sem.run_bind, Sem.run_pure, Result.andThen_ok, List.map_toArray, List.map_cons, List.map_nil, hs, hx, hr]

theorem row_apart {w w' : World} {B1 B2 e1 e2 n m : Nat} {v u : Value} {xs ys : List Value} (hr : w.ownsRow B1 e1 1 v n xs) (hu : w.ownsRow B2 e2 1 u m ys) (he : e1 ≠ e2) (hg : w.grownBy w' v.ownBlock) : w'.ownsRow B2 e2 1 u m ys := by
  refine Kept.own (Kept.ofGrown hg (fun g e => e)) hu (fun i hi h1 => ?_)
  obtain ⟨c1, h1⟩ := row_of_type hr h1
  obtain ⟨c2, h2⟩ := row_of_type hu hi
  rw [h1] at h2
  simp at h2
  exact he h2.2
theorem row_some {w : World} {B e n : Nat} {v : Value} {xs : List Value} (h : w.ownsRow B e 1 v n xs) (hn : 0 < n) : v ≠ .slice none 0 0 := by
  rintro rfl
  rcases h.2 with ⟨_, e⟩ | ⟨_, _, _, e, _⟩
  · omega
  · cases e
theorem row_form {w : World} {B e n : Nat} {v : Value} {xs : List Value} (h : w.ownsRow B e 1 v n xs) (hn : v ≠ .slice none 0 0) : ∃ g c, v = .slice (some ⟨g, 0, none⟩) n c := by
  rcases h.2 with ⟨e, _⟩ | ⟨g, c, _, e, _⟩
  · exact absurd e hn
  · exact ⟨g, c, e⟩
theorem row5_one {w w' : World} {P : Nat → Prop} {B : Nat} {v : Value} {m : Nat} {xs : List Value} (h : w.ownsRow B 40 5 v m xs) (hk : Kept P w w') (hP : ∀ g, v.ownBlock = some g → ¬ P g) : w'.ownsRow B 40 5 v m xs := by
  refine ⟨h.1, ?_⟩
  rcases h.2 with h0 | ⟨g, cap, cur, e, hB, hgg, rest⟩
  · exact .inl h0
  · exact .inr ⟨g, cap, cur, e, hB, (hk.block g (Array.getElem?_eq_some_iff.1 hgg).1 (fun e2 => hP g (by rw [e]; rfl) e2)).trans hgg, rest⟩
theorem row5_kept {P : Nat → Prop} {w w' : World} {B : Nat} {v : Value} {n : Nat} {xs : List Value} (h : w.ownsRow B 40 5 v n xs) (hk : Kept P w w') (hP : ∀ g cur, P g → w.heap[g]? ≠ some (.cells cur 40 (0, 0))) : w'.ownsRow B 40 5 v n xs := by
  refine ⟨h.1, ?_⟩
  rcases h.2 with h0 | ⟨g, cap, cur, e, hB, hgg, rest⟩
  · exact .inl h0
  · exact .inr ⟨g, cap, cur, e, hB, (hk.block g (Array.getElem?_eq_some_iff.1 hgg).1 (fun e2 => hP g cur e2 hgg)).trans hgg, rest⟩
end Go.Proofs.YteaccpolmmkclaaDoor
