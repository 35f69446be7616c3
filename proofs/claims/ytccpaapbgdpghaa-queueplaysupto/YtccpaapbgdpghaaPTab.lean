/-
  A map from numbers to pointers as a function.
-/
import Derived.Test.YtccpaapbgdpghaaQPure
namespace Go.Proofs.Ytccpaapbgdpghaa
open Go.RowKit Go.Maps Go.ChangeMaps

abbrev key (t : Int) : Lit := .int .i64 t
theorem keyed : Keyed Try.prog 3 := int_keyed Try.underlying3
theorem isKey (t : Int) : WideAt.IsKeyLit (key t) := trivial
theorem key_ne {t u : Int} (h : t ≠ u) : key t ≠ key u := fun e => h (by simpa using e)

/-- How a pointer reads. -/
def ptrElem : Value → Option (DataW Unit × List MemPlace)
  | .pointer none => some (.lit (.int .i64 (-1)), [])
  | .pointer (some ⟨b, 0, none⟩) => some (.lit (.int .i64 b), [])
  | _ => none
theorem ptrElem_none : ptrElem (.pointer none) = some (.lit (.int .i64 (-1)), []) := rfl
theorem ptrElem_of (o : Option Nat) : ptrElem (ptrOf o) = some (.lit (.int .i64 (match o with | none => -1 | some b => (b : Int))), []) := by cases o <;> rfl
theorem ptrElem_inv {v : Value} {c : Int} {ps : List MemPlace} (h : ptrElem v = some (.lit (.int .i64 c), ps)) : (c = -1 ∧ v = .pointer none) ∨ ∃ b : Nat, c = b ∧ v = .pointer (some ⟨b, 0, none⟩) := by
  unfold ptrElem at h
  split at h
  · simp only [Option.some.injEq, Prod.mk.injEq, DataW.lit.injEq, Lit.int.injEq, true_and] at h
    exact .inl ⟨h.1.symm, rfl⟩
  · simp only [Option.some.injEq, Prod.mk.injEq, DataW.lit.injEq, Lit.int.injEq, true_and] at h
    exact .inr ⟨_, h.1.symm, rfl⟩
  · cases h

/-- Block mb is a map of n entries: g tells what it has at each number. -/
def PTab (w : World) (mb n : Nat) (g : Int → Option Nat) : Prop :=
  ∃ D : DataW Unit, w.ownsMap Try.prog 3 ptrElem mb n D ∧ Maps.size D = n ∧ ∀ t : Int, has D (key t) = (g t).isSome ∧ ∀ v, g t = some v → D.atKey (key t) (.lit (.int .i64 (-1))) = .lit (.int .i64 (v : Int))

theorem PTab.lt {w : World} {mb n : Nat} {g : Int → Option Nat} (h : PTab w mb n g) : mb < w.heap.size := by
  obtain ⟨D, h1, _⟩ := h
  exact h1.lt
theorem PTab.map {w : World} {mb n : Nat} {g : Int → Option Nat} (h : PTab w mb n g) : ∃ es clock, w.heap[mb]? = some (.map es clock) := by
  obtain ⟨D, ⟨es, clock, hb, _⟩, _⟩ := h
  exact ⟨es, clock, hb⟩
theorem PTab.block {w w' : World} {mb n : Nat} {g : Int → Option Nat} (h : PTab w mb n g) (hb : w'.heap[mb]? = w.heap[mb]?) : PTab w' mb n g := by
  obtain ⟨D, ⟨es, clock, h0, rest⟩, h2⟩ := h
  exact ⟨D, ⟨es, clock, hb.trans h0, rest⟩, h2⟩
theorem PTab.congr {w : World} {mb n : Nat} {g g' : Int → Option Nat} (h : PTab w mb n g) (e : ∀ t, g' t = g t) : PTab w mb n g' := by
  obtain rfl : g' = g := funext e
  exact h
theorem PTab.made (w : World) : PTab (w.alloc (.map #[] 0)) w.heap.size 0 (fun _ => none) :=
  ⟨.map [], World.ownsMap_made _ _ _ _, rfl, fun _ => ⟨rfl, fun _ h => by cases h⟩⟩
theorem powns_tight {w : World} {mb n : Nat} {D : DataW Unit} (h : w.ownsMap Try.prog 3 ptrElem mb n D) : w.ownsMap Try.prog 3 ptrElem mb (Maps.size D) D := by
  obtain ⟨es, clock, hb, F, hs, hD⟩ := h
  exact ⟨es, clock, hb, F, by rw [hD, size_eq, length_read]; exact Nat.le_refl _, hD⟩
def putAt (g : Int → Option Nat) (t : Int) (v : Nat) : Int → Option Nat := fun x => if x = t then some v else g x
def delAt (g : Int → Option Nat) (t : Int) : Int → Option Nat := fun x => if x = t then none else g x

theorem ptab_put {w' : World} {mb n m : Nat} {g : Int → Option Nat} {t : Int} {v : Nat} {D : DataW Unit} (h0 : IsMap D) (hT : Tidy D) (hs : Maps.size D = n) (hg : ∀ t : Int, has D (key t) = (g t).isSome ∧ ∀ v, g t = some v → D.atKey (key t) (.lit (.int .i64 (-1))) = .lit (.int .i64 (v : Int)))
    (h : w'.ownsMap Try.prog 3 ptrElem mb m (D.put (key t) (.lit (.int .i64 (v : Int))))) : PTab w' mb (if (g t).isSome then n else n + 1) (putAt g t v) := by
  have hz : Maps.size (D.put (key t) (.lit (.int .i64 (v : Int)))) = if (g t).isSome then n else n + 1 := by rw [size_put hT, (hg t).1, hs]
  refine ⟨_, hz ▸ powns_tight h, hz, fun x => ?_⟩
  unfold putAt
  by_cases hx : x = t
  · subst hx
    rw [if_pos rfl]
    exact ⟨has_put_same h0 (isKey x) _, fun u hu => by cases hu; exact atKey_put_same h0 (isKey x) _ _⟩
  · rw [if_neg hx, has_put_other (key_ne hx), atKey_put_other (key_ne hx)]
    exact hg x
theorem ptab_del {w' : World} {mb n m : Nat} {g : Int → Option Nat} {t : Int} {D : DataW Unit} (hT : Tidy D) (hs : Maps.size D = n) (hg : ∀ t : Int, has D (key t) = (g t).isSome ∧ ∀ v, g t = some v → D.atKey (key t) (.lit (.int .i64 (-1))) = .lit (.int .i64 (v : Int)))
    (h : w'.ownsMap Try.prog 3 ptrElem mb m (D.del (key t))) : PTab w' mb (if (g t).isSome then n - 1 else n) (delAt g t) := by
  have hz : Maps.size (D.del (key t)) = if (g t).isSome then n - 1 else n := by
    have := size_del (k := key t) hT
    rw [(hg t).1, hs] at this
    split at this <;> split <;> simp_all <;> omega
  refine ⟨_, hz ▸ powns_tight h, hz, fun x => ?_⟩
  unfold delAt
  by_cases hx : x = t
  · subst hx
    rw [if_pos rfl]
    exact ⟨has_del_same, fun u hu => by cases hu⟩
  · rw [if_neg hx, has_del_other (key_ne hx), atKey_del_other (key_ne hx)]
    exact hg x

section
variable {w : World} {ops : Array Oper} {rest : List Oper} {o : Oper} {a : Act} {Q : Exit → Act → World → Prop}
/-- 'm[t] = p', at the operation. -/
theorem wpList_pput (hgd : o.guard = none) (m x v : Operand) (T E : TypeId) (hT : Try.prog.underlying T = some (.map 3 E)) 
    (ho : o.op = Op.mapUpdate T m x v) (mb n : Nat) (g : Int → Option Nat) (t : Int) (u : Nat) (hm : a.eval m = .map (some mb)) (hx : a.eval x = .int .i64 t) (hv : a.eval v = .pointer (some ⟨u, 0, none⟩))
    (h : PTab w mb n g) (hn : n < maxLen) (ht : (Lit.int .i64 t).wf = true)
    (K : ∀ w', PTab w' mb (if (g t).isSome then n else n + 1) (putAt g t u) → w.grownBy w' (some mb) → wpList Try.prog ops Q rest (a.put o.dst undef) w') : wpList Try.prog ops Q (o :: rest) a w := by
  obtain ⟨D, h1, h2, h3⟩ := h
  refine wpList_mapUpdate_own _ hgd m x v T ho 3 E keyed hT _ mb n D hm h1 hn _ _ _ hx hv (keyOf_int_mk Try.underlying3 ht) _ [] (ptrElem_of (some u)) ?_
  intro w' h4 h5
  exact K w' (ptab_put h1.isMap (h1.tidy keyed) h2 h3 h4) h5
/-- 'p, ok := m[t]', at the operation. -/
theorem wpList_plook (hgd : o.guard = none) (m x : Operand) (T E : TypeId) (hT : Try.prog.underlying T = some (.map 3 E)) (hz : (zeroValue E).run Try.prog w = .ok (.pointer none) w)
    (ho : o.op = Op.lookup T m x true) (mb n : Nat) (g : Int → Option Nat) (t : Int) (hm : a.eval m = .map (some mb)) (hx : a.eval x = .int .i64 t)
    (h : PTab w mb n g) (ht : (Lit.int .i64 t).wf = true)
    (K : wpList Try.prog ops Q rest (a.put o.dst (.tuple #[ptrOf (g t), .bool (g t).isSome])) w) : wpList Try.prog ops Q (o :: rest) a w := by
  obtain ⟨D, h1, h2, h3⟩ := h
  refine wpList_lookup_own_ok _ hgd m x T ho 3 E keyed hT ptrElem hz _ [] ptrElem_none mb n D hm h1 _ _ hx (keyOf_int_mk Try.underlying3 ht) ?_
  intro v ps hv
  rw [(h3 t).1]
  have : v = ptrOf (g t) := by
    cases hg : g t with
    | none =>
      rw [atKey_of_not_has (by rw [(h3 t).1, hg]; rfl)] at hv
      rcases ptrElem_inv hv with ⟨_, e⟩ | ⟨b, e, _⟩
      · exact e
      · omega
    | some b =>
      rw [(h3 t).2 b hg] at hv
      rcases ptrElem_inv hv with ⟨e, _⟩ | ⟨b', e, rfl⟩
      · omega
      · obtain rfl : b = b' := by omega
        rfl
  rw [this]
  exact K
/-- 'delete(m, t)', at the operation. -/
theorem wpList_pstrike (hgd : o.guard = none) (m x : Operand) (T E : TypeId) (hT : Try.prog.underlying T = some (.map 3 E))
    (ho : o.op = Op.call { callee := Callee.builtin Builtin.delete, args := #[m, x], argTypes := #[T, 3] }) (mb n : Nat) (g : Int → Option Nat) (t : Int) (hm : a.eval m = .map (some mb)) (hx : a.eval x = .int .i64 t)
    (h : PTab w mb n g) (ht : (Lit.int .i64 t).wf = true)
    (K : ∀ w', PTab w' mb (if (g t).isSome then n - 1 else n) (delAt g t) → w.grownBy w' (some mb) → wpList Try.prog ops Q rest (a.put o.dst (.tuple #[])) w') : wpList Try.prog ops Q (o :: rest) a w := by
  obtain ⟨D, h1, h2, h3⟩ := h
  refine wpList_delete_own _ hgd m x T 3 ho E keyed hT _ mb n D hm h1 _ _ hx (keyOf_int_mk Try.underlying3 ht) ?_
  intro w' h4 h5
  exact K w' (ptab_del (h1.tidy keyed) h2 h3 h4) h5.grown
/-- 'clear(m)'. -/
theorem PTab.clear {T E : TypeId} (hT : Try.prog.underlying T = some (.map 3 E)) {mb n : Nat} {g : Int → Option Nat} (h : PTab w mb n g) :
    ∃ w', (∀ ty, (Builtin.clear_ #[T] ty #[.map (some mb)]).run Try.prog w = .ok (.tuple #[]) w') ∧ PTab w' mb 0 (fun _ => none) ∧ w.grownBy w' (some mb) := by
  obtain ⟨D, ⟨es, clock, hb, F, hs, hD⟩, h2, h3⟩ := h
  refine ⟨setBlock w mb (.map #[] clock), ?_, ⟨.map [], ⟨#[], clock, heap_setBlock_same hb _, ⟨by simp, MapKept.stamped_empty clock, by simp⟩, Nat.le_refl _, rfl⟩, rfl, fun _ => ⟨rfl, fun _ h => by cases h⟩⟩, ⟨rfl, rfl, rfl, by simp [setBlock], fun i _ hi => heap_setBlock_other hb _ (fun e => hi (by rw [e]))⟩⟩
  intro ty
  simp [Builtin.clear_, run_underlying hT, MapKept.run_getObj_map hb, MapKept.run_setObj_map _ hb, Result.andThen, setBlock]
/-- 'len(m)'. -/
theorem wpList_plen (hgd : o.guard = none) (m : Operand) (T E : TypeId) (hT : Try.prog.underlying T = some (.map 3 E))
    (ho : o.op = Op.call { callee := Callee.builtin Builtin.len, args := #[m], argTypes := #[T] }) (mb n : Nat) (g : Int → Option Nat) (hm : a.eval m = .map (some mb)) (h : PTab w mb n g)
    (K : wpList Try.prog ops Q rest (a.put o.dst (.int .i64 (n : Int))) w) : wpList Try.prog ops Q (o :: rest) a w := by
  obtain ⟨D, h1, h2, h3⟩ := h
  refine wpList_len_own _ hgd m T ho 3 E hT _ mb n D hm h1 ?_
  rw [h2]
  exact K
end
end Go.Proofs.Ytccpaapbgdpghaa
