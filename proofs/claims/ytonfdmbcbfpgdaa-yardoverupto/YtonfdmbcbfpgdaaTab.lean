/-
  A map from numbers to numbers as a function.
-/
import Derived.Test.YtonfdmbcbfpgdaaKit
namespace Go.Proofs.Ytonfdmbcbfpgdaa
open Go.RowKit Go.Maps

abbrev key (t : Int) : Lit := .int .i64 t
theorem keyed : Keyed Try.prog 3 := int_keyed Try.underlying3
theorem zero_int (w : World) : (zeroValue 3).run Try.prog w = .ok (.int .i64 0) w := by kernel_rfl
theorem isKey (t : Int) : WideAt.IsKeyLit (key t) := trivial
theorem key_ne {t u : Int} (h : t ≠ u) : key t ≠ key u := fun e => h (by simpa using e)

/-- Block mb is a map of n entries: g tells what it has at each number. -/
def Tab (w : World) (mb n : Nat) (g : Int → Option Int) : Prop :=
  ∃ D : DataW Unit, w.ownsMap Try.prog 3 (plainElem Try.prog 3) mb n D ∧ Maps.size D = n ∧ ∀ t : Int, has D (key t) = (g t).isSome ∧ ∀ v, g t = some v → D.atKey (key t) (.lit (.int .i64 0)) = .lit (.int .i64 v)

theorem Tab.lt {w : World} {mb n : Nat} {g : Int → Option Int} (h : Tab w mb n g) : mb < w.heap.size := by
  obtain ⟨D, h1, _⟩ := h
  exact h1.lt
theorem Tab.map {w : World} {mb n : Nat} {g : Int → Option Int} (h : Tab w mb n g) : ∃ es clock, w.heap[mb]? = some (.map es clock) := by
  obtain ⟨D, ⟨es, clock, hb, _⟩, _⟩ := h
  exact ⟨es, clock, hb⟩
theorem Tab.block {w w' : World} {mb n : Nat} {g : Int → Option Int} (h : Tab w mb n g) (hb : w'.heap[mb]? = w.heap[mb]?) : Tab w' mb n g := by
  obtain ⟨D, ⟨es, clock, h0, rest⟩, h2⟩ := h
  exact ⟨D, ⟨es, clock, hb.trans h0, rest⟩, h2⟩
theorem Tab.kept {P : Nat → Prop} {w w' : World} {mb n : Nat} {g : Int → Option Int} (h : Tab w mb n g) (hk : Kept P w w') (hP : ¬ P mb) : Tab w' mb n g := h.block (hk.block mb h.lt hP)
theorem Tab.made (w : World) : Tab (w.alloc (.map #[] 0)) w.heap.size 0 (fun _ => none) :=
  ⟨.map [], World.ownsMap_made _ _ _ _, rfl, fun _ => ⟨rfl, fun _ h => by cases h⟩⟩

theorem owns_tight {w : World} {mb n : Nat} {D : DataW Unit} (h : w.ownsMap Try.prog 3 (plainElem Try.prog 3) mb n D) : w.ownsMap Try.prog 3 (plainElem Try.prog 3) mb (Maps.size D) D := by
  obtain ⟨es, clock, hb, F, hs, hD⟩ := h
  exact ⟨es, clock, hb, F, by rw [hD, size_eq, length_read]; exact Nat.le_refl _, hD⟩

/-- A number is laid in. -/
def putAt (g : Int → Option Int) (t v : Int) : Int → Option Int := fun x => if x = t then some v else g x
/-- A number is struck. -/
def delAt (g : Int → Option Int) (t : Int) : Int → Option Int := fun x => if x = t then none else g x

theorem tab_put {w' : World} {mb n m : Nat} {g : Int → Option Int} {t v : Int} {D : DataW Unit} (h0 : IsMap D) (hT : Tidy D) (hs : Maps.size D = n) (hg : ∀ t : Int, has D (key t) = (g t).isSome ∧ ∀ v, g t = some v → D.atKey (key t) (.lit (.int .i64 0)) = .lit (.int .i64 v))
    (h : w'.ownsMap Try.prog 3 (plainElem Try.prog 3) mb m (D.put (key t) (.lit (.int .i64 v)))) : Tab w' mb (if (g t).isSome then n else n + 1) (putAt g t v) := by
  have hz : Maps.size (D.put (key t) (.lit (.int .i64 v))) = if (g t).isSome then n else n + 1 := by rw [size_put hT, (hg t).1, hs]
  refine ⟨_, hz ▸ owns_tight h, hz, fun x => ?_⟩
  unfold putAt
  by_cases hx : x = t
  · subst hx
    rw [if_pos rfl]
    exact ⟨has_put_same h0 (isKey x) _, fun u hu => by cases hu; exact atKey_put_same h0 (isKey x) _ _⟩
  · rw [if_neg hx, has_put_other (key_ne hx), atKey_put_other (key_ne hx)]
    exact hg x

theorem tab_del {w' : World} {mb n m : Nat} {g : Int → Option Int} {t : Int} {D : DataW Unit} (hT : Tidy D) (hs : Maps.size D = n) (hg : ∀ t : Int, has D (key t) = (g t).isSome ∧ ∀ v, g t = some v → D.atKey (key t) (.lit (.int .i64 0)) = .lit (.int .i64 v))
    (h : w'.ownsMap Try.prog 3 (plainElem Try.prog 3) mb m (D.del (key t))) : Tab w' mb (if (g t).isSome then n - 1 else n) (delAt g t) := by
  have hz : Maps.size (D.del (key t)) = if (g t).isSome then n - 1 else n := by
    have := size_del (k := key t) hT
    rw [(hg t).1, hs] at this
    split at this <;> split <;> simp_all <;> omega
  refine ⟨_, hz ▸ owns_tight h, hz, fun x => ?_⟩
  unfold delAt
  by_cases hx : x = t
  · subst hx
    rw [if_pos rfl]
    exact ⟨has_del_same, fun u hu => by cases hu⟩
  · rw [if_neg hx, has_del_other (key_ne hx), atKey_del_other (key_ne hx)]
    exact hg x

/-- 'm[t] = v', at the operation. -/
theorem wpList_put {w : World} {ops : Array Oper} {rest : List Oper} {o : Oper} {a : Act} {Q : Exit → Act → World → Prop} (hgd : o.guard = none) (m x v : Operand)
    (ho : o.op = Op.mapUpdate 100 m x v) (mb n : Nat) (g : Int → Option Int) (t u : Int) (hm : a.eval m = .map (some mb)) (hx : a.eval x = .int .i64 t) (hv : a.eval v = .int .i64 u)
    (h : Tab w mb n g) (hn : n < maxLen) (ht : (Lit.int .i64 t).wf = true) (hu : (Lit.int .i64 u).wf = true)
    (K : ∀ w', Tab w' mb (if (g t).isSome then n else n + 1) (putAt g t u) → w.grownBy w' (some mb) → wpList Try.prog ops Q rest (a.put o.dst undef) w') : wpList Try.prog ops Q (o :: rest) a w := by
  obtain ⟨D, h1, h2, h3⟩ := h
  refine wpList_mapUpdate_own _ hgd m x v 100 ho 3 3 keyed Try.underlying100 _ mb n D hm h1 hn _ _ _ hx hv (keyOf_int_mk Try.underlying3 ht) _ [] (plainElem_int Try.underlying3 hu) ?_
  intro w' h4 h5
  exact K w' (tab_put h1.isMap (h1.tidy keyed) h2 h3 h4) h5

/-- 'v, ok := m[t]', at the operation. -/
theorem wpList_look {w : World} {ops : Array Oper} {rest : List Oper} {o : Oper} {a : Act} {Q : Exit → Act → World → Prop} (hgd : o.guard = none) (m x : Operand)
    (ho : o.op = Op.lookup 100 m x true) (mb n : Nat) (g : Int → Option Int) (t : Int) (hm : a.eval m = .map (some mb)) (hx : a.eval x = .int .i64 t)
    (h : Tab w mb n g) (ht : (Lit.int .i64 t).wf = true)
    (K : wpList Try.prog ops Q rest (a.put o.dst (.tuple #[.int .i64 ((g t).getD 0), .bool (g t).isSome])) w) : wpList Try.prog ops Q (o :: rest) a w := by
  obtain ⟨D, h1, h2, h3⟩ := h
  refine wpList_lookup_own_ok_int _ hgd m x 100 ho 3 3 .i64 keyed Try.underlying100 Try.underlying3 (zero_int _) mb n D hm h1 _ _ hx (keyOf_int_mk Try.underlying3 ht) ?_
  intro c hat hwc
  rw [(h3 t).1]
  have : c = (g t).getD 0 := by
    cases hg : g t with
    | none =>
      rw [atKey_of_not_has (by rw [(h3 t).1, hg]; rfl)] at hat
      simpa using hat.symm
    | some v =>
      rw [(h3 t).2 v hg] at hat
      simpa using hat.symm
  rw [this]
  exact K

/-- 'm[t]', at the operation. -/
theorem wpList_look1 {w : World} {ops : Array Oper} {rest : List Oper} {o : Oper} {a : Act} {Q : Exit → Act → World → Prop} (hgd : o.guard = none) (m x : Operand)
    (ho : o.op = Op.lookup 100 m x false) (mb n : Nat) (g : Int → Option Int) (t : Int) (hm : a.eval m = .map (some mb)) (hx : a.eval x = .int .i64 t)
    (h : Tab w mb n g) (ht : (Lit.int .i64 t).wf = true)
    (K : wpList Try.prog ops Q rest (a.put o.dst (.int .i64 ((g t).getD 0))) w) : wpList Try.prog ops Q (o :: rest) a w := by
  obtain ⟨D, h1, h2, h3⟩ := h
  refine wpList_lookup_own_int _ hgd m x 100 ho 3 3 .i64 keyed Try.underlying100 Try.underlying3 (zero_int _) mb n D hm h1 _ _ hx (keyOf_int_mk Try.underlying3 ht) ?_
  intro c hat hwc
  have : c = (g t).getD 0 := by
    cases hg : g t with
    | none =>
      rw [atKey_of_not_has (by rw [(h3 t).1, hg]; rfl)] at hat
      simpa using hat.symm
    | some v =>
      rw [(h3 t).2 v hg] at hat
      simpa using hat.symm
  rw [this]
  exact K

/-- 'delete(m, t)', at the operation. -/
theorem wpList_strike {w : World} {ops : Array Oper} {rest : List Oper} {o : Oper} {a : Act} {Q : Exit → Act → World → Prop} (hgd : o.guard = none) (m x : Operand)
    (ho : o.op = Op.call { callee := Callee.builtin Builtin.delete, args := #[m, x], argTypes := #[100, 3] }) (mb n : Nat) (g : Int → Option Int) (t : Int) (hm : a.eval m = .map (some mb)) (hx : a.eval x = .int .i64 t)
    (h : Tab w mb n g) (ht : (Lit.int .i64 t).wf = true)
    (K : ∀ w', Tab w' mb (if (g t).isSome then n - 1 else n) (delAt g t) → w.grownBy w' (some mb) → wpList Try.prog ops Q rest (a.put o.dst (.tuple #[])) w') : wpList Try.prog ops Q (o :: rest) a w := by
  obtain ⟨D, h1, h2, h3⟩ := h
  refine wpList_delete_own _ hgd m x 100 3 ho 3 keyed Try.underlying100 _ mb n D hm h1 _ _ hx (keyOf_int_mk Try.underlying3 ht) ?_
  intro w' h4 h5
  exact K w' (tab_del (h1.tidy keyed) h2 h3 h4) h5.grown
end Go.Proofs.Ytonfdmbcbfpgdaa
