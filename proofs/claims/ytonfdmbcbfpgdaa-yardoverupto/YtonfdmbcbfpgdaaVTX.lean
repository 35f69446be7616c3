/-
  VTabI, VTabS.
-/
import Derived.Test.YtonfdmbcbfpgdaaKit
import Derived.StringKeys
namespace Go.Proofs.Ytonfdmbcbfpgdaa
open Go.RowKit Go.Maps Go.ChangeMaps

abbrev keyI (t : Int) : Lit := .int .i64 t
theorem keyedI : Keyed Try.prog 3 := int_keyed Try.underlying3
theorem isKeyI (t : Int) : WideAt.IsKeyLit (keyI t) := trivial
theorem key_neI {t u : Int} (h : t ≠ u) : keyI t ≠ keyI u := fun e => h (by simpa [keyI] using e)
/-- An element reads as itself. -/
def heldElemI (v : Value) : Option (DataW Value × List MemPlace) := some (.held v, [])
/-- Block mb is a map of n entries: g tells what it has at each key. -/
def VTabI (w : World) (mb n : Nat) (g : Int → Option Value) : Prop :=
  ∃ D : DataW Value, w.ownsMap Try.prog 3 heldElemI mb n D ∧ Maps.size D = n ∧ ∀ t : Int, has D (keyI t) = (g t).isSome ∧ ∀ v, g t = some v → ∀ d, D.atKey (keyI t) d = .held v
theorem VTabI.lt {w : World} {mb n : Nat} {g : Int → Option Value} (h : VTabI w mb n g) : mb < w.heap.size := by
  obtain ⟨D, h1, _⟩ := h
  exact h1.lt
theorem VTabI.map {w : World} {mb n : Nat} {g : Int → Option Value} (h : VTabI w mb n g) : ∃ es clock, w.heap[mb]? = some (.map es clock) := by
  obtain ⟨D, ⟨es, clock, hb, _⟩, _⟩ := h
  exact ⟨es, clock, hb⟩
theorem VTabI.block {w w' : World} {mb n : Nat} {g : Int → Option Value} (h : VTabI w mb n g) (hb : w'.heap[mb]? = w.heap[mb]?) : VTabI w' mb n g := by
  obtain ⟨D, ⟨es, clock, h0, rest⟩, h2⟩ := h
  exact ⟨D, ⟨es, clock, hb.trans h0, rest⟩, h2⟩
theorem VTabI.kept {P : Nat → Prop} {w w' : World} {mb n : Nat} {g : Int → Option Value} (h : VTabI w mb n g) (hk : Kept P w w') (hP : ¬ P mb) : VTabI w' mb n g := h.block (hk.block mb h.lt hP)
theorem VTabI.congr {w : World} {mb n n' : Nat} {g g' : Int → Option Value} (h : VTabI w mb n g) (hn : n' = n) (e : ∀ t, g' t = g t) : VTabI w mb n' g' := by
  obtain rfl : g' = g := funext e
  obtain rfl := hn
  exact h
theorem VTabI.made (w : World) : VTabI (w.alloc (.map #[] 0)) w.heap.size 0 (fun _ => none) :=
  ⟨.map [], World.ownsMap_made _ _ _ _, rfl, fun _ => ⟨rfl, fun _ h => by cases h⟩⟩
theorem vowns_tightI {w : World} {mb n : Nat} {D : DataW Value} (h : w.ownsMap Try.prog 3 heldElemI mb n D) : w.ownsMap Try.prog 3 heldElemI mb (Maps.size D) D := by
  obtain ⟨es, clock, hb, F, hs, hD⟩ := h
  exact ⟨es, clock, hb, F, by rw [hD, size_eq, length_read]; exact Nat.le_refl _, hD⟩
def putVI (g : Int → Option Value) (t : Int) (v : Value) : Int → Option Value := fun x => if x = t then some v else g x
def delVI (g : Int → Option Value) (t : Int) : Int → Option Value := fun x => if x = t then none else g x
theorem putVI_at (g : Int → Option Value) (t : Int) (v : Value) : putVI g t v t = some v := if_pos rfl
theorem putVI_ne (g : Int → Option Value) {t x : Int} (v : Value) (h : x ≠ t) : putVI g t v x = g x := if_neg h
theorem delVI_at (g : Int → Option Value) (t : Int) : delVI g t t = none := if_pos rfl
theorem delVI_ne (g : Int → Option Value) {t x : Int} (h : x ≠ t) : delVI g t x = g x := if_neg h
theorem vtab_putI {w' : World} {mb n m : Nat} {g : Int → Option Value} {t : Int} {v : Value} {D : DataW Value} (h0 : IsMap D) (hT : Tidy D) (hs : Maps.size D = n) (hg : ∀ t : Int, has D (keyI t) = (g t).isSome ∧ ∀ v, g t = some v → ∀ d, D.atKey (keyI t) d = .held v)
    (h : w'.ownsMap Try.prog 3 heldElemI mb m (D.put (keyI t) (.held v))) : VTabI w' mb (if (g t).isSome then n else n + 1) (putVI g t v) := by
  have hz : Maps.size (D.put (keyI t) (.held v)) = if (g t).isSome then n else n + 1 := by rw [size_put hT, (hg t).1, hs]
  refine ⟨_, hz ▸ vowns_tightI h, hz, fun x => ?_⟩
  unfold putVI
  by_cases hx : x = t
  · subst hx
    rw [if_pos rfl]
    exact ⟨has_put_same h0 (isKeyI x) _, fun u hu d => by cases hu; exact atKey_put_same h0 (isKeyI x) _ _⟩
  · rw [if_neg hx, has_put_other (key_neI hx)]
    refine ⟨(hg x).1, fun u hu d => ?_⟩
    rw [atKey_put_other (key_neI hx)]
    exact (hg x).2 u hu d
theorem vtab_delI {w' : World} {mb n m : Nat} {g : Int → Option Value} {t : Int} {D : DataW Value} (hT : Tidy D) (hs : Maps.size D = n) (hg : ∀ t : Int, has D (keyI t) = (g t).isSome ∧ ∀ v, g t = some v → ∀ d, D.atKey (keyI t) d = .held v)
    (h : w'.ownsMap Try.prog 3 heldElemI mb m (D.del (keyI t))) : VTabI w' mb (if (g t).isSome then n - 1 else n) (delVI g t) := by
  have hz : Maps.size (D.del (keyI t)) = if (g t).isSome then n - 1 else n := by
    have := size_del (k := keyI t) hT
    rw [(hg t).1, hs] at this
    split at this <;> split <;> simp_all <;> omega
  refine ⟨_, hz ▸ vowns_tightI h, hz, fun x => ?_⟩
  unfold delVI
  by_cases hx : x = t
  · subst hx
    rw [if_pos rfl]
    exact ⟨has_del_same, fun u hu => by cases hu⟩
  · rw [if_neg hx, has_del_other (key_neI hx)]
    refine ⟨(hg x).1, fun u hu d => ?_⟩
    rw [atKey_del_other (key_neI hx)]
    exact (hg x).2 u hu d
theorem vtab_valI {g : Int → Option Value} {D : DataW Value} {z : Value} (hg : ∀ t : Int, has D (keyI t) = (g t).isSome ∧ ∀ v, g t = some v → ∀ d, D.atKey (keyI t) d = .held v)
    {t : Int} {v : Value} {ps : List MemPlace} (hv : heldElemI v = some (D.atKey (keyI t) (.held z), ps)) : v = (g t).getD z := by
  have e : DataW.held v = D.atKey (keyI t) (.held z) := by
    simp only [heldElemI, Option.some.injEq, Prod.mk.injEq] at hv
    exact hv.1
  cases hgt : g t with
  | none =>
    rw [atKey_of_not_has (by rw [(hg t).1, hgt]; rfl)] at e
    exact DataW.held.inj e
  | some x =>
    rw [(hg t).2 x hgt] at e
    exact DataW.held.inj e

section
variable {w : World} {ops : Array Oper} {rest : List Oper} {o : Oper} {a : Act} {Q : Exit → Act → World → Prop}
/-- 'm[t] = v', as a run. -/
theorem VTabI.put_run {T E : TypeId} (hT : Try.prog.underlying T = some (.map 3 E)) {mb n : Nat} {g : Int → Option Value} (h : VTabI w mb n g) (t : Int) (x : Value) (hn : n < maxLen) (ht : (Lit.int .i64 t).wf = true) :
    ∃ w', (Instr.mapUpdate T (.map (some mb)) (.int .i64 t) x).run Try.prog w = .ok () w' ∧ VTabI w' mb (if (g t).isSome then n else n + 1) (putVI g t x) ∧ w.grownBy w' (some mb) := by
  obtain ⟨D, h1, h2, h3⟩ := h
  obtain ⟨w', hrun, h4, h5⟩ := h1.update keyedI hT hn (keyOf_int_mk Try.underlying3 ht) (show heldElemI x = some (.held x, []) from rfl)
  exact ⟨w', hrun, vtab_putI h1.isMap (h1.tidy keyedI) h2 h3 h4, h5⟩
/-- 'm[t]', as a run. -/
theorem VTabI.look_run {T E : TypeId} (hT : Try.prog.underlying T = some (.map 3 E)) {z : Value} (hz : (zeroValue E).run Try.prog w = .ok z w) {mb n : Nat} {g : Int → Option Value} (h : VTabI w mb n g) (t : Int) (ht : (Lit.int .i64 t).wf = true) :
    (Instr.lookup T (.map (some mb)) (.int .i64 t) false).run Try.prog w = .ok ((g t).getD z) w := by
  obtain ⟨D, h1, h2, h3⟩ := h
  obtain ⟨v, ps, hrun, hv⟩ := h1.lookup keyedI hT hz (show heldElemI z = some (.held z, []) from rfl) (keyOf_int_mk Try.underlying3 ht)
  rw [vtab_valI h3 hv] at hrun
  exact hrun
/-- 'v, ok := m[t]', as a run. -/
theorem VTabI.look2_run {T E : TypeId} (hT : Try.prog.underlying T = some (.map 3 E)) {z : Value} (hz : (zeroValue E).run Try.prog w = .ok z w) {mb n : Nat} {g : Int → Option Value} (h : VTabI w mb n g) (t : Int) (ht : (Lit.int .i64 t).wf = true) :
    (Instr.lookup T (.map (some mb)) (.int .i64 t) true).run Try.prog w = .ok (.tuple #[(g t).getD z, .bool (g t).isSome]) w := by
  obtain ⟨D, h1, h2, h3⟩ := h
  obtain ⟨v, ps, hrun, hv⟩ := h1.look_ok keyedI hT hz (show heldElemI z = some (.held z, []) from rfl) (keyOf_int_mk Try.underlying3 ht)
  rw [vtab_valI h3 hv, (h3 t).1] at hrun
  exact hrun
/-- 'm[t] = v', at the operation. -/
theorem wpList_vputI (hgd : o.guard = none) (m x v : Operand) (T E : TypeId) (hT : Try.prog.underlying T = some (.map 3 E))
    (ho : o.op = Op.mapUpdate T m x v) (mb n : Nat) (g : Int → Option Value) (t : Int) (u : Value) (hm : a.eval m = .map (some mb)) (hx : a.eval x = .int .i64 t) (hv : a.eval v = u)
    (h : VTabI w mb n g) (hn : n < maxLen) (ht : (Lit.int .i64 t).wf = true)
    (K : ∀ w', VTabI w' mb (if (g t).isSome then n else n + 1) (putVI g t u) → w.grownBy w' (some mb) → wpList Try.prog ops Q rest (a.put o.dst undef) w') : wpList Try.prog ops Q (o :: rest) a w := by
  obtain ⟨D, h1, h2, h3⟩ := h
  refine wpList_mapUpdate_own _ hgd m x v T ho 3 E keyedI hT _ mb n D hm h1 hn _ _ _ hx hv (keyOf_int_mk Try.underlying3 ht) _ [] (show heldElemI u = some (.held u, []) from rfl) ?_
  intro w' h4 h5
  exact K w' (vtab_putI h1.isMap (h1.tidy keyedI) h2 h3 h4) h5
/-- 'v, ok := m[t]', at the operation. -/
theorem wpList_vlookI (hgd : o.guard = none) (m x : Operand) (T E : TypeId) (hT : Try.prog.underlying T = some (.map 3 E)) {z : Value} (hz : (zeroValue E).run Try.prog w = .ok z w)
    (ho : o.op = Op.lookup T m x true) (mb n : Nat) (g : Int → Option Value) (t : Int) (hm : a.eval m = .map (some mb)) (hx : a.eval x = .int .i64 t)
    (h : VTabI w mb n g) (ht : (Lit.int .i64 t).wf = true)
    (K : wpList Try.prog ops Q rest (a.put o.dst (.tuple #[(g t).getD z, .bool (g t).isSome])) w) : wpList Try.prog ops Q (o :: rest) a w := by
  obtain ⟨D, h1, h2, h3⟩ := h
  refine wpList_lookup_own_ok _ hgd m x T ho 3 E keyedI hT heldElemI hz _ [] (show heldElemI z = some (.held z, []) from rfl) mb n D hm h1 _ _ hx (keyOf_int_mk Try.underlying3 ht) ?_
  intro v ps hv
  rw [(h3 t).1, vtab_valI h3 hv]
  exact K
/-- 'delete(m, t)', at the operation. -/
theorem wpList_vstrikeI (hgd : o.guard = none) (m x : Operand) (T E : TypeId) (hT : Try.prog.underlying T = some (.map 3 E))
    (ho : o.op = Op.call { callee := Callee.builtin Builtin.delete, args := #[m, x], argTypes := #[T, 3] }) (mb n : Nat) (g : Int → Option Value) (t : Int) (hm : a.eval m = .map (some mb)) (hx : a.eval x = .int .i64 t)
    (h : VTabI w mb n g) (ht : (Lit.int .i64 t).wf = true)
    (K : ∀ w', VTabI w' mb (if (g t).isSome then n - 1 else n) (delVI g t) → w.grownBy w' (some mb) → wpList Try.prog ops Q rest (a.put o.dst (.tuple #[])) w') : wpList Try.prog ops Q (o :: rest) a w := by
  obtain ⟨D, h1, h2, h3⟩ := h
  refine wpList_delete_own _ hgd m x T 3 ho E keyedI hT _ mb n D hm h1 _ _ hx (keyOf_int_mk Try.underlying3 ht) ?_
  intro w' h4 h5
  exact K w' (vtab_delI (h1.tidy keyedI) h2 h3 h4) h5.grown
/-- 'len(m)', at the operation. -/
theorem wpList_vlenI (hgd : o.guard = none) (m : Operand) (T E : TypeId) (hT : Try.prog.underlying T = some (.map 3 E))
    (ho : o.op = Op.call { callee := Callee.builtin Builtin.len, args := #[m], argTypes := #[T] }) (mb n : Nat) (g : Int → Option Value) (hm : a.eval m = .map (some mb)) (h : VTabI w mb n g)
    (K : wpList Try.prog ops Q rest (a.put o.dst (.int .i64 (n : Int))) w) : wpList Try.prog ops Q (o :: rest) a w := by
  obtain ⟨D, h1, h2, h3⟩ := h
  refine wpList_len_own _ hgd m T ho 3 E hT _ mb n D hm h1 ?_
  rw [h2]
  exact K
end
end Go.Proofs.Ytonfdmbcbfpgdaa

namespace Go.Proofs.Ytonfdmbcbfpgdaa
open Go.RowKit Go.Maps Go.ChangeMaps

abbrev keyS (t : ByteArray) : Lit := .string t.data.toList
theorem keyedS : Keyed Try.prog 9 := string_keyed Try.underlying9
theorem isKeyS (t : ByteArray) : WideAt.IsKeyLit (keyS t) := trivial
theorem key_neS {t u : ByteArray} (h : t ≠ u) : keyS t ≠ keyS u := fun e => h (by
    have e2 : t.data.toList = u.data.toList := by simpa [keyS] using e
    cases t; cases u
    simp only [ByteArray.mk.injEq]
    exact Array.toList_inj.1 e2)
/-- An element reads as itself. -/
def heldElemS (v : Value) : Option (DataW Value × List MemPlace) := some (.held v, [])
/-- Block mb is a map of n entries: g tells what it has at each key. -/
def VTabS (w : World) (mb n : Nat) (g : ByteArray → Option Value) : Prop :=
  ∃ D : DataW Value, w.ownsMap Try.prog 9 heldElemS mb n D ∧ Maps.size D = n ∧ ∀ t : ByteArray, has D (keyS t) = (g t).isSome ∧ ∀ v, g t = some v → ∀ d, D.atKey (keyS t) d = .held v
theorem VTabS.lt {w : World} {mb n : Nat} {g : ByteArray → Option Value} (h : VTabS w mb n g) : mb < w.heap.size := by
  obtain ⟨D, h1, _⟩ := h
  exact h1.lt
theorem VTabS.map {w : World} {mb n : Nat} {g : ByteArray → Option Value} (h : VTabS w mb n g) : ∃ es clock, w.heap[mb]? = some (.map es clock) := by
  obtain ⟨D, ⟨es, clock, hb, _⟩, _⟩ := h
  exact ⟨es, clock, hb⟩
theorem VTabS.block {w w' : World} {mb n : Nat} {g : ByteArray → Option Value} (h : VTabS w mb n g) (hb : w'.heap[mb]? = w.heap[mb]?) : VTabS w' mb n g := by
  obtain ⟨D, ⟨es, clock, h0, rest⟩, h2⟩ := h
  exact ⟨D, ⟨es, clock, hb.trans h0, rest⟩, h2⟩
theorem VTabS.kept {P : Nat → Prop} {w w' : World} {mb n : Nat} {g : ByteArray → Option Value} (h : VTabS w mb n g) (hk : Kept P w w') (hP : ¬ P mb) : VTabS w' mb n g := h.block (hk.block mb h.lt hP)
theorem VTabS.congr {w : World} {mb n n' : Nat} {g g' : ByteArray → Option Value} (h : VTabS w mb n g) (hn : n' = n) (e : ∀ t, g' t = g t) : VTabS w mb n' g' := by
  obtain rfl : g' = g := funext e
  obtain rfl := hn
  exact h
theorem VTabS.made (w : World) : VTabS (w.alloc (.map #[] 0)) w.heap.size 0 (fun _ => none) :=
  ⟨.map [], World.ownsMap_made _ _ _ _, rfl, fun _ => ⟨rfl, fun _ h => by cases h⟩⟩
theorem vowns_tightS {w : World} {mb n : Nat} {D : DataW Value} (h : w.ownsMap Try.prog 9 heldElemS mb n D) : w.ownsMap Try.prog 9 heldElemS mb (Maps.size D) D := by
  obtain ⟨es, clock, hb, F, hs, hD⟩ := h
  exact ⟨es, clock, hb, F, by rw [hD, size_eq, length_read]; exact Nat.le_refl _, hD⟩
def putVS (g : ByteArray → Option Value) (t : ByteArray) (v : Value) : ByteArray → Option Value := fun x => if x = t then some v else g x
def delVS (g : ByteArray → Option Value) (t : ByteArray) : ByteArray → Option Value := fun x => if x = t then none else g x
theorem putVS_at (g : ByteArray → Option Value) (t : ByteArray) (v : Value) : putVS g t v t = some v := if_pos rfl
theorem putVS_ne (g : ByteArray → Option Value) {t x : ByteArray} (v : Value) (h : x ≠ t) : putVS g t v x = g x := if_neg h
theorem delVS_at (g : ByteArray → Option Value) (t : ByteArray) : delVS g t t = none := if_pos rfl
theorem delVS_ne (g : ByteArray → Option Value) {t x : ByteArray} (h : x ≠ t) : delVS g t x = g x := if_neg h
theorem vtab_putS {w' : World} {mb n m : Nat} {g : ByteArray → Option Value} {t : ByteArray} {v : Value} {D : DataW Value} (h0 : IsMap D) (hT : Tidy D) (hs : Maps.size D = n) (hg : ∀ t : ByteArray, has D (keyS t) = (g t).isSome ∧ ∀ v, g t = some v → ∀ d, D.atKey (keyS t) d = .held v)
    (h : w'.ownsMap Try.prog 9 heldElemS mb m (D.put (keyS t) (.held v))) : VTabS w' mb (if (g t).isSome then n else n + 1) (putVS g t v) := by
  have hz : Maps.size (D.put (keyS t) (.held v)) = if (g t).isSome then n else n + 1 := by rw [size_put hT, (hg t).1, hs]
  refine ⟨_, hz ▸ vowns_tightS h, hz, fun x => ?_⟩
  unfold putVS
  by_cases hx : x = t
  · subst hx
    rw [if_pos rfl]
    exact ⟨has_put_same h0 (isKeyS x) _, fun u hu d => by cases hu; exact atKey_put_same h0 (isKeyS x) _ _⟩
  · rw [if_neg hx, has_put_other (key_neS hx)]
    refine ⟨(hg x).1, fun u hu d => ?_⟩
    rw [atKey_put_other (key_neS hx)]
    exact (hg x).2 u hu d
theorem vtab_delS {w' : World} {mb n m : Nat} {g : ByteArray → Option Value} {t : ByteArray} {D : DataW Value} (hT : Tidy D) (hs : Maps.size D = n) (hg : ∀ t : ByteArray, has D (keyS t) = (g t).isSome ∧ ∀ v, g t = some v → ∀ d, D.atKey (keyS t) d = .held v)
    (h : w'.ownsMap Try.prog 9 heldElemS mb m (D.del (keyS t))) : VTabS w' mb (if (g t).isSome then n - 1 else n) (delVS g t) := by
  have hz : Maps.size (D.del (keyS t)) = if (g t).isSome then n - 1 else n := by
    have := size_del (k := keyS t) hT
    rw [(hg t).1, hs] at this
    split at this <;> split <;> simp_all <;> omega
  refine ⟨_, hz ▸ vowns_tightS h, hz, fun x => ?_⟩
  unfold delVS
  by_cases hx : x = t
  · subst hx
    rw [if_pos rfl]
    exact ⟨has_del_same, fun u hu => by cases hu⟩
  · rw [if_neg hx, has_del_other (key_neS hx)]
    refine ⟨(hg x).1, fun u hu d => ?_⟩
    rw [atKey_del_other (key_neS hx)]
    exact (hg x).2 u hu d
theorem vtab_valS {g : ByteArray → Option Value} {D : DataW Value} {z : Value} (hg : ∀ t : ByteArray, has D (keyS t) = (g t).isSome ∧ ∀ v, g t = some v → ∀ d, D.atKey (keyS t) d = .held v)
    {t : ByteArray} {v : Value} {ps : List MemPlace} (hv : heldElemS v = some (D.atKey (keyS t) (.held z), ps)) : v = (g t).getD z := by
  have e : DataW.held v = D.atKey (keyS t) (.held z) := by
    simp only [heldElemS, Option.some.injEq, Prod.mk.injEq] at hv
    exact hv.1
  cases hgt : g t with
  | none =>
    rw [atKey_of_not_has (by rw [(hg t).1, hgt]; rfl)] at e
    exact DataW.held.inj e
  | some x =>
    rw [(hg t).2 x hgt] at e
    exact DataW.held.inj e

section
variable {w : World} {ops : Array Oper} {rest : List Oper} {o : Oper} {a : Act} {Q : Exit → Act → World → Prop}
/-- 'm[t] = v', as a run. -/
theorem VTabS.put_run {T E : TypeId} (hT : Try.prog.underlying T = some (.map 9 E)) {mb n : Nat} {g : ByteArray → Option Value} (h : VTabS w mb n g) (t : ByteArray) (x : Value) (hn : n < maxLen) (ht : t.size ≤ maxLen) :
    ∃ w', (Instr.mapUpdate T (.map (some mb)) (.string t) x).run Try.prog w = .ok () w' ∧ VTabS w' mb (if (g t).isSome then n else n + 1) (putVS g t x) ∧ w.grownBy w' (some mb) := by
  obtain ⟨D, h1, h2, h3⟩ := h
  obtain ⟨w', hrun, h4, h5⟩ := h1.update keyedS hT hn (WideMaps.keyOf_string_mk Try.underlying9 ht) (show heldElemS x = some (.held x, []) from rfl)
  exact ⟨w', hrun, vtab_putS h1.isMap (h1.tidy keyedS) h2 h3 h4, h5⟩
/-- 'm[t]', as a run. -/
theorem VTabS.look_run {T E : TypeId} (hT : Try.prog.underlying T = some (.map 9 E)) {z : Value} (hz : (zeroValue E).run Try.prog w = .ok z w) {mb n : Nat} {g : ByteArray → Option Value} (h : VTabS w mb n g) (t : ByteArray) (ht : t.size ≤ maxLen) :
    (Instr.lookup T (.map (some mb)) (.string t) false).run Try.prog w = .ok ((g t).getD z) w := by
  obtain ⟨D, h1, h2, h3⟩ := h
  obtain ⟨v, ps, hrun, hv⟩ := h1.lookup keyedS hT hz (show heldElemS z = some (.held z, []) from rfl) (WideMaps.keyOf_string_mk Try.underlying9 ht)
  rw [vtab_valS h3 hv] at hrun
  exact hrun
/-- 'v, ok := m[t]', as a run. -/
theorem VTabS.look2_run {T E : TypeId} (hT : Try.prog.underlying T = some (.map 9 E)) {z : Value} (hz : (zeroValue E).run Try.prog w = .ok z w) {mb n : Nat} {g : ByteArray → Option Value} (h : VTabS w mb n g) (t : ByteArray) (ht : t.size ≤ maxLen) :
    (Instr.lookup T (.map (some mb)) (.string t) true).run Try.prog w = .ok (.tuple #[(g t).getD z, .bool (g t).isSome]) w := by
  obtain ⟨D, h1, h2, h3⟩ := h
  obtain ⟨v, ps, hrun, hv⟩ := h1.look_ok keyedS hT hz (show heldElemS z = some (.held z, []) from rfl) (WideMaps.keyOf_string_mk Try.underlying9 ht)
  rw [vtab_valS h3 hv, (h3 t).1] at hrun
  exact hrun
/-- 'm[t] = v', at the operation. -/
theorem wpList_vputS (hgd : o.guard = none) (m x v : Operand) (T E : TypeId) (hT : Try.prog.underlying T = some (.map 9 E))
    (ho : o.op = Op.mapUpdate T m x v) (mb n : Nat) (g : ByteArray → Option Value) (t : ByteArray) (u : Value) (hm : a.eval m = .map (some mb)) (hx : a.eval x = .string t) (hv : a.eval v = u)
    (h : VTabS w mb n g) (hn : n < maxLen) (ht : t.size ≤ maxLen)
    (K : ∀ w', VTabS w' mb (if (g t).isSome then n else n + 1) (putVS g t u) → w.grownBy w' (some mb) → wpList Try.prog ops Q rest (a.put o.dst undef) w') : wpList Try.prog ops Q (o :: rest) a w := by
  obtain ⟨D, h1, h2, h3⟩ := h
  refine wpList_mapUpdate_own _ hgd m x v T ho 9 E keyedS hT _ mb n D hm h1 hn _ _ _ hx hv (WideMaps.keyOf_string_mk Try.underlying9 ht) _ [] (show heldElemS u = some (.held u, []) from rfl) ?_
  intro w' h4 h5
  exact K w' (vtab_putS h1.isMap (h1.tidy keyedS) h2 h3 h4) h5
/-- 'v, ok := m[t]', at the operation. -/
theorem wpList_vlookS (hgd : o.guard = none) (m x : Operand) (T E : TypeId) (hT : Try.prog.underlying T = some (.map 9 E)) {z : Value} (hz : (zeroValue E).run Try.prog w = .ok z w)
    (ho : o.op = Op.lookup T m x true) (mb n : Nat) (g : ByteArray → Option Value) (t : ByteArray) (hm : a.eval m = .map (some mb)) (hx : a.eval x = .string t)
    (h : VTabS w mb n g) (ht : t.size ≤ maxLen)
    (K : wpList Try.prog ops Q rest (a.put o.dst (.tuple #[(g t).getD z, .bool (g t).isSome])) w) : wpList Try.prog ops Q (o :: rest) a w := by
  obtain ⟨D, h1, h2, h3⟩ := h
  refine wpList_lookup_own_ok _ hgd m x T ho 9 E keyedS hT heldElemS hz _ [] (show heldElemS z = some (.held z, []) from rfl) mb n D hm h1 _ _ hx (WideMaps.keyOf_string_mk Try.underlying9 ht) ?_
  intro v ps hv
  rw [(h3 t).1, vtab_valS h3 hv]
  exact K
/-- 'delete(m, t)', at the operation. -/
theorem wpList_vstrikeS (hgd : o.guard = none) (m x : Operand) (T E : TypeId) (hT : Try.prog.underlying T = some (.map 9 E))
    (ho : o.op = Op.call { callee := Callee.builtin Builtin.delete, args := #[m, x], argTypes := #[T, 9] }) (mb n : Nat) (g : ByteArray → Option Value) (t : ByteArray) (hm : a.eval m = .map (some mb)) (hx : a.eval x = .string t)
    (h : VTabS w mb n g) (ht : t.size ≤ maxLen)
    (K : ∀ w', VTabS w' mb (if (g t).isSome then n - 1 else n) (delVS g t) → w.grownBy w' (some mb) → wpList Try.prog ops Q rest (a.put o.dst (.tuple #[])) w') : wpList Try.prog ops Q (o :: rest) a w := by
  obtain ⟨D, h1, h2, h3⟩ := h
  refine wpList_delete_own _ hgd m x T 9 ho E keyedS hT _ mb n D hm h1 _ _ hx (WideMaps.keyOf_string_mk Try.underlying9 ht) ?_
  intro w' h4 h5
  exact K w' (vtab_delS (h1.tidy keyedS) h2 h3 h4) h5.grown
/-- 'len(m)', at the operation. -/
theorem wpList_vlenS (hgd : o.guard = none) (m : Operand) (T E : TypeId) (hT : Try.prog.underlying T = some (.map 9 E))
    (ho : o.op = Op.call { callee := Callee.builtin Builtin.len, args := #[m], argTypes := #[T] }) (mb n : Nat) (g : ByteArray → Option Value) (hm : a.eval m = .map (some mb)) (h : VTabS w mb n g)
    (K : wpList Try.prog ops Q rest (a.put o.dst (.int .i64 (n : Int))) w) : wpList Try.prog ops Q (o :: rest) a w := by
  obtain ⟨D, h1, h2, h3⟩ := h
  refine wpList_len_own _ hgd m T ho 9 E hT _ mb n D hm h1 ?_
  rw [h2]
  exact K
end
end Go.Proofs.Ytonfdmbcbfpgdaa
