/-
  A map from numbers to files as a function.
-/
import Derived.Test.YtkmolklcbemfbaaKit
import Derived.Test.YtkmolklcbemfbaaPlainDisk
import Derived.Lib.SlKeysI
namespace Go.Proofs.Ytkmolklcbemfbaa
open Go.RowKit Go.Maps Go.ChangeMaps

abbrev key (t : Int) : Lit := .int .i64 t
theorem keyed : Keyed Try.prog 3 := int_keyed Try.underlying3
theorem isKey (t : Int) : WideAt.IsKeyLit (key t) := trivial
theorem key_ne {t u : Int} (h : t ≠ u) : key t ≠ key u := fun e => h (by simpa using e)

/-- What is in the map: a slice's value, and a number. -/
abbrev FV := Value × Int
def fileV (x : FV) : Value := .agg #[x.1, .int .i64 x.2]
/-- A slice's value that begins its block, or nil. -/
def isSl : Value → Bool
  | .slice none _ _ => true
  | .slice (some ⟨_, 0, none⟩) _ _ => true
  | _ => false
def encSl (v : Value) (s : Int) : DataW Unit := match v with
  | .slice none n c => .agg [.lit (.int .i64 (-1)), .lit (.int .i64 n), .lit (.int .i64 c), .lit (.int .i64 s)]
  | .slice (some p) n c => .agg [.lit (.int .i64 p.block), .lit (.int .i64 n), .lit (.int .i64 c), .lit (.int .i64 s)]
  | _ => .nil
/-- How a file reads. -/
def fileParts : List Value → Option (DataW Unit × List MemPlace)
  | [v, .int .i64 s] => if isSl v = true then some (encSl v s, []) else none
  | _ => none
def fileElem : Value → Option (DataW Unit × List MemPlace)
  | .agg cs => fileParts cs.toList
  | _ => none
theorem fileElem_of {x : FV} (h : isSl x.1 = true) : fileElem (fileV x) = some (encSl x.1 x.2, []) := by
  simp [fileElem, fileParts, fileV, h]
theorem encSl_inj {v v' : Value} {s s' : Int} (h : isSl v = true) (h' : isSl v' = true) (e : encSl v s = encSl v' s') : v = v' ∧ s = s' := by
  unfold isSl at h h'
  split at h <;> split at h' <;> simp_all [encSl] <;> omega
theorem fileElem_inv {u : Value} {x : FV} {ps : List MemPlace} (hx : isSl x.1 = true) (h : fileElem u = some (encSl x.1 x.2, ps)) : u = fileV x := by
  unfold fileElem at h
  split at h
  · rename_i cs
    unfold fileParts at h
    split at h
    · rename_i v s hcs
      split at h
      · simp only [Option.some.injEq, Prod.mk.injEq] at h
        obtain ⟨e1, e2⟩ := encSl_inj (by assumption) hx h.1
        obtain ⟨l⟩ := cs
        simp only at hcs
        rw [hcs, e1, e2]
        rfl
      · cases h
    · cases h
  · cases h
def noFile : FV := (.slice none 0 0, 0)

/-- Block mb is a map of n entries: g tells what it has at each number. -/
def FTab (w : World) (mb n : Nat) (g : Int → Option FV) : Prop :=
  (∀ t x, g t = some x → isSl x.1 = true) ∧
  ∃ D : DataW Unit, w.ownsMap Try.prog 3 fileElem mb n D ∧ Maps.size D = n ∧ ∀ t : Int, has D (key t) = (g t).isSome ∧ ∀ x, g t = some x → D.atKey (key t) (encSl noFile.1 noFile.2) = encSl x.1 x.2

theorem FTab.lt {w : World} {mb n : Nat} {g : Int → Option FV} (h : FTab w mb n g) : mb < w.heap.size := by
  obtain ⟨_, D, h1, _⟩ := h
  exact h1.lt
theorem FTab.map {w : World} {mb n : Nat} {g : Int → Option FV} (h : FTab w mb n g) : ∃ es clock, w.heap[mb]? = some (.map es clock) := by
  obtain ⟨_, D, ⟨es, clock, hb, _⟩, _⟩ := h
  exact ⟨es, clock, hb⟩
theorem FTab.block {w w' : World} {mb n : Nat} {g : Int → Option FV} (h : FTab w mb n g) (hb : w'.heap[mb]? = w.heap[mb]?) : FTab w' mb n g := by
  obtain ⟨hs, D, ⟨es, clock, h0, rest⟩, h2⟩ := h
  exact ⟨hs, D, ⟨es, clock, hb.trans h0, rest⟩, h2⟩
theorem FTab.congr {w : World} {mb n n' : Nat} {g g' : Int → Option FV} (h : FTab w mb n g) (hn : n' = n) (e : ∀ t, g' t = g t) : FTab w mb n' g' := by
  obtain rfl : g' = g := funext e
  obtain rfl := hn
  exact h
theorem FTab.made (w : World) : FTab (w.alloc (.map #[] 0)) w.heap.size 0 (fun _ => none) :=
  ⟨(fun _ _ h => by cases h), .map [], World.ownsMap_made _ _ _ _, rfl, fun _ => ⟨rfl, fun _ h => by cases h⟩⟩
theorem fowns_tight {w : World} {mb n : Nat} {D : DataW Unit} (h : w.ownsMap Try.prog 3 fileElem mb n D) : w.ownsMap Try.prog 3 fileElem mb (Maps.size D) D := by
  obtain ⟨es, clock, hb, F, hs, hD⟩ := h
  exact ⟨es, clock, hb, F, by rw [hD, size_eq, length_read]; exact Nat.le_refl _, hD⟩
def putAt (g : Int → Option FV) (t : Int) (v : FV) : Int → Option FV := fun x => if x = t then some v else g x
def delAt (g : Int → Option FV) (t : Int) : Int → Option FV := fun x => if x = t then none else g x

theorem ftab_put {w' : World} {mb n m : Nat} {g : Int → Option FV} {t : Int} {v : FV} (hv : isSl v.1 = true) {D : DataW Unit} (h0 : IsMap D) (hT : Tidy D) (hs : Maps.size D = n) (hi : ∀ t x, g t = some x → isSl x.1 = true) (hg : ∀ t : Int, has D (key t) = (g t).isSome ∧ ∀ x, g t = some x → D.atKey (key t) (encSl noFile.1 noFile.2) = encSl x.1 x.2)
    (h : w'.ownsMap Try.prog 3 fileElem mb m (D.put (key t) (encSl v.1 v.2))) : FTab w' mb (if (g t).isSome then n else n + 1) (putAt g t v) := by
  have hz : Maps.size (D.put (key t) (encSl v.1 v.2)) = if (g t).isSome then n else n + 1 := by rw [size_put hT, (hg t).1, hs]
  refine ⟨fun x y hy => ?_, _, hz ▸ fowns_tight h, hz, fun x => ?_⟩
  · unfold putAt at hy
    split at hy
    · cases hy; exact hv
    · exact hi x y hy
  unfold putAt
  by_cases hx : x = t
  · subst hx
    rw [if_pos rfl]
    exact ⟨has_put_same h0 (isKey x) _, fun u hu => by cases hu; exact atKey_put_same h0 (isKey x) _ _⟩
  · rw [if_neg hx, has_put_other (key_ne hx), atKey_put_other (key_ne hx)]
    exact hg x
theorem ftab_del {w' : World} {mb n m : Nat} {g : Int → Option FV} {t : Int} {D : DataW Unit} (hT : Tidy D) (hs : Maps.size D = n) (hi : ∀ t x, g t = some x → isSl x.1 = true) (hg : ∀ t : Int, has D (key t) = (g t).isSome ∧ ∀ x, g t = some x → D.atKey (key t) (encSl noFile.1 noFile.2) = encSl x.1 x.2)
    (h : w'.ownsMap Try.prog 3 fileElem mb m (D.del (key t))) : FTab w' mb (if (g t).isSome then n - 1 else n) (delAt g t) := by
  have hz : Maps.size (D.del (key t)) = if (g t).isSome then n - 1 else n := by
    have := size_del (k := key t) hT
    rw [(hg t).1, hs] at this
    split at this <;> split <;> simp_all <;> omega
  refine ⟨fun x y hy => ?_, _, hz ▸ fowns_tight h, hz, fun x => ?_⟩
  · unfold delAt at hy
    split at hy
    · cases hy
    · exact hi x y hy
  unfold delAt
  by_cases hx : x = t
  · subst hx
    rw [if_pos rfl]
    exact ⟨has_del_same, fun u hu => by cases hu⟩
  · rw [if_neg hx, has_del_other (key_ne hx), atKey_del_other (key_ne hx)]
    exact hg x

theorem zero_file (w : World) : (zeroValue 92).run Try.prog w = .ok (fileV noFile) w := by kernel_rfl
theorem FTab.val {g : Int → Option FV} {D : DataW Unit} (hi : ∀ t x, g t = some x → isSl x.1 = true) (hg : ∀ t : Int, has D (key t) = (g t).isSome ∧ ∀ x, g t = some x → D.atKey (key t) (encSl noFile.1 noFile.2) = encSl x.1 x.2)
    {t : Int} {v : Value} {ps : List MemPlace} (hv : fileElem v = some (D.atKey (key t) (encSl noFile.1 noFile.2), ps)) : v = fileV ((g t).getD noFile) := by
  cases hgt : g t with
  | none =>
    rw [atKey_of_not_has (by rw [(hg t).1, hgt]; rfl)] at hv
    exact fileElem_inv (x := noFile) rfl hv
  | some x =>
    rw [(hg t).2 x hgt] at hv
    exact fileElem_inv (hi t x hgt) hv

section
variable {w : World} {ops : Array Oper} {rest : List Oper} {o : Oper} {a : Act} {Q : Exit → Act → World → Prop}
/-- 'm[t] = f', as a run. -/
theorem FTab.put_run {mb n : Nat} {g : Int → Option FV} (h : FTab w mb n g) (t : Int) (x : FV) (hx : isSl x.1 = true) (hn : n < maxLen) (ht : (Lit.int .i64 t).wf = true) :
    ∃ w', (Instr.mapUpdate 87 (.map (some mb)) (.int .i64 t) (.agg #[x.1, .int .i64 x.2])).run Try.prog w = .ok () w' ∧ FTab w' mb (if (g t).isSome then n else n + 1) (putAt g t x) ∧ w.grownBy w' (some mb) := by
  obtain ⟨hi, D, h1, h2, h3⟩ := h
  obtain ⟨w', hrun, h4, h5⟩ := h1.update keyed Try.underlying87 hn (keyOf_int_mk Try.underlying3 ht) (fileElem_of hx)
  exact ⟨w', hrun, ftab_put hx h1.isMap (h1.tidy keyed) h2 hi h3 h4, h5⟩
/-- 'm[t] = f', at the operation. -/
theorem wpList_fput (hgd : o.guard = none) (m x v : Operand)
    (ho : o.op = Op.mapUpdate 87 m x v) (mb n : Nat) (g : Int → Option FV) (t : Int) (u : FV) (hm : a.eval m = .map (some mb)) (hx : a.eval x = .int .i64 t) (hv : a.eval v = .agg #[u.1, .int .i64 u.2]) (hu : isSl u.1 = true)
    (h : FTab w mb n g) (hn : n < maxLen) (ht : (Lit.int .i64 t).wf = true)
    (K : ∀ w', FTab w' mb (if (g t).isSome then n else n + 1) (putAt g t u) → w.grownBy w' (some mb) → wpList Try.prog ops Q rest (a.put o.dst undef) w') : wpList Try.prog ops Q (o :: rest) a w := by
  obtain ⟨hi, D, h1, h2, h3⟩ := h
  refine wpList_mapUpdate_own _ hgd m x v 87 ho 3 92 keyed Try.underlying87 _ mb n D hm h1 hn _ _ _ hx hv (keyOf_int_mk Try.underlying3 ht) _ [] (fileElem_of hu) ?_
  intro w' h4 h5
  exact K w' (ftab_put hu h1.isMap (h1.tidy keyed) h2 hi h3 h4) h5
/-- 'f, ok := m[t]', at the operation. -/
theorem wpList_flook (hgd : o.guard = none) (m x : Operand)
    (ho : o.op = Op.lookup 87 m x true) (mb n : Nat) (g : Int → Option FV) (t : Int) (hm : a.eval m = .map (some mb)) (hx : a.eval x = .int .i64 t)
    (h : FTab w mb n g) (ht : (Lit.int .i64 t).wf = true)
    (K : wpList Try.prog ops Q rest (a.put o.dst (.tuple #[fileV ((g t).getD noFile), .bool (g t).isSome])) w) : wpList Try.prog ops Q (o :: rest) a w := by
  obtain ⟨hi, D, h1, h2, h3⟩ := h
  refine wpList_lookup_own_ok _ hgd m x 87 ho 3 92 keyed Try.underlying87 fileElem (zero_file _) _ [] (fileElem_of (x := noFile) rfl) mb n D hm h1 _ _ hx (keyOf_int_mk Try.underlying3 ht) ?_
  intro v ps hv
  rw [(h3 t).1, FTab.val hi h3 hv]
  exact K
/-- 'm[t]', as a run. -/
theorem FTab.look1 {mb n : Nat} {g : Int → Option FV} (h : FTab w mb n g) (t : Int) (ht : (Lit.int .i64 t).wf = true) :
    (Instr.lookup 87 (.map (some mb)) (.int .i64 t) false).run Try.prog w = .ok (fileV ((g t).getD noFile)) w := by
  obtain ⟨hi, D, h1, h2, h3⟩ := h
  obtain ⟨v, ps, hrun, hv⟩ := h1.lookup keyed Try.underlying87 (zero_file _) (fileElem_of (x := noFile) rfl) (keyOf_int_mk Try.underlying3 ht)
  rw [FTab.val hi h3 hv] at hrun
  exact hrun
/-- 'delete(m, t)', at the operation. -/
theorem wpList_fstrike (hgd : o.guard = none) (m x : Operand)
    (ho : o.op = Op.call { callee := Callee.builtin Builtin.delete, args := #[m, x], argTypes := #[87, 3] }) (mb n : Nat) (g : Int → Option FV) (t : Int) (hm : a.eval m = .map (some mb)) (hx : a.eval x = .int .i64 t)
    (h : FTab w mb n g) (ht : (Lit.int .i64 t).wf = true)
    (K : ∀ w', FTab w' mb (if (g t).isSome then n - 1 else n) (delAt g t) → w.grownBy w' (some mb) → wpList Try.prog ops Q rest (a.put o.dst (.tuple #[])) w') : wpList Try.prog ops Q (o :: rest) a w := by
  obtain ⟨hi, D, h1, h2, h3⟩ := h
  refine wpList_delete_own _ hgd m x 87 3 ho 92 keyed Try.underlying87 _ mb n D hm h1 _ _ hx (keyOf_int_mk Try.underlying3 ht) ?_
  intro w' h4 h5
  exact K w' (ftab_del (h1.tidy keyed) h2 hi h3 h4) h5.grown
/-- 'len(m)'. -/
theorem wpList_flen (hgd : o.guard = none) (m : Operand)
    (ho : o.op = Op.call { callee := Callee.builtin Builtin.len, args := #[m], argTypes := #[87] }) (mb n : Nat) (g : Int → Option FV) (hm : a.eval m = .map (some mb)) (h : FTab w mb n g)
    (K : wpList Try.prog ops Q rest (a.put o.dst (.int .i64 (n : Int))) w) : wpList Try.prog ops Q (o :: rest) a w := by
  obtain ⟨hi, D, h1, h2, h3⟩ := h
  refine wpList_len_own _ hgd m 87 ho 3 92 Try.underlying87 _ mb n D hm h1 ?_
  rw [h2]
  exact K
end

/-- The numbers, sorted. -/
theorem FTab.keys {w : World} {mb : Nat} {n : Nat} {g : Int → Option FV} (h : FTab w mb n g) (ks : List Int) (hk : ks.Pairwise (· < ·)) (hm : ∀ t, t ∈ ks ↔ (g t).isSome = true) :
    ∃ D : DataW Unit, w.ownsMap Try.prog 3 fileElem mb n D ∧ Maps.size D = n ∧ ∀ ss : List Int, ss.Perm (intKeys D) → ss.mergeSort (fun x y => decide (x ≤ y)) = ks := by
  obtain ⟨hi, D, h1, h2, h3⟩ := h
  refine ⟨D, h1, h2, fun ss hp => ?_⟩
  have hnd : ks.Nodup := hk.imp (fun h => by omega)
  obtain ⟨es, hD, hpw, _⟩ := h1.entries keyed
  obtain ⟨es', hD', hko⟩ := h1.keysOf
  obtain rfl : es = es' := by rw [hD] at hD'; simpa using hD'
  have hp2 : ks.Perm (intKeys D) := by
    rw [hD]
    refine perm_intKeys hpw (fun p hp => by obtain ⟨v, hv⟩ := hko p hp; obtain ⟨x, _, hx, _⟩ := Maps.keyOf_i64 Try.underlying3 hv; exact ⟨x, hx⟩) hnd (fun x => ?_)
    rw [hm x, ← hD]
    exact (Bool.eq_iff_iff.1 (h3 x).1.symm)
  have := mergeSort_of_perm_i (hp.trans hp2.symm)
  refine Eq.trans this ?_
  exact List.mergeSort_of_pairwise (hk.imp (fun h => by simp; omega))
end Go.Proofs.Ytkmolklcbemfbaa
