/-
  FTab, At, Small.
-/
import Derived.Test.YtnpofjeiamjioaaKit
import Derived.Test.YtnpofjeiamjioaaPlainDisk
import Derived.Lib.SlKeysI
import Derived.Deep.OwnRows
import Derived.Deep.QuietTactic
import Derived.Deep.DeepMust
import Derived.Lib.SliceRun
import Derived.Deep.RegionWith
import Derived.Deep.Cut
import Derived.Deep.CutRange
namespace Go.Proofs.Ytnpofjeiamjioaa
open Go.RowKit Go.Maps Go.ChangeMaps

abbrev key (t : Int) : Lit := .int .i64 t
theorem keyed : Keyed Try.prog 3 := int_keyed Try.underlying3
theorem isKey (t : Int) : WideAt.IsKeyLit (key t) := trivial
theorem key_ne {t u : Int} (h : t ≠ u) : key t ≠ key u := fun e => h (by simpa using e)

/-- What is in the map: a slice's value, and a number. -/
abbrev FV := Value × Int
def fileV (x : FV) : Value := .agg #[x.1, .int .i64 x.2]
/-- A slice's value that begins its block, or nil. -/
def isSl : Value → Bool
  | .slice none _ _ => true
  | .slice (some ⟨_, 0, none⟩) _ _ => true
  | _ => false
def encSl (v : Value) (s : Int) : DataW Unit := match v with
  | .slice none n c => .agg [.lit (.int .i64 (-1)), .lit (.int .i64 n), .lit (.int .i64 c), .lit (.int .i64 s)]
  | .slice (some p) n c => .agg [.lit (.int .i64 p.block), .lit (.int .i64 n), .lit (.int .i64 c), .lit (.int .i64 s)]
  | _ => .nil
/-- How a file reads. -/
def fileParts : List Value → Option (DataW Unit × List MemPlace)
  | [v, .int .i64 s] => if isSl v = true then some (encSl v s, []) else none
  | _ => none
def fileElem : Value → Option (DataW Unit × List MemPlace)
  | .agg cs => fileParts cs.toList
  | _ => none
theorem fileElem_of {x : FV} (h : isSl x.1 = true) : fileElem (fileV x) = some (encSl x.1 x.2, []) := by
  simp [fileElem, fileParts, fileV, h]
theorem encSl_inj {v v' : Value} {s s' : Int} (h : isSl v = true) (h' : isSl v' = true) (e : encSl v s = encSl v' s') : v = v' ∧ s = s' := by
  unfold isSl at h h'
  split at h <;> split at h' <;> simp_all [encSl] <;> omega
theorem fileElem_inv {u : Value} {x : FV} {ps : List MemPlace} (hx : isSl x.1 = true) (h : fileElem u = some (encSl x.1 x.2, ps)) : u = fileV x := by
  unfold fileElem at h
  split at h
  · rename_i cs
    unfold fileParts at h
    split at h
    · rename_i v s hcs
      split at h
      · simp only [Option.some.injEq, Prod.mk.injEq] at h
        obtain ⟨e1, e2⟩ := encSl_inj (by assumption) hx h.1
        obtain ⟨l⟩ := cs
        simp only at hcs
        rw [hcs, e1, e2]
        rfl
      · cases h
    · cases h
  · cases h
def noFile : FV := (.slice none 0 0, 0)

/-- Block mb is a map of n entries: g tells what it has at each number. -/
def FTab (w : World) (mb n : Nat) (g : Int → Option FV) : Prop :=
  (∀ t x, g t = some x → isSl x.1 = true) ∧
  ∃ D : DataW Unit, w.ownsMap Try.prog 3 fileElem mb n D ∧ Maps.size D = n ∧ ∀ t : Int, has D (key t) = (g t).isSome ∧ ∀ x, g t = some x → D.atKey (key t) (encSl noFile.1 noFile.2) = encSl x.1 x.2

theorem FTab.lt {w : World} {mb n : Nat} {g : Int → Option FV} (h : FTab w mb n g) : mb < w.heap.size := by
  obtain ⟨_, D, h1, _⟩ := h
  exact h1.lt
theorem FTab.map {w : World} {mb n : Nat} {g : Int → Option FV} (h : FTab w mb n g) : ∃ es clock, w.heap[mb]? = some (.map es clock) := by
  obtain ⟨_, D, ⟨es, clock, hb, _⟩, _⟩ := h
  exact ⟨es, clock, hb⟩
theorem FTab.block {w w' : World} {mb n : Nat} {g : Int → Option FV} (h : FTab w mb n g) (hb : w'.heap[mb]? = w.heap[mb]?) : FTab w' mb n g := by
  obtain ⟨hs, D, ⟨es, clock, h0, rest⟩, h2⟩ := h
  exact ⟨hs, D, ⟨es, clock, hb.trans h0, rest⟩, h2⟩
theorem FTab.congr {w : World} {mb n n' : Nat} {g g' : Int → Option FV} (h : FTab w mb n g) (hn : n' = n) (e : ∀ t, g' t = g t) : FTab w mb n' g' := by
  obtain rfl : g' = g := funext e
  obtain rfl := hn
  exact h
theorem FTab.made (w : World) : FTab (w.alloc (.map #[] 0)) w.heap.size 0 (fun _ => none) :=
  ⟨(fun _ _ h => by cases h), .map [], World.ownsMap_made _ _ _ _, rfl, fun _ => ⟨rfl, fun _ h => by cases h⟩⟩
theorem fowns_tight {w : World} {mb n : Nat} {D : DataW Unit} (h : w.ownsMap Try.prog 3 fileElem mb n D) : w.ownsMap Try.prog 3 fileElem mb (Maps.size D) D := by
  obtain ⟨es, clock, hb, F, hs, hD⟩ := h
  exact ⟨es, clock, hb, F, by rw [hD, size_eq, length_read]; exact Nat.le_refl _, hD⟩
def putAt (g : Int → Option FV) (t : Int) (v : FV) : Int → Option FV := fun x => if x = t then some v else g x
def delAt (g : Int → Option FV) (t : Int) : Int → Option FV := fun x => if x = t then none else g x

theorem ftab_put {w' : World} {mb n m : Nat} {g : Int → Option FV} {t : Int} {v : FV} (hv : isSl v.1 = true) {D : DataW Unit} (h0 : IsMap D) (hT : Tidy D) (hs : Maps.size D = n) (hi : ∀ t x, g t = some x → isSl x.1 = true) (hg : ∀ t : Int, has D (key t) = (g t).isSome ∧ ∀ x, g t = some x → D.atKey (key t) (encSl noFile.1 noFile.2) = encSl x.1 x.2)
    (h : w'.ownsMap Try.prog 3 fileElem mb m (D.put (key t) (encSl v.1 v.2))) : FTab w' mb (if (g t).isSome then n else n + 1) (putAt g t v) := by
  have hz : Maps.size (D.put (key t) (encSl v.1 v.2)) = if (g t).isSome then n else n + 1 := by rw [size_put hT, (hg t).1, hs]
  refine ⟨fun x y hy => ?_, _, hz ▸ fowns_tight h, hz, fun x => ?_⟩
  · unfold putAt at hy
    split at hy
    · cases hy; exact hv
    · exact hi x y hy
  unfold putAt
  by_cases hx : x = t
  · subst hx
    rw [if_pos rfl]
    exact ⟨has_put_same h0 (isKey x) _, fun u hu => by cases hu; exact atKey_put_same h0 (isKey x) _ _⟩
  · rw [if_neg hx, has_put_other (key_ne hx), atKey_put_other (key_ne hx)]
    exact hg x
theorem ftab_del {w' : World} {mb n m : Nat} {g : Int → Option FV} {t : Int} {D : DataW Unit} (hT : Tidy D) (hs : Maps.size D = n) (hi : ∀ t x, g t = some x → isSl x.1 = true) (hg : ∀ t : Int, has D (key t) = (g t).isSome ∧ ∀ x, g t = some x → D.atKey (key t) (encSl noFile.1 noFile.2) = encSl x.1 x.2)
    (h : w'.ownsMap Try.prog 3 fileElem mb m (D.del (key t))) : FTab w' mb (if (g t).isSome then n - 1 else n) (delAt g t) := by
  have hz : Maps.size (D.del (key t)) = if (g t).isSome then n - 1 else n := by
    have := size_del (k := key t) hT
    rw [(hg t).1, hs] at this
    split at this <;> split <;> simp_all <;> omega
  refine ⟨fun x y hy => ?_, _, hz ▸ fowns_tight h, hz, fun x => ?_⟩
  · unfold delAt at hy
    split at hy
    · cases hy
    · exact hi x y hy
  unfold delAt
  by_cases hx : x = t
  · subst hx
    rw [if_pos rfl]
    exact ⟨has_del_same, fun u hu => by cases hu⟩
  · rw [if_neg hx, has_del_other (key_ne hx), atKey_del_other (key_ne hx)]
    exact hg x

theorem zero_file (w : World) : (zeroValue 87).run Try.prog w = .ok (fileV noFile) w := by kernel_rfl
theorem FTab.val {g : Int → Option FV} {D : DataW Unit} (hi : ∀ t x, g t = some x → isSl x.1 = true) (hg : ∀ t : Int, has D (key t) = (g t).isSome ∧ ∀ x, g t = some x → D.atKey (key t) (encSl noFile.1 noFile.2) = encSl x.1 x.2)
    {t : Int} {v : Value} {ps : List MemPlace} (hv : fileElem v = some (D.atKey (key t) (encSl noFile.1 noFile.2), ps)) : v = fileV ((g t).getD noFile) := by
  cases hgt : g t with
  | none =>
    rw [atKey_of_not_has (by rw [(hg t).1, hgt]; rfl)] at hv
    exact fileElem_inv (x := noFile) rfl hv
  | some x =>
    rw [(hg t).2 x hgt] at hv
    exact fileElem_inv (hi t x hgt) hv

section
variable {w : World} {ops : Array Oper} {rest : List Oper} {o : Oper} {a : Act} {Q : Exit → Act → World → Prop}
/-- 'm[t] = f', as a run. -/
theorem FTab.put_run {mb n : Nat} {g : Int → Option FV} (h : FTab w mb n g) (t : Int) (x : FV) (hx : isSl x.1 = true) (hn : n < maxLen) (ht : (Lit.int .i64 t).wf = true) :
    ∃ w', (Instr.mapUpdate 88 (.map (some mb)) (.int .i64 t) (.agg #[x.1, .int .i64 x.2])).run Try.prog w = .ok () w' ∧ FTab w' mb (if (g t).isSome then n else n + 1) (putAt g t x) ∧ w.grownBy w' (some mb) := by
  obtain ⟨hi, D, h1, h2, h3⟩ := h
  obtain ⟨w', hrun, h4, h5⟩ := h1.update keyed Try.underlying88 hn (keyOf_int_mk Try.underlying3 ht) (fileElem_of hx)
  exact ⟨w', hrun, ftab_put hx h1.isMap (h1.tidy keyed) h2 hi h3 h4, h5⟩
/-- 'm[t] = f', at the operation. -/
theorem wpList_fput (hgd : o.guard = none) (m x v : Operand)
    (ho : o.op = Op.mapUpdate 88 m x v) (mb n : Nat) (g : Int → Option FV) (t : Int) (u : FV) (hm : a.eval m = .map (some mb)) (hx : a.eval x = .int .i64 t) (hv : a.eval v = .agg #[u.1, .int .i64 u.2]) (hu : isSl u.1 = true)
    (h : FTab w mb n g) (hn : n < maxLen) (ht : (Lit.int .i64 t).wf = true)
    (K : ∀ w', FTab w' mb (if (g t).isSome then n else n + 1) (putAt g t u) → w.grownBy w' (some mb) → wpList Try.prog ops Q rest (a.put o.dst undef) w') : wpList Try.prog ops Q (o :: rest) a w := by
  obtain ⟨hi, D, h1, h2, h3⟩ := h
  refine wpList_mapUpdate_own _ hgd m x v 88 ho 3 87 keyed Try.underlying88 _ mb n D hm h1 hn _ _ _ hx hv (keyOf_int_mk Try.underlying3 ht) _ [] (fileElem_of hu) ?_
  intro w' h4 h5
  exact K w' (ftab_put hu h1.isMap (h1.tidy keyed) h2 hi h3 h4) h5
/-- 'f, ok := m[t]', at the operation. -/
theorem wpList_flook (hgd : o.guard = none) (m x : Operand)
    (ho : o.op = Op.lookup 88 m x true) (mb n : Nat) (g : Int → Option FV) (t : Int) (hm : a.eval m = .map (some mb)) (hx : a.eval x = .int .i64 t)
    (h : FTab w mb n g) (ht : (Lit.int .i64 t).wf = true)
    (K : wpList Try.prog ops Q rest (a.put o.dst (.tuple #[fileV ((g t).getD noFile), .bool (g t).isSome])) w) : wpList Try.prog ops Q (o :: rest) a w := by
  obtain ⟨hi, D, h1, h2, h3⟩ := h
  refine wpList_lookup_own_ok _ hgd m x 88 ho 3 87 keyed Try.underlying88 fileElem (zero_file _) _ [] (fileElem_of (x := noFile) rfl) mb n D hm h1 _ _ hx (keyOf_int_mk Try.underlying3 ht) ?_
  intro v ps hv
  rw [(h3 t).1, FTab.val hi h3 hv]
  exact K
/-- 'm[t]', as a run. -/
theorem FTab.look1 {mb n : Nat} {g : Int → Option FV} (h : FTab w mb n g) (t : Int) (ht : (Lit.int .i64 t).wf = true) :
    (Instr.lookup 88 (.map (some mb)) (.int .i64 t) false).run Try.prog w = .ok (fileV ((g t).getD noFile)) w := by
  obtain ⟨hi, D, h1, h2, h3⟩ := h
  obtain ⟨v, ps, hrun, hv⟩ := h1.lookup keyed Try.underlying88 (zero_file _) (fileElem_of (x := noFile) rfl) (keyOf_int_mk Try.underlying3 ht)
  rw [FTab.val hi h3 hv] at hrun
  exact hrun
/-- 'delete(m, t)', at the operation. -/
theorem wpList_fstrike (hgd : o.guard = none) (m x : Operand)
    (ho : o.op = Op.call { callee := Callee.builtin Builtin.delete, args := #[m, x], argTypes := #[88, 3] }) (mb n : Nat) (g : Int → Option FV) (t : Int) (hm : a.eval m = .map (some mb)) (hx : a.eval x = .int .i64 t)
    (h : FTab w mb n g) (ht : (Lit.int .i64 t).wf = true)
    (K : ∀ w', FTab w' mb (if (g t).isSome then n - 1 else n) (delAt g t) → w.grownBy w' (some mb) → wpList Try.prog ops Q rest (a.put o.dst (.tuple #[])) w') : wpList Try.prog ops Q (o :: rest) a w := by
  obtain ⟨hi, D, h1, h2, h3⟩ := h
  refine wpList_delete_own _ hgd m x 88 3 ho 87 keyed Try.underlying88 _ mb n D hm h1 _ _ hx (keyOf_int_mk Try.underlying3 ht) ?_
  intro w' h4 h5
  exact K w' (ftab_del (h1.tidy keyed) h2 hi h3 h4) h5.grown
/-- 'len(m)'. -/
theorem wpList_flen (hgd : o.guard = none) (m : Operand)
    (ho : o.op = Op.call { callee := Callee.builtin Builtin.len, args := #[m], argTypes := #[88] }) (mb n : Nat) (g : Int → Option FV) (hm : a.eval m = .map (some mb)) (h : FTab w mb n g)
    (K : wpList Try.prog ops Q rest (a.put o.dst (.int .i64 (n : Int))) w) : wpList Try.prog ops Q (o :: rest) a w := by
  obtain ⟨hi, D, h1, h2, h3⟩ := h
  refine wpList_len_own _ hgd m 88 ho 3 87 Try.underlying88 _ mb n D hm h1 ?_
  rw [h2]
  exact K
end

/-- The numbers, sorted. -/
theorem FTab.keys {w : World} {mb : Nat} {n : Nat} {g : Int → Option FV} (h : FTab w mb n g) (ks : List Int) (hk : ks.Pairwise (· < ·)) (hm : ∀ t, t ∈ ks ↔ (g t).isSome = true) :
    ∃ D : DataW Unit, w.ownsMap Try.prog 3 fileElem mb n D ∧ Maps.size D = n ∧ ∀ ss : List Int, ss.Perm (intKeys D) → ss.mergeSort (fun x y => decide (x ≤ y)) = ks := by
  obtain ⟨hi, D, h1, h2, h3⟩ := h
  refine ⟨D, h1, h2, fun ss hp => ?_⟩
  have hnd : ks.Nodup := hk.imp (fun h => by omega)
  obtain ⟨es, hD, hpw, _⟩ := h1.entries keyed
  obtain ⟨es', hD', hko⟩ := h1.keysOf
  obtain rfl : es = es' := by rw [hD] at hD'; simpa using hD'
  have hp2 : ks.Perm (intKeys D) := by
    rw [hD]
    refine perm_intKeys hpw (fun p hp => by obtain ⟨v, hv⟩ := hko p hp; obtain ⟨x, _, hx, _⟩ := Maps.keyOf_i64 Try.underlying3 hv; exact ⟨x, hx⟩) hnd (fun x => ?_)
    rw [hm x, ← hD]
    exact (Bool.eq_iff_iff.1 (h3 x).1.symm)
  have := mergeSort_of_perm_i (hp.trans hp2.symm)
  refine Eq.trans this ?_
  exact List.mergeSort_of_pairwise (hk.imp (fun h => by simp; omega))
end Go.Proofs.Ytnpofjeiamjioaa

namespace Go.Proofs.Ytnpofjeiamjioaa
open Go.RowKit Go.Maps

theorem rising_le : ∀ (L : List Fl) (a N : Int), Rising L → (∀ f ∈ L, a < f.num ∧ f.num ≤ N) → a ≤ N → (L.length : Int) ≤ N - a
  | [], a, N, _, _, h => by simp; omega
  | x :: r, a, N, hr, hb, h => by
    have hx := hb x List.mem_cons_self
    have := rising_le r x.num N hr.tail (fun f hf => ⟨hr.head f hf, (hb f (List.mem_cons_of_mem _ hf)).2⟩) hx.2
    simp only [List.length_cons]
    omega
theorem Right.few {q : Int} {L : List Fl} (h : Right q L) : L.length ≤ 1099511627776 := by
  have := rising_le L 0 1099511627776 h.rise (fun f hf => ⟨by have := (h.ok f hf).2.1; omega, (h.ok f hf).2.2⟩) (by omega)
  omega
theorem Right.few2 {q : Int} {L : List Fl} (h : Right q L) : L.length < maxLen := by have := h.few; unfold maxLen; omega

/-- What the map has at a number. -/
def slot (L : List Fl) (vs : Int → Value) (t : Int) : Option FV := (look L t).map fun f => (vs t, (f.safe : Int))
/-- Block db is a disk, its map lies in block mb, its quota is q, its files are L; the bytes of the file t are the slice vs t. -/
structure DiskAt (w : World) (db mb : Nat) (q : Int) (L : List Fl) (vs : Int → Value) : Prop where
  cells : w.heap[db]? = some (.cells #[.int .i64 q, .int .i64 (total L : Int), .map (some mb)] 90 (0, 0))
  tab : FTab w mb L.length (slot L vs)
  own : ∀ f ∈ L, Own w 0 (vs f.num) f.data
  apart : ∀ f ∈ L, ∀ f' ∈ L, ∀ k, (vs f.num).ownBlock = some k → (vs f'.num).ownBlock = some k → f.num = f'.num
  right : Right q L

/-- The blocks of a disk. -/
def Mine (db mb : Nat) (L : List Fl) (vs : Int → Value) (k : Nat) : Prop := k = db ∨ k = mb ∨ ∃ f ∈ L, (vs f.num).ownBlock = some k

theorem Own.row {w : World} {B : Nat} {v : Value} {l : List UInt8} (h : Own w B v l) {k : Nat} (hk : v.ownBlock = some k) : ∃ cur, w.heap[k]? = some (.cells cur 5 (0, 0)) := by
  rcases h.2 with ⟨rfl, _⟩ | ⟨g, cap, cur, rfl, _, hg, _⟩
  · cases hk
  · simp only [Value.ownBlock, Option.some.injEq] at hk
    subst hk
    exact ⟨cur, hg⟩
theorem Own.sl {w : World} {B : Nat} {v : Value} {l : List UInt8} (h : Own w B v l) : isSl v = true := by
  rcases h.2 with ⟨rfl, _⟩ | ⟨g, cap, cur, rfl, _⟩ <;> rfl
theorem Own.kept {P : Nat → Prop} {w w' : World} {B : Nat} {v : Value} {l : List UInt8} (h : Own w B v l) (hk : Kept P w w') (hP : ∀ k, v.ownBlock = some k → ¬ P k) : Own w' B v l := hk.own h hP
theorem DiskAt.lt {w : World} {db mb : Nat} {q : Int} {L : List Fl} {vs : Int → Value} (h : DiskAt w db mb q L vs) {k : Nat} (hk : Mine db mb L vs k) : k < w.heap.size := by
  rcases hk with rfl | rfl | ⟨f, hf, hk⟩
  · exact (Array.getElem?_eq_some_iff.1 h.cells).1
  · exact h.tab.lt
  · obtain ⟨cur, hc⟩ := (h.own f hf).row hk
    exact (Array.getElem?_eq_some_iff.1 hc).1
theorem DiskAt.kept {P : Nat → Prop} {w w' : World} {db mb : Nat} {q : Int} {L : List Fl} {vs : Int → Value} (h : DiskAt w db mb q L vs) (hk : Kept P w w') (hP : ∀ k, Mine db mb L vs k → ¬ P k) : DiskAt w' db mb q L vs :=
  ⟨(hk.block db (h.lt (.inl rfl)) (hP _ (.inl rfl))).trans h.cells, h.tab.block (hk.block mb h.tab.lt (hP _ (.inr (.inl rfl)))), fun f hf => (h.own f hf).kept hk (fun k e => hP k (.inr (.inr ⟨f, hf, e⟩))), h.apart, h.right⟩
theorem DiskAt.below {w w' : World} {db mb : Nat} {q : Int} {L : List Fl} {vs : Int → Value} (h : DiskAt w db mb q L vs) (hk : Below w.heap.size w w') : DiskAt w' db mb q L vs :=
  h.kept (P := fun _ => False) (Kept.ofBelow hk) (fun _ _ => id)
theorem DiskAt.ne {w : World} {db mb : Nat} {q : Int} {L : List Fl} {vs : Int → Value} (h : DiskAt w db mb q L vs) : db ≠ mb := by
  rintro rfl
  obtain ⟨es, clock, hb⟩ := h.tab.map
  rw [h.cells] at hb
  cases hb
theorem DiskAt.notRow {w : World} {db mb : Nat} {q : Int} {L : List Fl} {vs : Int → Value} (h : DiskAt w db mb q L vs) {B : Nat} {v : Value} {l : List UInt8} (ho : Own w B v l) {k : Nat} (hk : v.ownBlock = some k) : k ≠ db ∧ k ≠ mb := by
  obtain ⟨cur, hc⟩ := ho.row hk
  refine ⟨?_, ?_⟩
  · rintro rfl
    rw [h.cells] at hc
    simp at hc
  · rintro rfl
    obtain ⟨es, clock, hb⟩ := h.tab.map
    rw [hb] at hc
    cases hc
theorem DiskAt.cell {w : World} {db mb : Nat} {q : Int} {L : List Fl} {vs : Int → Value} (h : DiskAt w db mb q L vs) :
    w.cell? ⟨db, 0, none⟩ = some (.int .i64 q) ∧ w.cell? ⟨db, 1, none⟩ = some (.int .i64 (total L : Int)) ∧ w.cell? ⟨db, 2, none⟩ = some (.map (some mb)) := by
  simp [World.cell?, h.cells]

/-- What a call on a disk may turn, and which blocks it has behind it. -/
structure Turned (w w' : World) (db mb : Nat) (L : List Fl) (vs : Int → Value) (L' : List Fl) (vs' : Int → Value) : Prop where
  kept : Kept (Mine db mb L vs) w w'
  mine : ∀ k, Mine db mb L' vs' k → Mine db mb L vs k ∨ w.heap.size ≤ k
theorem Turned.refl (w : World) (db mb : Nat) (L : List Fl) (vs : Int → Value) : Turned w w db mb L vs L vs := ⟨Kept.refl _ _, fun _ h => .inl h⟩
theorem Turned.trans {w w1 w2 : World} {db mb : Nat} {L L1 L2 : List Fl} {vs vs1 vs2 : Int → Value} (h : Turned w w1 db mb L vs L1 vs1) (k : Turned w1 w2 db mb L1 vs1 L2 vs2) : Turned w w2 db mb L vs L2 vs2 := by
  have hs := h.kept.size
  refine ⟨h.kept.step k.kept (fun j hj e => ?_), fun j e => ?_⟩
  · rcases h.mine j e with e | e
    · exact e
    · omega
  · rcases k.mine j e with e | e
    · exact h.mine j e
    · exact .inr (by omega)
theorem Turned.ofBelow {w w' : World} {db mb : Nat} {L : List Fl} {vs : Int → Value} (h : Below w.heap.size w w') : Turned w w' db mb L vs L vs := ⟨Kept.ofBelow h, fun _ h => .inl h⟩
/-- A value is laid at a number. -/
def upd (vs : Int → Value) (t : Int) (v : Value) : Int → Value := fun x => if x = t then v else vs x

/-- A disk into which a file was laid: what its map has, its bytes, what is apart. -/
theorem DiskAt.laid {w w' : World} {db mb : Nat} {q : Int} {L : List Fl} {vs : Int → Value} (h : DiskAt w db mb q L vs) {f : Fl} {v : Value} (hv : Own w 0 v f.data)
    (hap : ∀ x ∈ L, x.num ≠ f.num → ∀ k, v.ownBlock = some k → (vs x.num).ownBlock ≠ some k) (hR : Right q (ins L f)) (hk : Kept (fun k => k = db ∨ k = mb) w w')
    (hc : w'.heap[db]? = some (.cells #[.int .i64 q, .int .i64 (total (ins L f) : Int), .map (some mb)] 90 (0, 0)))
    (ht : FTab w' mb (if (slot L vs f.num).isSome then L.length else L.length + 1) (putAt (slot L vs) f.num (v, (f.safe : Int)))) : DiskAt w' db mb q (ins L f) (upd vs f.num v) := by
  have hr := h.right.rise
  refine ⟨hc, ht.congr ?_ ?_, ?_, ?_, hR⟩
  · rw [length_ins hr]
    unfold slot
    cases look L f.num <;> rfl
  · intro t
    unfold slot putAt upd
    rw [look_ins hr]
    by_cases e : t = f.num
    · simp [e]
    · simp [e]
  · intro x hx
    rcases mem_ins_other hr hx with rfl | ⟨hx, hn⟩
    · unfold upd
      rw [if_pos rfl]
      exact hv.kept hk (fun k e => by have := h.notRow hv e; omega)
    · unfold upd
      rw [if_neg hn]
      exact (h.own x hx).kept hk (fun k e => by have := h.notRow (h.own x hx) e; omega)
  · intro x hx y hy k e1 e2
    unfold upd at e1 e2
    rcases mem_ins_other hr hx with rfl | ⟨hx2, hn⟩ <;> rcases mem_ins_other hr hy with rfl | ⟨hy2, hm⟩
    · rfl
    · rw [if_pos rfl] at e1
      rw [if_neg hm] at e2
      exact absurd e2 (hap y hy2 hm k e1)
    · rw [if_pos rfl] at e2
      rw [if_neg hn] at e1
      exact absurd e1 (hap x hx2 hn k e2)
    · rw [if_neg hn] at e1
      rw [if_neg hm] at e2
      exact h.apart x hx2 y hy2 k e1 e2
end Go.Proofs.Ytnpofjeiamjioaa

namespace Go.Proofs.Ytnpofjeiamjioaa
open Go.RowKit

def withinB (n a b : Int) : Bool := decide (a ≤ n) && decide (n ≤ b)
set_option maxRecDepth 1000000 in
theorem within_any (n a b : Int) (w : World) : Calls Try.prog 58 #[.int .i64 n, .int .i64 a, .int .i64 b] w fun e w' => e = .returned (.bool (withinB n a b)) ∧ w' = w := by
  by_cases h1 : a ≤ n
  · by_cases h2 : n ≤ b
    · go_enter Try.func58, Try.ntmps58
      go_wp2
      go_ret
      exact ⟨by simp [withinB, h1, h2], rfl⟩
    · go_enter Try.func58, Try.ntmps58
      go_wp2
      go_ret
      exact ⟨by simp [withinB, h1, h2], rfl⟩
  · go_enter Try.func58, Try.ntmps58
    go_wp2
    go_ret
    exact ⟨by rw [show withinB n a b = false by simp [withinB]; omega]; rfl, rfl⟩

theorem made_row (w : World) (n : Nat) : ByteRow (w.alloc (.cells (madeCells #[.int .u8 0] n) 5)) 5 w.heap.size (List.replicate n 0) := by
  refine (heap_alloc_new w _).trans ?_
  congr 2
  apply Array.ext'
  simp [madeCells, u8s, Nat.mod_one]
  apply List.ext_getElem
  · simp
  · intro i h1 h2; simp
theorem splice_all (l : List UInt8) : splice (List.replicate l.length (0 : UInt8)) 0 l = l := by simp [splice]
theorem row_own {w : World} {g : Nat} {l : List UInt8} (h : ByteRow w 5 g l) (hl : l.length ≤ 140737488355328) : Own w g (.slice (some ⟨g, 0, none⟩) l.length l.length) l := by
  refine ⟨by rw [u8s_length, Nat.mul_one], .inr ⟨g, _, _, rfl, Nat.le_refl _, h, Nat.le_refl _, by unfold maxLen; omega, by simp [u8s_length], ?_⟩⟩
  rw [Nat.mul_one]
  simp [u8s_length, List.take_of_length_le]
theorem IsBytes.srcPos {w : World} {a : Option Addr} {c : Nat} {l : List UInt8} (h : IsBytes w a c l) (hn : 0 < (u8s l).length) : ∃ ad, a = some ad ∧ ∀ j v, (u8s l)[j]? = some v → w.cell? (ad.add j) = some v := by
  rw [u8s_length] at hn
  rcases h.src with ⟨_, h0⟩ | h
  · omega
  · exact h

set_option maxHeartbeats 1000000 in
set_option maxRecDepth 1000000 in
theorem copied_any (a : Option Addr) (c : Nat) (l : List UInt8) (w : World) (hl : IsBytes w a c l) (hb : l.length ≤ 140737488355328) :
    Calls Try.prog 53 #[.slice a l.length c] w fun e w' => e = .returned (.slice (some ⟨w.heap.size, 0, none⟩) l.length l.length) ∧ ByteRow w' 5 w.heap.size l ∧ Below w.heap.size w w' := by
  have HL : Hid (IsBytes w a c l) := hl
  clear hl
  obtain ⟨i8, hi, hz0, hz1, hz2⟩ := info_parts info_u8
  have hsz : (Try.prog.info? 5).map (·.size) = some 1 := by kernel_rfl
  go_enter Try.func53, Try.ntmps53
  go_wp2_with (first
    | (refine wpList_make_row _ rfl (.tmp 5) (.tmp 5) 37 rfl 5 i8 (.int .u8 0) Try.underlying37 hi hz0 hz1 rfl .i64 .i64 l.length rfl rfl (by rw [hz2]; omega) (by omega) ?_
       obtain ⟨w1, hw1⟩ : ∃ w1, w1 = w.alloc (.cells (madeCells #[.int .u8 0] l.length) 5) := ⟨_, rfl⟩
       rw [← hw1]
       have H1 : Hid (ByteRow w1 5 w.heap.size (List.replicate l.length 0) ∧ Below w.heap.size w w1) := by
         rw [hw1]
         exact ⟨made_row w l.length, (Below.refl _ w).alloc (Nat.le_refl _) _⟩
       have HW1 : Hid (w1 = w.alloc (.cells (madeCells #[.int .u8 0] l.length) 5)) := hw1
       clear hw1)
    | (refine wpList_copy_splice rfl (.tmp 7) (.tmp 8) 37 37 rfl 5 Try.underlying37 hsz (some ⟨w.heap.size, 0, none⟩) a l.length l.length l.length c rfl rfl w.heap.size 0 (u8s (List.replicate l.length 0)) 5 H1.out.1 (u8s l) (by rw [u8s_length]; exact (Nat.min_self _).symm)
         (fun h => ⟨rfl, (HL.out.below H1.out.2).srcPos h⟩) (by simp [u8s_length]) (u8s_one _) w.heap.size w H1.out.2 (Nat.le_refl _) ?_
       intro w2 H2 B2
       have HB2 : Hid (Below w.heap.size w w2) := B2
       clear B2))
  go_ret
  refine ⟨rfl, ?_, HB2.out⟩
  have := H2.out
  rw [u8s_splice, splice_all] at this
  exact this

theorem kept_neg (f : Fl) (x : Int) (h : x < 0) (hs : f.safe ≤ f.data.length) : (kept f x : Int) = -((x + 1).tmod ((f.data.length : Int) - (f.safe : Int) + 1)) := by
  unfold kept
  rw [if_pos h, ← Int.neg_tmod, Int.tmod_eq_emod_of_nonneg (by omega), show (((f.data.length - f.safe : Nat) : Int) + 1) = (f.data.length : Int) - (f.safe : Int) + 1 by omega]
  exact Int.toNat_of_nonneg (Int.emod_nonneg _ (by omega))
theorem kept_pos (f : Fl) (x : Int) (h : 0 ≤ x) (hs : f.safe ≤ f.data.length) : (kept f x : Int) = x % ((f.data.length : Int) - (f.safe : Int) + 1) := by
  unfold kept
  rw [if_neg (by omega), show (((f.data.length - f.safe : Nat) : Int) + 1) = (f.data.length : Int) - (f.safe : Int) + 1 by omega]
  exact Int.toNat_of_nonneg (Int.emod_nonneg _ (by omega))
theorem kept_le (f : Fl) (x : Int) (hs : f.safe ≤ f.data.length) : f.safe + kept f x ≤ f.data.length := by
  unfold kept
  have h1 := Int.emod_lt_of_pos (if x < 0 then -(x + 1) else x) (b := ((f.data.length - f.safe : Nat) + 1 : Int)) (by omega)
  have h2 := Int.emod_nonneg (if x < 0 then -(x + 1) else x) (b := ((f.data.length - f.safe : Nat) + 1 : Int)) (by omega)
  omega

set_option maxHeartbeats 1000000 in
set_option maxRecDepth 1000000 in
theorem kept_any (v : Value) (f : Fl) (x : Int) (w : World) (hx : -9223372036854775808 ≤ x ∧ x ≤ 9223372036854775807) (hv : Own w 0 v f.data) (hs : f.safe ≤ f.data.length) (hd : f.data.length ≤ 67108864) :
    Calls Try.prog 52 #[.agg #[v, .int .i64 (f.safe : Int)], .int .i64 x] w fun e w' => e = .returned (.int .i64 (kept f x : Int)) ∧ Below w.heap.size w w' := by
  obtain ⟨a, c, rfl, _⟩ := hv.shape
  obtain ⟨hx1, hx2⟩ := hx
  have hz : ((f.data.length : Int) - (f.safe : Int) + 1 == 0) = false := by simp; omega
  by_cases h0 : x < 0
  · go_enter Try.func52, Try.ntmps52
    go_wp2_with fail
    go_ret
    exact ⟨by rw [kept_neg f x h0 hs]; rfl, (Below.refl _ w).alloc (Nat.le_refl _) _⟩
  · go_enter Try.func52, Try.ntmps52
    go_wp2_with fail
    go_ret
    exact ⟨by rw [kept_pos f x h0 hs]; rfl, (Below.refl _ w).alloc (Nat.le_refl _) _⟩

theorem info_file : (Try.prog.info? 87).map (·.size) = some 2 := by kernel_rfl
theorem under_file : Try.prog.underlying 87 = some (.struct (Try.prog.fieldsOf 87)) := by kernel_rfl
theorem heap_alloc2_new (w : World) (o1 o2 : Obj) : ((w.alloc o1).alloc o2).heap[w.heap.size + 1]? = some o2 := by
  have := heap_alloc_new (w.alloc o1) o2
  rwa [show (w.alloc o1).heap.size = w.heap.size + 1 by simp] at this

/-- The bytes of a file, cut: as they lie, or in a new block. -/
theorem IsBytes.take {w : World} {a : Option Addr} {c : Nat} {l : List UInt8} (h : IsBytes w a c l) (n : Nat) : IsBytes w a c (l.take n) := by
  obtain ⟨h1, h2, h3⟩ := h
  refine ⟨by rw [List.length_take]; omega, h2, ?_⟩
  rcases h3 with rfl | ⟨b, o, ha, hb, hc⟩
  · exact .inl (by simp)
  · refine .inr ⟨b, o, ha, hb, fun j x hj => hc j x ?_⟩
    rw [List.getElem?_take] at hj
    split at hj
    · exact hj
    · cases hj

set_option maxHeartbeats 1000000 in
set_option maxRecDepth 1000000 in
theorem first_any (v : Value) (l : List UInt8) (s : Int) (n : Nat) (w : World) (hv : Own w 0 v l) (hn : n ≤ 67108864) :
    Calls Try.prog 51 #[.agg #[v, .int .i64 s], .int .i64 (n : Int)] w fun e w' => ∃ v', e = .returned (.agg #[v', .int .i64 (n : Int)]) ∧ Own w' 0 v' (l.take n) ∧ Below w.heap.size w w' ∧ (v' = v ∨ ∃ k, v'.ownBlock = some k ∧ w.heap.size ≤ k) := by
  obtain ⟨a, c, rfl, hb⟩ := hv.shape
  have hcl := hb.1
  have hcm : c ≤ 9223372036854775807 := by have := hb.2.1; unfold maxLen at this; omega
  have HV : Hid (Own w 0 (.slice a l.length c) l ∧ IsBytes w a c l) := ⟨hv, hb⟩
  clear hv hb
  by_cases hlt : (n : Int) < (l.length : Int)
  · have htl : (l.take n).length = n := by rw [List.length_take]; omega
    obtain ⟨wA, hwA⟩ : ∃ wA, wA = (w.alloc (.cells #[.slice a l.length c, .int .i64 s] 87)).alloc (.cells #[.slice none 0 0, .int .i64 0] 87) := ⟨_, rfl⟩
    have BA : Below w.heap.size w wA := by rw [hwA]; exact ((Below.refl _ w).alloc (Nat.le_refl _) _).alloc (by simp) _
    have hsA : wA.heap.size = w.heap.size + 2 := by rw [hwA]; simp
    have hbA : wA.heap[w.heap.size + 1]? = some (.cells #[.slice none 0 0, .int .i64 0] 87 (0, 0)) := by rw [hwA]; exact heap_alloc2_new _ _ _
    have hc := copied_any a c (l.take n) wA ((HV.out.2.take n).below BA) (by omega)
    rw [htl] at hc
    go_enter Try.func51, Try.ntmps51
    go_wp2_with fail
    rw [← hwA]
    refine hc.mono ?_
    rintro e w2 ⟨rfl, hrow, B2⟩
    have hb2 : w2.heap[w.heap.size + 1]? = some (.cells #[.slice none 0 0, .int .i64 0] 87 (0, 0)) := (B2.block _ (by omega)).trans hbA
    have HX : Hid (ByteRow w2 5 wA.heap.size (l.take n) ∧ Below w.heap.size w w2 ∧ w2.heap[w.heap.size + 1]? = some (.cells #[.slice none 0 0, .int .i64 0] 87 (0, 0)) ∧ wA.heap.size = w.heap.size + 2) := ⟨hrow, BA.trans (B2.mono BA.size), hb2, hsA⟩
    obtain ⟨g, hg⟩ : ∃ g, g = wA.heap.size := ⟨_, rfl⟩
    rw [← hg] at HX ⊢
    clear hrow B2 hb2 hsA hbA BA hc hwA hg htl
    go_wp2_with (refine wpList_store_row rfl 87 (.tmp 4) (.tmp 18) rfl (w.heap.size + 1) #[.slice (some ⟨g, 0, none⟩) n n, .int .i64 (n : Int)] rfl rfl 87 #[.slice none 0 0, .int .i64 0] HX.out.2.2.1 info_file rfl (by simp [Value.oneCell']) ?_)
    refine bodyPost_ret (results_cell_row rfl _ _ (w.heap.size + 1) 87 _ (0, 0) _ rfl (setRow_heap _ _ _ _ _ _ HX.out.2.2.1) under_file rfl info_file) rfl ?_
    obtain ⟨hrow, B2, hb2, hsA⟩ := HX.out
    have htl : (l.take n).length = n := by rw [List.length_take]; omega
    have ho := row_own hrow (by rw [htl]; omega)
    rw [htl] at ho
    have hk : Kept (fun k => k = w.heap.size + 1) w2 (w2.setRow (w.heap.size + 1) #[.slice (some ⟨g, 0, none⟩) n n, .int .i64 (n : Int)]) := ⟨rfl, rfl, rfl, by simp [World.setRow], fun k _ hk => setRow_other w2 _ k _ hk⟩
    exact ⟨_, rfl, (ho.mono (Nat.zero_le _)).kept hk (fun k e => by simp only [Value.ownBlock, Option.some.injEq] at e; omega), B2.trans (hk.below B2.size (fun k hk => by omega)), .inr ⟨g, rfl, by omega⟩⟩
  · go_enter Try.func51, Try.ntmps51
    go_wp2_with fail
    refine bodyPost_ret (results_cell_row rfl _ _ (w.heap.size + 1) 87 _ (0, 0) _ rfl (heap_alloc2_new _ _ _) under_file rfl info_file) rfl ?_
    have B2 := ((Below.refl _ w).alloc (Nat.le_refl _) (.cells #[.slice a l.length c, .int .i64 s] 87)).alloc (by simp) (.cells #[.slice a l.length c, .int .i64 (n : Int)] 87)
    refine ⟨_, rfl, ?_, B2, .inl rfl⟩
    rw [List.take_of_length_le (by omega)]
    exact HV.out.1.below B2
end Go.Proofs.Ytnpofjeiamjioaa
