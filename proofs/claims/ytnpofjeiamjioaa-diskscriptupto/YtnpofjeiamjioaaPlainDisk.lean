/-
  Files as plain data: what acts and crashes make of them.
-/
import Derived.Test.YtnpofjeiamjioaaProg
namespace Go.Proofs.Ytnpofjeiamjioaa

/-- A file: its number, its bytes, how many of them are safe. -/
structure Fl where
  num : Int
  data : List UInt8
  safe : Nat

/-- The file of a number. -/
def look (L : List Fl) (t : Int) : Option Fl := L.find? (fun f => f.num == t)
/-- By rising numbers. -/
def Rising (L : List Fl) : Prop := L.Pairwise (fun a b => a.num < b.num)
/-- A file is laid in the place of what there was of its number. -/
def ins : List Fl → Fl → List Fl
  | [], f => [f]
  | x :: r, f => if f.num < x.num then f :: x :: r else if f.num = x.num then f :: r else x :: ins r f
/-- A file is struck. -/
def del (L : List Fl) (t : Int) : List Fl := L.filter (fun f => f.num != t)
/-- The bytes of all files. -/
def total (L : List Fl) : Nat := (L.map (fun f => f.data.length)).sum

theorem look_mem {L : List Fl} {t : Int} {f : Fl} (h : look L t = some f) : f ∈ L ∧ f.num = t := by
  unfold look at h
  exact ⟨List.mem_of_find?_eq_some h, by simpa using List.find?_some h⟩
theorem look_none {L : List Fl} {t : Int} (h : look L t = none) : ∀ f ∈ L, f.num ≠ t := by
  unfold look at h
  intro f hf
  have := List.find?_eq_none.1 h f hf
  simpa using this
theorem look_nil (t : Int) : look [] t = none := rfl
theorem look_cons (x : Fl) (r : List Fl) (t : Int) : look (x :: r) t = if x.num = t then some x else look r t := by
  unfold look
  rw [List.find?_cons]
  by_cases h : x.num = t
  · simp [h]
  · rw [if_neg h, show (x.num == t) = false by simpa using h]
theorem Rising.tail {x : Fl} {r : List Fl} (h : Rising (x :: r)) : Rising r := (List.pairwise_cons.1 h).2
theorem Rising.head {x : Fl} {r : List Fl} (h : Rising (x :: r)) : ∀ y ∈ r, x.num < y.num := (List.pairwise_cons.1 h).1
theorem Rising.cons {x : Fl} {r : List Fl} (h : ∀ y ∈ r, x.num < y.num) (hr : Rising r) : Rising (x :: r) := List.pairwise_cons.2 ⟨h, hr⟩
theorem look_of_mem {L : List Fl} (h : Rising L) {f : Fl} (hf : f ∈ L) : look L f.num = some f := by
  induction L with
  | nil => cases hf
  | cons x r ih =>
    rw [look_cons]
    rcases List.mem_cons.1 hf with rfl | hf
    · simp
    · have := h.head f hf
      rw [if_neg (by omega)]
      exact ih h.tail hf
theorem mem_unique {L : List Fl} (h : Rising L) {f f' : Fl} (hf : f ∈ L) (hf' : f' ∈ L) (e : f.num = f'.num) : f = f' := by
  have h1 := look_of_mem h hf
  have h2 := look_of_mem h hf'
  rw [e, h2] at h1
  exact (Option.some.inj h1).symm

theorem mem_ins {L : List Fl} {f x : Fl} (h : x ∈ ins L f) : x = f ∨ x ∈ L := by
  induction L with
  | nil => simpa [ins] using h
  | cons y r ih =>
    unfold ins at h
    split at h
    · rcases List.mem_cons.1 h with h | h
      · exact .inl h
      · exact .inr h
    · split at h
      · rcases List.mem_cons.1 h with h | h
        · exact .inl h
        · exact .inr (List.mem_cons_of_mem _ h)
      · rcases List.mem_cons.1 h with h | h
        · exact .inr (by rw [h]; exact List.mem_cons_self)
        · rcases ih h with h | h
          · exact .inl h
          · exact .inr (List.mem_cons_of_mem _ h)
theorem mem_ins_other {L : List Fl} (hL : Rising L) {f x : Fl} (h : x ∈ ins L f) : x = f ∨ (x ∈ L ∧ x.num ≠ f.num) := by
  induction L with
  | nil => left; simpa [ins] using h
  | cons y r ih =>
    unfold ins at h
    split at h
    · rcases List.mem_cons.1 h with h | h
      · exact .inl h
      · refine .inr ⟨h, ?_⟩
        rcases List.mem_cons.1 h with rfl | h
        · omega
        · have := hL.head x h; omega
    · split at h
      · rcases List.mem_cons.1 h with h | h
        · exact .inl h
        · exact .inr ⟨List.mem_cons_of_mem _ h, by have := hL.head x h; omega⟩
      · rcases List.mem_cons.1 h with h | h
        · subst h; exact .inr ⟨List.mem_cons_self, by omega⟩
        · rcases ih hL.tail h with h | ⟨h, h2⟩
          · exact .inl h
          · exact .inr ⟨List.mem_cons_of_mem _ h, h2⟩
theorem ins_rising {L : List Fl} (h : Rising L) (f : Fl) : Rising (ins L f) := by
  induction L with
  | nil => exact List.pairwise_singleton _ _
  | cons y r ih =>
    unfold ins
    split
    · refine Rising.cons (fun z hz => ?_) h
      rcases List.mem_cons.1 hz with rfl | hz
      · assumption
      · have := h.head z hz; omega
    · split
      · exact Rising.cons (fun z hz => by have := h.head z hz; omega) h.tail
      · refine Rising.cons (fun z hz => ?_) (ih h.tail)
        rcases mem_ins hz with rfl | hz
        · omega
        · exact h.head z hz
theorem look_ins {L : List Fl} (h : Rising L) (f : Fl) (t : Int) : look (ins L f) t = if t = f.num then some f else look L t := by
  induction L with
  | nil => simp only [ins, look_cons, look_nil, eq_comm]
  | cons y r ih =>
    unfold ins
    split
    · simp only [look_cons, eq_comm]
    · split
      · rename_i e
        simp only [look_cons]
        by_cases ht : t = f.num
        · subst ht; simp
        · rw [if_neg (by omega), if_neg ht, if_neg (by omega)]
      · simp only [look_cons, ih h.tail]
        by_cases ht : t = f.num
        · subst ht
          rw [if_neg (by omega), if_pos rfl, if_pos rfl]
        · rw [if_neg ht, if_neg ht]
theorem length_ins {L : List Fl} (h : Rising L) (f : Fl) : (ins L f).length = if (look L f.num).isSome then L.length else L.length + 1 := by
  induction L with
  | nil => simp [ins, look_nil]
  | cons y r ih =>
    unfold ins
    split
    · rename_i hlt
      have : look (y :: r) f.num = none := by
        unfold look
        refine List.find?_eq_none.2 (fun z hz => ?_)
        rcases List.mem_cons.1 hz with rfl | hz
        · simp; omega
        · have := h.head z hz; simp; omega
      simp [this]
    · split
      · rename_i e
        rw [look_cons, if_pos e.symm]
        simp
      · rw [look_cons, if_neg (show ¬ y.num = f.num by omega), List.length_cons, ih h.tail]
        split <;> simp
def lenOf (o : Option Fl) : Nat := match o with | none => 0 | some f => f.data.length
theorem total_cons (x : Fl) (r : List Fl) : total (x :: r) = x.data.length + total r := by simp [total]
theorem total_ins {L : List Fl} (h : Rising L) (f : Fl) : total (ins L f) + lenOf (look L f.num) = total L + f.data.length := by
  induction L with
  | nil => simp [ins, look_nil, lenOf, total]
  | cons y r ih =>
    unfold ins
    split
    · rename_i hlt
      have : look (y :: r) f.num = none := by
        unfold look
        refine List.find?_eq_none.2 (fun z hz => ?_)
        rcases List.mem_cons.1 hz with rfl | hz
        · simp; omega
        · have := h.head z hz; simp; omega
      rw [this]
      simp only [lenOf, total_cons]
      omega
    · split
      · rename_i e
        rw [look_cons, if_pos e.symm]
        simp only [lenOf, total_cons]
        omega
      · rw [look_cons, if_neg (show ¬ y.num = f.num by omega)]
        have := ih h.tail
        simp only [total_cons]
        omega
theorem lenOf_le {L : List Fl} (t : Int) : lenOf (look L t) ≤ total L := by
  induction L with
  | nil => simp [look_nil, lenOf]
  | cons y r ih =>
    rw [look_cons, total_cons]
    split
    · simp [lenOf]
    · omega
theorem len_le {L : List Fl} {f : Fl} (hf : f ∈ L) : f.data.length ≤ total L := by
  induction L with
  | nil => cases hf
  | cons y r ih =>
    rw [total_cons]
    rcases List.mem_cons.1 hf with rfl | hf
    · omega
    · have := ih hf; omega

theorem del_cons (x : Fl) (r : List Fl) (t : Int) : del (x :: r) t = if x.num = t then del r t else x :: del r t := by
  unfold del
  rw [List.filter_cons]
  by_cases h : x.num = t
  · simp [h]
  · simp [h]
theorem mem_del {L : List Fl} {t : Int} {x : Fl} : x ∈ del L t ↔ x ∈ L ∧ x.num ≠ t := by
  unfold del
  rw [List.mem_filter]
  simp
theorem del_rising {L : List Fl} (h : Rising L) (t : Int) : Rising (del L t) := h.filter _
theorem del_none {L : List Fl} {t : Int} (h : ∀ f ∈ L, f.num ≠ t) : del L t = L := by
  unfold del
  exact List.filter_eq_self.2 (fun f hf => by simpa using h f hf)
theorem look_del {L : List Fl} (t x : Int) : look (del L t) x = if x = t then none else look L x := by
  induction L with
  | nil => simp [del, look_nil]
  | cons y r ih =>
    rw [del_cons]
    split
    · rename_i e
      rw [ih, look_cons]
      by_cases hx : x = t
      · simp [hx]
      · rw [if_neg hx, if_neg hx, if_neg (by omega)]
    · rw [look_cons, look_cons, ih]
      by_cases hx : x = t
      · subst hx
        rw [if_neg (by assumption)]
        simp
      · rw [if_neg hx, if_neg hx]
theorem length_del {L : List Fl} (h : Rising L) (t : Int) : (del L t).length = if (look L t).isSome then L.length - 1 else L.length := by
  induction L with
  | nil => simp [del, look_nil]
  | cons y r ih =>
    rw [del_cons, look_cons]
    split
    · rename_i e
      rw [del_none (fun f hf => by have := h.head f hf; omega)]
      simp
    · rw [List.length_cons, ih h.tail]
      cases hl : look r t with
      | none => simp
      | some f =>
        have := List.length_pos_of_mem (look_mem hl).1
        simp
        omega
theorem total_del {L : List Fl} (h : Rising L) (t : Int) : total (del L t) + lenOf (look L t) = total L := by
  induction L with
  | nil => simp [del, look_nil, lenOf]
  | cons y r ih =>
    rw [del_cons, look_cons]
    split
    · rename_i e
      rw [del_none (fun f hf => by have := h.head f hf; omega), total_cons]
      simp [lenOf]
      omega
    · have := ih h.tail
      simp only [total_cons]
      omega

/-- What an act answers, and what it makes of the files. -/
def actCreate (L : List Fl) (n : Int) : Int × List Fl :=
  if 1 ≤ n ∧ n ≤ 1099511627776 then
    match look L n with
    | some _ => (112, L)
    | none => (0, ins L ⟨n, [], 0⟩)
  else (111, L)
def actAppend (q : Int) (L : List Fl) (n : Int) (d : List UInt8) : Int × List Fl :=
  match look L n with
  | none => (113, L)
  | some f => if (total L : Int) + d.length > q then (115, L) else (0, ins L ⟨n, f.data ++ d, f.safe⟩)
def actSync (L : List Fl) (n : Int) : Int × List Fl :=
  match look L n with
  | none => (113, L)
  | some f => (0, ins L ⟨n, f.data, f.data.length⟩)
def actCut (L : List Fl) (n z : Int) : Int × List Fl :=
  match look L n with
  | none => (113, L)
  | some f => if 0 ≤ z ∧ z ≤ f.data.length then (0, ins L ⟨n, f.data.take z.toNat, z.toNat⟩) else (114, L)
def actRemove (L : List Fl) (n : Int) : Int × List Fl :=
  match look L n with
  | none => (113, L)
  | some _ => (0, del L n)
def act (q : Int) (L : List Fl) (k n : Int) (d : List UInt8) (z : Int) : Int × List Fl :=
  if k = 1 then actCreate L n else if k = 2 then actAppend q L n d else if k = 3 then actSync L n else if k = 4 then actCut L n z else if k = 5 then actRemove L n else (116, L)

/-- How many of the bytes that are not safe a crash keeps. -/
def kept (f : Fl) (x : Int) : Nat := ((if x < 0 then -(x + 1) else x) % ((f.data.length - f.safe : Nat) + 1 : Int)).toNat
def crashed (f : Fl) (x : Int) : Fl := ⟨f.num, f.data.take (f.safe + kept f x), f.safe + kept f x⟩
/-- What a crash leaves of the first k files. -/
def part (keep : List Int) (L : List Fl) (k : Nat) : List Fl := L.mapIdx fun i f => if i < k then crashed f (keep.getD i 0) else f
/-- What a crash leaves. -/
def crash (keep : List Int) (L : List Fl) : List Fl := part keep L L.length

/-- Right files. -/
structure Right (q : Int) (L : List Fl) : Prop where
  rise : Rising L
  ok : ∀ f ∈ L, f.safe ≤ f.data.length ∧ 1 ≤ f.num ∧ f.num ≤ 1099511627776
  quota : 1024 ≤ q ∧ q ≤ 67108864
  fits : (total L : Int) ≤ q

theorem part_get (keep : List Int) (L : List Fl) (k i : Nat) : (part keep L k)[i]? = L[i]?.map fun f => if i < k then crashed f (keep.getD i 0) else f := by
  unfold part
  rw [List.getElem?_mapIdx]
theorem part_zero (keep : List Int) (L : List Fl) : part keep L 0 = L := by
  apply List.ext_getElem?
  intro i
  rw [part_get]
  cases L[i]? <;> simp
theorem part_length (keep : List Int) (L : List Fl) (k : Nat) : (part keep L k).length = L.length := by simp [part]
theorem part_set (keep : List Int) (L : List Fl) (k : Nat) (f : Fl) (hf : L[k]? = some f) : part keep L (k + 1) = (part keep L k).set k (crashed f (keep.getD k 0)) := by
  apply List.ext_getElem?
  intro i
  rw [part_get, List.getElem?_set, part_length]
  by_cases h : k = i
  · subst h
    rw [hf, if_pos rfl, if_pos (List.getElem?_eq_some_iff.1 hf).1]
    simp
  · rw [if_neg h, part_get]
    cases L[i]? with
    | none => rfl
    | some g =>
      by_cases h2 : i < k
      · simp [h2, show i < k + 1 by omega]
      · simp [h2, show ¬ i < k + 1 by omega]
theorem part_nums (keep : List Int) (L : List Fl) (k : Nat) : (part keep L k).map (·.num) = L.map (·.num) := by
  apply List.ext_getElem?
  intro i
  rw [List.getElem?_map, List.getElem?_map, part_get]
  cases L[i]? with
  | none => rfl
  | some g =>
    simp only [Option.map_some]
    split <;> rfl
theorem rising_nums {L M : List Fl} (h : Rising L) (e : M.map (·.num) = L.map (·.num)) : Rising M := by
  have h1 : List.Pairwise (· < ·) (L.map (·.num)) := List.pairwise_map.2 h
  rw [← e] at h1
  exact List.pairwise_map.1 h1
/-- A file that is laid in the place of one of its number. -/
theorem ins_set {M : List Fl} (h : Rising M) {k : Nat} {g f : Fl} (hg : M[k]? = some g) (e : f.num = g.num) : ins M f = M.set k f := by
  induction M generalizing k with
  | nil => simp at hg
  | cons x r ih =>
    cases k with
    | zero =>
      simp only [List.getElem?_cons_zero, Option.some.injEq] at hg
      subst hg
      unfold ins
      rw [if_neg (by omega), if_pos e]
      rfl
    | succ k =>
      simp only [List.getElem?_cons_succ] at hg
      have hlt := h.head g (List.mem_of_getElem? hg)
      unfold ins
      rw [if_neg (by omega), if_neg (by omega), ih h.tail hg]
      rfl
theorem look_get {M : List Fl} (h : Rising M) {k : Nat} {g : Fl} (hg : M[k]? = some g) : look M g.num = some g := look_of_mem h (List.mem_of_getElem? hg)
end Go.Proofs.Ytnpofjeiamjioaa
