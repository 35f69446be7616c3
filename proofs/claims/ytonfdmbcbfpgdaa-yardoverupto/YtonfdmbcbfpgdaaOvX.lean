/-
  YOvP, YOv, YOv2.
-/
import Derived.Test.YtonfdmbcbfpgdaaNuX
import Derived.Test.YtonfdmbcbfpgdaaIvX
import Derived.Test.YtonfdmbcbfpgdaaSumX
import Derived.Test.YtonfdmbcbfpgdaaCloX
import Derived.Test.YtonfdmbcbfpgdaaDraX
import Derived.Deep.MidRow
namespace Go.Proofs.Ytonfdmbcbfpgdaa
open Go.RowKit
/-- The second ticket of a job is another one. -/
def En.re (e : En) (t : Int) : En := { e with t1 := t }
def setE (L : List En) (i t : Int) : List En := L.map (fun e => if e.j.id = i then e.re t else e)
/-- A job but for its second ticket. -/
def skE (e : En) : Jb × Value × List UInt8 × Int := (e.j, e.bv, e.body, e.t0)
theorem skE_re (e : En) (t : Int) : skE (e.re t) = skE e := rfl
theorem setE_sk (L : List En) (i t : Int) : (setE L i t).map skE = L.map skE := by
  unfold setE
  rw [List.map_map]
  refine List.map_congr_left (fun e _ => ?_)
  show skE (if e.j.id = i then e.re t else e) = skE e
  split
  · rfl
  · rfl
theorem lookE_setE (L : List En) (i t n : Int) : lookE (setE L i t) n = if n = i then (lookE L n).map (fun e => e.re t) else lookE L n := by
  unfold lookE setE
  induction L with
  | nil => simp
  | cons e r ih =>
    rw [List.map_cons, List.find?_cons, List.find?_cons]
    by_cases h : e.j.id = i
    · rw [if_pos h]
      show (match (e.j.id == n) with | true => some (e.re t) | false => _) = _
      by_cases hn : n = i
      · rw [if_pos hn] at ih ⊢
        rw [show (e.j.id == n) = true by simp [h, hn]]
        rfl
      · rw [if_neg hn] at ih ⊢
        rw [show (e.j.id == n) = false by simp [h]; exact fun h2 => hn h2.symm]
        exact ih
    · rw [if_neg h]
      by_cases hn : e.j.id = n
      · rw [show (e.j.id == n) = true by simp [hn], if_neg (fun h2 => h (hn.trans h2))]
      · rw [show (e.j.id == n) = false by simp [hn]]
        exact ih
theorem mem_setE {L : List En} (hu : ∀ x ∈ L, ∀ y ∈ L, x.j.id = y.j.id → x = y) {e : En} (he : e ∈ L) (t : Int) (x : En) : x ∈ setE L e.j.id t ↔ (x ∈ L ∧ x.j.id ≠ e.j.id) ∨ x = e.re t := by
  unfold setE
  rw [List.mem_map]
  constructor
  · rintro ⟨y, hy, rfl⟩
    by_cases h : y.j.id = e.j.id
    · rw [if_pos h, hu y hy e he h]
      exact .inr rfl
    · rw [if_neg h]
      exact .inl ⟨hy, h⟩
  · rintro (⟨hx, hne⟩ | rfl)
    · exact ⟨x, hx, if_neg hne⟩
    · exact ⟨e, he, if_pos rfl⟩
theorem sk_mem {L L' : List En} (h : L'.map skE = L.map skE) {e' : En} (he : e' ∈ L') : ∃ e ∈ L, skE e = skE e' := by
  have := List.mem_map_of_mem (f := skE) he
  rw [h] at this
  obtain ⟨e, h1, h2⟩ := List.mem_map.1 this
  exact ⟨e, h1, h2⟩
theorem sk_j {a b : En} (h : skE a = skE b) : a.j = b.j ∧ a.bv = b.bv ∧ a.body = b.body ∧ a.t0 = b.t0 := by
  unfold skE at h
  simpa using h
theorem sk_len {L L' : List En} (h : L'.map skE = L.map skE) : L'.length = L.length := by
  have := congrArg List.length h
  simpa using this
theorem sk_map {α : Type} {L L' : List En} (h : L'.map skE = L.map skE) (f : Jb → α) : L'.map (fun e => f e.j) = L.map (fun e => f e.j) := by
  have := congrArg (List.map (fun x : Jb × Value × List UInt8 × Int => f x.1)) h
  rw [List.map_map, List.map_map] at this
  exact this
theorem sk_rise {L L' : List En} (h : L'.map skE = L.map skE) (hs : L.Pairwise (fun a b => a.j.id < b.j.id)) : L'.Pairwise (fun a b => a.j.id < b.j.id) := by
  have h1 : (L.map (fun e => e.j.id)).Pairwise (· < ·) := List.pairwise_map.2 hs
  rw [← sk_map h (fun j => j.id)] at h1
  exact List.pairwise_map.1 h1
theorem smL_map : ∀ {L L' : List En}, L'.map (fun e => e.j) = L.map (fun e => e.j) → smL L' = smL L
  | [], [], _ => rfl
  | [], _ :: _, h => by cases h
  | _ :: _, [], h => by cases h
  | a :: r, b :: s, h => by
    rw [List.map_cons, List.map_cons, List.cons.injEq] at h
    show (smL s).add b.j.st b.j.pr 1 = (smL r).add a.j.st a.j.pr 1
    rw [h.1, smL_map h.2]
theorem filter_sk {L L' : List En} (p : Jb → Bool) (h : L'.map (fun e => e.j) = L.map (fun e => e.j)) : (L'.filter (fun e => p e.j)).map (fun e => e.j) = (L.filter (fun e => p e.j)).map (fun e => e.j) := by
  have e1 : ∀ X : List En, (X.filter (fun e => p e.j)).map (fun e => e.j) = (X.map (fun e => e.j)).filter p := fun X => by
    rw [List.filter_map]
    rfl
  rw [e1, e1, h]
/-- The heap and the state that Over goes by. -/
def KS (K : HK) (st : Int) : Prop := (K = hkD ∧ st = 2) ∨ (K = hkR ∧ st = 3)
theorem KS.mem {K : HK} {st : Int} (h : KS K st) (j : Jb) : K ∈ ksOf j ↔ j.st = st := by
  constructor
  · intro hk
    rcases h with ⟨rfl, rfl⟩ | ⟨rfl, rfl⟩
    · rcases ks_cases hk with ⟨h1, e⟩ | ⟨h1, e⟩ | ⟨h1, e | e⟩ | ⟨h1, h2, h3, e⟩
      · have := hk_fst e; simp at this
      · exact h1
      · have := hk_fst e; simp at this
      · have := hk_fst e; simp at this
      · have := hk_fst e; simp at this
    · rcases ks_cases hk with ⟨h1, e⟩ | ⟨h1, e | e⟩ | ⟨h1, e⟩ | ⟨h1, h2, h3, e⟩
      · have := hk_fst e; simp at this
      · have := hk_fst e; simp at this
      · have := hk_fst e; simp at this
      · exact h1
      · have := hk_fst e; simp at this
  · intro hj
    unfold ksOf
    rcases h with ⟨rfl, rfl⟩ | ⟨rfl, rfl⟩
    · rw [if_neg (by omega), if_pos hj]; simp
    · rw [if_neg (by omega), if_neg (by omega), if_pos hj]; simp
theorem KS.rk {K : HK} {st : Int} (h : KS K st) : rkOf K.1 = 1 := by
  rcases h with ⟨rfl, _⟩ | ⟨rfl, _⟩ <;> rfl
theorem KS.at {K : HK} {st : Int} (h : KS K st) {j : Jb} {i : Nat} : (ksOf j)[i]? = some K ↔ i = 1 ∧ K ∈ ksOf j := by
  constructor
  · intro hi
    refine ⟨?_, List.mem_of_getElem? hi⟩
    have hj := (h.mem j).1 (List.mem_of_getElem? hi)
    unfold ksOf at hi
    rcases h with ⟨rfl, rfl⟩ | ⟨rfl, rfl⟩
    · rw [if_neg (by omega), if_pos hj] at hi
      match i with
      | 0 => simp [hkT] at hi
      | 1 => rfl
      | n + 2 => simp at hi
    · rw [if_neg (by omega), if_neg (by omega), if_pos hj] at hi
      match i with
      | 0 => simp [hkH] at hi
      | 1 => rfl
      | n + 2 => simp at hi
  · rintro ⟨rfl, hk⟩
    have hj := (h.mem j).1 hk
    unfold ksOf
    rcases h with ⟨rfl, rfl⟩ | ⟨rfl, rfl⟩
    · rw [if_neg (by omega), if_pos hj]; rfl
    · rw [if_neg (by omega), if_neg (by omega), if_pos hj]; rfl
theorem KS.row {K : HK} {st : Int} (h : KS K st) {L : List En} {r : Int × Mk} : RowE L K r ↔ ∃ e ∈ L, K ∈ ksOf e.j ∧ r = (e.t1, e.j.mark) := by
  constructor
  · rintro ⟨e, he, i, hi, rfl⟩
    obtain ⟨rfl, hk⟩ := h.at.1 hi
    exact ⟨e, he, hk, rfl⟩
  · rintro ⟨e, he, hk, rfl⟩
    exact ⟨e, he, 1, h.at.2 ⟨rfl, hk⟩, rfl⟩
/-- In the midst of Over: the first k of what was pulled are laid back. -/
structure Oq (L0 : List En) (K : HK) (g : HM) (P : List Mk) (k : Nat) (L : List En) (x : HM) : Prop where
  sk : L.map skE = L0.map skE
  hb : x.hb = g.hb
  row : ∀ r, r ∈ x.R ↔ ∃ e ∈ L, K ∈ ksOf e.j ∧ e.j.mark ∉ P.drop k ∧ r = (e.t1, e.j.mark)
  oth : ∀ e : En, K ∉ ksOf e.j → (e ∈ L ↔ e ∈ L0)
  hp : Hp 1 x.R
  last : x.last = g.last + k
  bnd : ∀ r ∈ x.R, r.1 ≤ x.last
  len : x.R.length + (P.length - k) = g.R.length
theorem rise_ne {P : List Mk} (h : P.Pairwise (fun a b => a.due < b.due ∨ (a.due = b.due ∧ a.id < b.id))) {k : Nat} {m : Mk} (hm : P[k]? = some m) : m ∉ P.drop (k + 1) := fun hx => by
  obtain ⟨i, hi⟩ := List.mem_iff_getElem?.1 hx
  rw [List.getElem?_drop] at hi
  obtain ⟨h1, e1⟩ := List.getElem?_eq_some_iff.1 hm
  obtain ⟨h2, e2⟩ := List.getElem?_eq_some_iff.1 hi
  have := List.pairwise_iff_getElem.1 h k (k + 1 + i) h1 h2 (by omega)
  rw [e1, e2] at this
  omega
theorem drop_at {P : List Mk} {k : Nat} {m : Mk} (hm : P[k]? = some m) : P.drop k = m :: P.drop (k + 1) := by
  obtain ⟨h1, e1⟩ := List.getElem?_eq_some_iff.1 hm
  rw [List.drop_eq_getElem_cons h1, e1]
/-- One is laid back. -/
theorem Oq.push {L0 : List En} {K : HK} {g : HM} {P : List Mk} {k : Nat} {L : List En} {x : HM} (h : Oq L0 K g P k L x) (hs : L0.Pairwise (fun a b => a.j.id < b.j.id)) (hr : P.Pairwise (fun a b => a.due < b.due ∨ (a.due = b.due ∧ a.id < b.id)))
    {e : En} (he : e ∈ L) (hK : K ∈ ksOf e.j) (hm : P[k]? = some e.j.mark) {x' : HM} (e1 : x'.hb = x.hb) (e2 : x'.last = x.last + 1) {n : Nat} (e3 : x'.R = (riseL (ltK 1) x.R.length (x.R ++ [(x.last + 1, e.j.mark)]) x.R.length n).1) :
    Oq L0 K g P (k + 1) (setE L e.j.id (x.last + 1)) x' := by
  have hsL := sk_rise h.sk hs
  have hu := id_uniq hsL
  have hd := drop_at hm
  have hne := rise_ne hr hm
  have hmem : ∀ r, r ∈ x'.R ↔ r ∈ x.R ∨ r = (x.last + 1, e.j.mark) := fun r => by
    rw [e3, mem_rise, List.mem_append, List.mem_singleton]
  have hkl := (List.getElem?_eq_some_iff.1 hm).1
  refine ⟨(setE_sk _ _ _).trans h.sk, e1.trans h.hb, fun r => ?_, fun y hy => ?_, ?_, ?_, fun r hr2 => ?_, ?_⟩
  · rw [hmem r, h.row r]
    constructor
    · rintro (⟨y, hy, hk, hnd, rfl⟩ | rfl)
      · have hym : y.j.mark ≠ e.j.mark := fun e4 => hnd (by rw [hd, e4]; exact List.mem_cons_self ..)
        have hid : y.j.id ≠ e.j.id := fun e4 => hym (by rw [hu y hy e he e4])
        exact ⟨y, (mem_setE hu he _ y).2 (.inl ⟨hy, hid⟩), hk, fun h4 => hnd (by rw [hd]; exact List.mem_cons_of_mem _ h4), rfl⟩
      · exact ⟨e.re (x.last + 1), (mem_setE hu he _ _).2 (.inr rfl), hK, hne, rfl⟩
    · rintro ⟨y, hy, hk, hnd, rfl⟩
      rcases (mem_setE hu he _ y).1 hy with ⟨hy, hid⟩ | rfl
      · refine .inl ⟨y, hy, hk, fun h4 => ?_, rfl⟩
        rw [hd] at h4
        rcases List.mem_cons.1 h4 with h5 | h5
        · exact hid (congrArg Mk.id h5)
        · exact hnd h5
      · exact .inr rfl
  · rw [← h.oth y hy, mem_setE hu he]
    constructor
    · rintro (⟨h1, _⟩ | rfl)
      · exact h1
      · exact absurd hK hy
    · intro h1
      refine .inl ⟨h1, fun h2 => hy ?_⟩
      rw [hu y h1 e he h2]
      exact hK
  · rw [e3]
    exact push_hp rfl h.hp _ _
  · rw [e2, h.last]
    omega
  · rw [e2]
    rcases (hmem r).1 hr2 with h1 | rfl
    · have := h.bnd r h1
      omega
    · show x.last + 1 ≤ _
      omega
  · rw [e3, riseL_length, List.length_append]
    have := h.len
    simp only [List.length_cons, List.length_nil]
    omega
/-- What Over begins with. -/
theorem Oq.start {L0 : List En} {K : HK} {st : Int} (hk : KS K st) {g : HM} (hrow : ∀ r, r ∈ g.R ↔ RowE L0 K r) {w : World} {now : Int} {nb : Nat} {P : List Mk} {v v2 : Value} {R : List (Int × Mk)} {wr : World} (h : Pl w g now nb P v v2 R wr) (hb : ∀ r ∈ g.R, r.1 ≤ g.last) : Oq L0 K g P 0 L0 { g with v := v2, R := R } := by
  refine ⟨rfl, rfl, fun r => ?_, fun _ _ => Iff.rfl, h.hp, by simp, fun r hr => hb r ((h.mem r).1 hr).1, ?_⟩
  · rw [List.drop_zero]
    show r ∈ R ↔ _
    rw [h.mem r, hrow r, hk.row]
    constructor
    · rintro ⟨⟨e, he, h1, rfl⟩, h2⟩
      exact ⟨e, he, h1, h2, rfl⟩
    · rintro ⟨e, he, h1, h2, rfl⟩
      exact ⟨⟨e, he, h1, rfl⟩, h2⟩
  · have := h.len
    show R.length + (P.length - 0) = g.R.length
    omega
/-- What Over leaves holds what it held. -/
theorem Oq.done {Y : Yd} {N M : Nat} (iv : Iv Y N) {K : HK} {st : Int} (hk : KS K st) {g : HM} (hg : Y.hp K = some g) {P : List Mk} {L : List En} {x : HM} (h : Oq Y.L K g P P.length L x) (hM : P.length ≤ M) : Iv { Y with hp := updH Y.hp K (some x), L := L } (N + M) := by
  have hj : L.map (fun e => e.j) = Y.L.map (fun e => e.j) := sk_map h.sk (fun j => j)
  have hlen := sk_len h.sk
  have hf := iv.inv.few
  have tr : ∀ J y, updH Y.hp K (some x) J = some y → (J = K ∧ y = x) ∨ (J ≠ K ∧ Y.hp J = some y) := fun J y hy => by
    by_cases e : J = K
    · rw [e, updH_at] at hy
      exact .inl ⟨e, (Option.some.inj hy).symm⟩
    · rw [updH_ne _ _ e] at hy
      exact .inr ⟨e, hy⟩
  have hrow : ∀ J y, updH Y.hp K (some x) J = some y → ∀ r, r ∈ y.R ↔ RowE L J r := fun J y hy r => by
    rcases tr J y hy with ⟨rfl, rfl⟩ | ⟨hne, hy⟩
    · rw [h.row r, hk.row]
      constructor
      · rintro ⟨e, he, h1, _, h2⟩; exact ⟨e, he, h1, h2⟩
      · rintro ⟨e, he, h1, h2⟩; exact ⟨e, he, h1, by rw [List.drop_length]; simp, h2⟩
    · rw [iv.lk.row J y hy r]
      have one : ∀ {A B : List En} (_ : A.map skE = B.map skE) (_ : ∀ e : En, K ∉ ksOf e.j → (e ∈ A ↔ e ∈ B)), RowE A J r → RowE B J r := fun {A B} hsk ho => by
        rintro ⟨e, he, i, hi, rfl⟩
        by_cases hke : K ∈ ksOf e.j
        · obtain ⟨e', he', hs⟩ := sk_mem hsk he
          obtain ⟨q1, q2, q3, q4⟩ := sk_j hs
          have h1 := hk.at.2 ⟨rfl, hke⟩
          have hi0 : i = 0 := by
            have hl := ks_len e.j
            have hil := (List.getElem?_eq_some_iff.1 hi).1
            match i with
            | 0 => rfl
            | 1 => exact absurd (Option.some.inj (hi.symm.trans h1)) hne
            | n + 2 => have := ks_le e.j; omega
          subst hi0
          exact ⟨e', he', 0, by rw [q1]; exact hi, by unfold tkE; rw [if_pos rfl, if_pos rfl, q4, q1]⟩
        · exact ⟨e, (ho e hke).1 he, i, hi, rfl⟩
      exact ⟨one h.sk.symm (fun e he => (h.oth e he).symm), one h.sk h.oth⟩
  have sml : smL L = smL Y.L := smL_map hj
  refine ⟨⟨⟨fun J y hy => ?_, by have := hf.nt; show Y.nt ≤ N + M; omega, by have := hf.nh; show Y.nh ≤ N + M; omega, by have := hf.nl; show L.length ≤ N + M; omega, hf.sm, hf.ts⟩, sk_rise h.sk iv.inv.rise, fun e he => ?_, ?_, fun t ht => ?_, fun t => ?_⟩, ⟨hrow, fun e he J hJ => ?_, fun J y hy => ?_⟩, fun i t hi ht => ?_⟩
  · rcases tr J y hy with ⟨rfl, rfl⟩ | ⟨_, hy⟩
    · obtain ⟨f1, f2, f3, f4⟩ := hf.heap J g hg
      have h1 := h.last
      have h2 := h.len
      exact ⟨by omega, by omega, by omega, h.bnd⟩
    · obtain ⟨f1, f2, f3, f4⟩ := hf.heap J y hy
      exact ⟨f1, by omega, by omega, f4⟩
  · obtain ⟨e', he', hs⟩ := sk_mem h.sk he
    obtain ⟨q1, q2, q3, q4⟩ := sk_j hs
    have := iv.inv.ok e' he'
    rw [q1, q3] at this
    exact this
  · show Y.sm = smL L
    rw [sml]
    exact iv.inv.sm
  · show Y.ts t = smT L t
    rw [iv.inv.ts t ht]
    unfold smT
    exact (smL_map (filter_sk (fun j => decide (j.nm = t)) hj)).symm
  · show (Y.tb t).isSome = true ↔ _
    rw [iv.inv.tb t]
    constructor
    · rintro ⟨e, he, rfl⟩
      obtain ⟨e', he', hs⟩ := sk_mem h.sk.symm he
      exact ⟨e', he', by rw [(sk_j hs).1]⟩
    · rintro ⟨e, he, rfl⟩
      obtain ⟨e', he', hs⟩ := sk_mem h.sk he
      exact ⟨e', he', by rw [(sk_j hs).1]⟩
  · show (updH Y.hp K (some x) J).isSome = true
    by_cases e4 : J = K
    · rw [e4, updH_at]; rfl
    · rw [updH_ne _ _ e4]
      obtain ⟨e', he', hs⟩ := sk_mem h.sk he
      exact iv.lk.has e' he' J (by rw [(sk_j hs).1]; exact hJ)
  · rcases tr J y hy with ⟨rfl, rfl⟩ | ⟨_, hy⟩
    · rw [hk.rk]
      exact h.hp
    · exact iv.lk.ord J y hy
  · show updH Y.hp K (some x) (hkT i t) = none
    rw [updH_ne _ _ (by rcases hk with ⟨rfl, _⟩ | ⟨rfl, _⟩; exact hk_ne (by show i ≠ (4 : Nat); omega); exact hk_ne (by show i ≠ (5 : Nat); omega))]
    exact iv.no i t hi ht
/-- What is over: the jobs of a state that are due, by their numbers. -/
def Ovs (L : List En) (st now : Int) (ids : List Int) : Prop :=
  ∃ E : List Jb, ids = E.map (·.id) ∧ (∀ j, j ∈ E ↔ (∃ e ∈ L, e.j = j) ∧ j.st = st ∧ j.du ≤ now) ∧ E.Pairwise (fun a b => a.du < b.du ∨ (a.du = b.du ∧ a.id < b.id))
theorem ovs_of {L : List En} (hs : L.Pairwise (fun a b => a.j.id < b.j.id)) {K : HK} {st : Int} (hk : KS K st) {g : HM} (hrow : ∀ r, r ∈ g.R ↔ RowE L K r) {w : World} {now : Int} {nb : Nat} {P : List Mk} {v v2 : Value} {R : List (Int × Mk)} {wr : World} (h : Pl w g now nb P v v2 R wr) (hno : ∀ r ∈ R, now < r.2.due) : Ovs L st now (P.map (·.id)) := by
  have key : ∀ m ∈ P, ∃ e ∈ L, e.j.mark = m ∧ e.j.st = st ∧ lookD L m.id = e := fun m hm => by
    obtain ⟨_, r, hr, rfl⟩ := h.due m hm
    obtain ⟨e, he, h1, rfl⟩ := hk.row.1 ((hrow r).1 hr)
    refine ⟨e, he, rfl, (hk.mem e.j).1 h1, ?_⟩
    unfold lookD
    rw [show (e.t1, e.j.mark).2.id = e.j.id from rfl]
    cases hl : lookE L e.j.id with
    | none =>
      unfold lookE at hl
      rw [List.find?_eq_none] at hl
      exact absurd (beq_self_eq_true _) (hl e he)
    | some y =>
      obtain ⟨h5, h6⟩ := lookE_mem hl
      rw [id_uniq hs y h5 e he h6]
      rfl
  refine ⟨P.map (fun m => (lookD L m.id).j), ?_, fun j => ?_, ?_⟩
  · rw [List.map_map]
    refine List.map_congr_left (fun m hm => ?_)
    obtain ⟨e, he, h1, h2, h3⟩ := key m hm
    show m.id = (lookD L m.id).j.id
    rw [h3, ← h1]
    rfl
  · rw [List.mem_map]
    constructor
    · rintro ⟨m, hm, rfl⟩
      obtain ⟨e, he, h1, h2, h3⟩ := key m hm
      rw [h3]
      refine ⟨⟨e, he, rfl⟩, h2, ?_⟩
      have := (h.due m hm).1
      rw [← h1] at this
      exact this
    · rintro ⟨⟨e, he, rfl⟩, h2, h3⟩
      have hr : (e.t1, e.j.mark) ∈ g.R := (hrow _).2 (hk.row.2 ⟨e, he, (hk.mem e.j).2 h2, rfl⟩)
      have hP : e.j.mark ∈ P := by
        refine Classical.byContradiction fun hn => ?_
        have := hno _ ((h.mem _).2 ⟨hr, hn⟩)
        have : now < e.j.du := this
        omega
      obtain ⟨e', he', h1, h4, h5⟩ := key _ hP
      refine ⟨_, hP, ?_⟩
      rw [h5, id_uniq hs e' he' e he (congrArg Mk.id h1)]
  · rw [List.pairwise_map]
    refine h.rise.imp_of_mem (fun {a b} ha hb hab => ?_)
    obtain ⟨e, he, h1, h2, h3⟩ := key a ha
    obtain ⟨e', he', h1', h2', h3'⟩ := key b hb
    rw [h3, h3']
    rw [← h1, ← h1'] at hab
    exact hab
end Go.Proofs.Ytonfdmbcbfpgdaa

namespace Go.Proofs.Ytonfdmbcbfpgdaa
open Go.RowKit
theorem YAt.turned0 {w w2 : World} {lab : Nat → HK} {yb : Nat} {Y : Yd} (h : YAt w lab yb Y) {K : HK} {g g' : HM} (hK : Y.hp K = some g) (h1 : HeapAtM w2 g'.hb g'.v g'.mb 32 (rkOf K.1) g'.last g'.R) (e1 : g'.hb = g.hb) (k1 : Kept (Mine g.hb g.v g.mb) w w2) (m1 : ∀ k, Mine g'.hb g'.v g'.mb k → Mine g.hb g.v g.mb k) :
    YAt w2 (fun k => if k < w.heap.size then lab k else uT) yb { Y with hp := updH Y.hp K (some g') } ∧ Kept (Ours lab) w w2 := by
  obtain ⟨k5, hat⟩ := h.heap K g hK
  have k2 : Kept (fun k => lab k = K) w w2 := k1.mono (fun k _ hm => hat.lab k hm)
  obtain ⟨lab', hlab⟩ : ∃ lab' : Nat → HK, lab' = fun k => if k < w.heap.size then lab k else uT := ⟨_, rfl⟩
  have q : Rest w w2 lab lab' K := ⟨k2, fun k hk => by rw [hlab]; exact if_pos hk⟩
  have l0 := h.labs
  have hk7 : ∀ n : Int, ((7, eB, n) : HK) ≠ K := fun n => hk_ne (by show 7 ≠ K.1; omega)
  have same : ∀ J x, Y.hp J = some x → ∃ y, updH Y.hp K (some g') J = some y ∧ y.hb = x.hb := fun J x hx => by
    by_cases e : J = K
    · subst e
      rw [hK] at hx
      cases hx
      exact ⟨g', updH_at _ _ _, e1⟩
    · exact ⟨x, by rw [updH_ne _ _ e]; exact hx, rfl⟩
  obtain ⟨d, r, hd, hr, hb'⟩ := h.box
  obtain ⟨d', hd', ed⟩ := same _ _ hd
  obtain ⟨r', hr', er⟩ := same _ _ hr
  rw [← hlab]
  refine ⟨⟨⟨d', r', hd', hr', by rw [ed, er]; exact q.block (hk7 0) l0.1 hb'⟩, h.jobs.kept k2 (q.not (hk7 1) l0.2.1), h.tubs.kept k2 (q.not (hk7 2) l0.2.2.1), ?_, ?_, ?_, fun e he => q.body (by omega) (h.body e he), q.own (Y := Y) h⟩, k2.mono (fun k _ e => by show (lab k).1 ≤ 7; rw [e]; omega)⟩
  · refine (h.hels.kept k2 (q.not (hk7 3) l0.2.2.2)).congr rfl (fun n => ?_)
    show (updH Y.hp K (some g') (hkH n)).map (fun h => ptrV h.hb) = (Y.hp (hkH n)).map (fun h => ptrV h.hb)
    cases hx : Y.hp (hkH n) with
    | none =>
      rw [updH_ne _ _ (fun e => by rw [e, hK] at hx; cases hx), hx]
    | some x =>
      obtain ⟨y, hy, ey⟩ := same _ _ hx
      rw [hy]
      simp [ey]
  · intro J x hx
    by_cases e : J = K
    · subst e
      have hx : some g' = some x := (updH_at Y.hp J (some g')).symm.trans hx
      cases hx
      refine ⟨k5, h1, fun b hb => ?_⟩
      have hm := m1 b hb
      exact (q.labs b (hat.at_.lt b hm)).trans (hat.lab b hm)
    · have hx : Y.hp J = some x := (updH_ne Y.hp (K := K) (some g') e).symm.trans hx
      obtain ⟨j5, ha⟩ := h.heap J x hx
      exact ⟨j5, q.heap e ha⟩
  · intro t b ht
    obtain ⟨lb, g0, g1, g2, e0, e1, e2, hbk⟩ := q.tubes (Y := Y) h (by omega) t b ht
    obtain ⟨y0, hy0, ey0⟩ := same _ _ e0
    obtain ⟨y1, hy1, ey1⟩ := same _ _ e1
    obtain ⟨y2, hy2, ey2⟩ := same _ _ e2
    exact ⟨lb, y0, y1, y2, hy0, hy1, hy2, by rw [ey0, ey1, ey2]; exact hbk⟩
/-- Blocks of somebody else's stay. -/
theorem stay {w w' : World} {lab : Nat → HK} (hk : Kept (Ours lab) w w') {q : Nat} (hq : q < w.heap.size) (hl : lab q = uT) : w'.heap[q]? = w.heap[q]? := hk.block q hq (fun e2 => by
  have e2 : (lab q).1 ≤ 7 := e2
  rw [hl] at e2
  exact absurd e2 (by decide))
theorem row_stay {w w' : World} {B e s n : Nat} {v : Value} {xs : List Value} (h : w.ownsRow B e s v n xs) (hk : ∀ q, v.ownBlock = some q → w'.heap[q]? = w.heap[q]?) : w'.ownsRow B e s v n xs := by
  refine ⟨h.1, ?_⟩
  rcases h.2 with h0 | ⟨g, cap, cur, rfl, hB, hg, rest⟩
  · exact .inl h0
  · exact .inr ⟨g, cap, cur, rfl, hB, (hk g rfl).trans hg, rest⟩
theorem run_lookE {o : Oper} {a : Act} {w : World} {T : TypeId} {m x : Operand} {mb : Nat} {i : Int} {v : Value} (ho : o.op = .lookup T m x false) (hm : a.eval m = .map (some mb)) (hx : a.eval x = .int .i64 i) (h : (Instr.lookup T (.map (some mb)) (.int .i64 i) false).run Try.prog w = .ok v w) : (execOp a.eval o).run Try.prog w = .ok (.value v) w := by
  unfold execOp
  simp only [ho, hm, hx, Sem.run_bind, Sem.run_pure, h, Result.andThen_ok]
theorem info_entry : (Try.prog.info? 71).map (fun i => (i.zero, i.size, i.bytes)) = some (some (.agg en0.cells), 18, 168) := by kernel_rfl
theorem run_allocEN {o : Oper} {a : Act} {w : World} (ho : o.op = .alloc 71) : (execOp a.eval o).run Try.prog w = .ok (.value (.pointer (some ⟨w.heap.size, 0, none⟩))) (w.alloc (.cells en0.cells 71)) := by
  obtain ⟨i9, hi, hz0, hz1, hz2⟩ := info_parts info_entry
  simp only [execOp, ho]
  simp [Instr.alloc, Result.andThen, newVar, newRow, newObj]
  rfl
theorem ent_szE2 (e : En) : en0.cells.size = e.cells.size := by
  unfold En.cells
  simp [Jb.cells]
theorem setRow_new (w : World) (c d : Array Value) (t : TypeId) : (w.alloc (.cells c t)).setRow w.heap.size d = w.alloc (.cells d t) := World.setRow_alloc_new w c d t
theorem re_cells (e : En) (t : Int) : e.cells.setIfInBounds 17 (.int .i64 t) = (e.re t).cells := by
  obtain ⟨⟨id, pr, dl, tr, bo, st, du, od, ho, c0, c1, c2, c3, c4, nm⟩, bv, body, t0, t1⟩ := e
  rfl
theorem build_int (w : World) (n : Int) : (Instr.buildSlice 32 1 #[(0, .int .i64 n)]).run Try.prog w = .ok (.slice (some ⟨w.heap.size, 0, none⟩) 1 1) (w.alloc (.cells #[.int .i64 n] 3)) := by kernel_rfl
theorem run_buildI {o : Oper} {a : Act} {w : World} {x : Operand} {n : Int} (ho : o.op = .buildSlice 32 1 #[(0, x)]) (hx : a.eval x = .int .i64 n) : (execOp a.eval o).run Try.prog w = .ok (.value (.slice (some ⟨w.heap.size, 0, none⟩) 1 1)) (w.alloc (.cells #[.int .i64 n] 3)) := by
  unfold execOp
  simp only [ho, hx, List.map_toArray, List.map_cons, List.map_nil, Sem.run_bind, build_int, Sem.run_pure, Result.andThen_ok]
theorem Oq.few {Y : Yd} {N M : Nat} (iv : Iv Y N) {K : HK} {g : HM} (hg : Y.hp K = some g) {P : List Mk} {k : Nat} {L : List En} {x : HM} (h : Oq Y.L K g P k L x) (hM : k ≤ M) : Few { Y with hp := updH Y.hp K (some x), L := L } (N + M) := by
  have hf := iv.inv.few
  have hlen := sk_len h.sk
  refine ⟨fun J y hy => ?_, by have := hf.nt; show Y.nt ≤ N + M; omega, by have := hf.nh; show Y.nh ≤ N + M; omega, by have := hf.nl; show L.length ≤ N + M; omega, hf.sm, hf.ts⟩
  have hy : updH Y.hp K (some x) J = some y := hy
  by_cases e : J = K
  · rw [e, updH_at] at hy
    cases hy
    obtain ⟨f1, f2, f3, f4⟩ := hf.heap K g hg
    have h1 := h.last
    have h2 := h.len
    exact ⟨by omega, by omega, by omega, h.bnd⟩
  · rw [updH_ne _ _ e] at hy
    obtain ⟨f1, f2, f3, f4⟩ := hf.heap J y hy
    exact ⟨f1, by omega, by omega, f4⟩
theorem updH_twice (f : HK → Option HM) (K : HK) (x y : Option HM) : updH (updH f K x) K y = updH f K y := by
  funext J
  unfold updH
  split <;> rfl
/-- In the midst of over's loop: kq were laid back, ko told. -/
structure Ol (w : World) (lab : Nat → HK) (yb : Nat) (Y : Yd) (K : HK) (g : HM) (P : List Mk) (af : Option Addr) (cf : Nat) (kq ko : Nat) (v : Value) (L : List En) (x : HM) (wr : World) (labr : Nat → HK) : Prop where
  yard : YAt wr labr yb { Y with hp := updH Y.hp K (some x), L := L }
  q : Oq Y.L K g P kq L x
  fnd : Marks wr w.heap.size (.slice af P.length cf) P
  fl : ∀ q, (Value.slice af P.length cf).ownBlock = some q → labr q = uT
  out : Nums wr w.heap.size v ((P.take ko).map (·.id))
  ol : ∀ q, v.ownBlock = some q → labr q = uT ∧ (Value.slice af P.length cf).ownBlock ≠ some q
  kept : Kept (Ours lab) w wr
  labs : ∀ k, k < w.heap.size → labr k = lab k
abbrev labelled (l : Nat → HK) (q : Nat) : Prop := l q = uT
abbrev upL (wr : World) (labr : Nat → HK) : Nat → HK := fun k => if k < wr.heap.size then labr k else uT
section
variable {w : World} {lab : Nat → HK} {yb : Nat} {Y : Yd} {K : HK} {g : HM} {P : List Mk} {af : Option Addr} {cf kq ko : Nat} {v : Value} {L : List En} {x : HM} {wr : World} {labr : Nat → HK}
theorem Ol.later {w' : World} (h : Ol w lab yb Y K g P af cf kq ko v L x wr labr) (hb : Below wr.heap.size wr w') : Ol w lab yb Y K g P af cf kq ko v L x w' (upL wr labr) :=
  ⟨h.yard.below hb (fun _ hk => if_pos hk), h.q, row_below h.fnd hb, fun q hq => (if_pos (World.ownsRow.lt h.fnd q hq).2).trans (h.fl q hq), row_below h.out hb, fun q hq => ⟨(if_pos (World.ownsRow.lt h.out q hq).2).trans (h.ol q hq).1, (h.ol q hq).2⟩, h.kept.trans (Kept.ofBelow hb), fun k hk => (if_pos (Nat.lt_of_lt_of_le hk h.kept.size)).trans (h.labs k hk)⟩
theorem row_wide {w : World} {B B' e s n : Nat} {v : Value} {xs : List Value} (h : w.ownsRow B e s v n xs) (hB : B' ≤ B) : w.ownsRow B' e s v n xs := by
  refine ⟨h.1, ?_⟩
  rcases h.2 with h0 | ⟨g, cap, cur, rfl, hb, rest⟩
  · exact .inl h0
  · exact .inr ⟨g, cap, cur, rfl, Nat.le_trans hB hb, rest⟩
/-- A step that turns what is ours alone. -/
theorem Ol.turn {w' : World} {lab' : Nat → HK} {kq' : Nat} {L' : List En} {x' : HM} (h : Ol w lab yb Y K g P af cf kq ko v L x wr labr) (a : YAt w' lab' yb { Y with hp := updH Y.hp K (some x'), L := L' }) (q : Oq Y.L K g P kq' L' x') (hl : ∀ k, k < wr.heap.size → lab' k = labr k) (hk : Kept (Ours labr) wr w') : Ol w lab yb Y K g P af cf kq' ko v L' x' w' lab' :=
  ⟨a, q, row_stay h.fnd (fun q hq => stay hk (World.ownsRow.lt h.fnd q hq).2 (h.fl q hq)), fun q hq => (hl q (World.ownsRow.lt h.fnd q hq).2).trans (h.fl q hq), row_stay h.out (fun q hq => stay hk (World.ownsRow.lt h.out q hq).2 (h.ol q hq).1), fun q hq => ⟨(hl q (World.ownsRow.lt h.out q hq).2).trans (h.ol q hq).1, (h.ol q hq).2⟩,
    h.kept.step hk (fun k hk2 e2 => by
      have e2 : (labr k).1 ≤ 7 := e2
      rw [h.labs k hk2] at e2
      exact e2), fun k hk2 => (hl k (Nat.lt_of_lt_of_le hk2 h.kept.size)).trans (h.labs k hk2)⟩
/-- A step that turns what is ours, and a box of somebody else's. -/
theorem Ol.turn2 {w' : World} {lab' : Nat → HK} {kq' b : Nat} {L' : List En} {x' : HM} (h : Ol w lab yb Y K g P af cf kq ko v L x wr labr) (a : YAt w' lab' yb { Y with hp := updH Y.hp K (some x'), L := L' }) (q : Oq Y.L K g P kq' L' x') (hl : ∀ k, k < wr.heap.size → lab' k = labr k) (hk : Kept (fun k => Ours labr k ∨ k = b) wr w')
    (hB : w.heap.size ≤ b) (h1 : v.ownBlock ≠ some b) (h2 : (Value.slice af P.length cf).ownBlock ≠ some b) : Ol w lab yb Y K g P af cf kq' ko v L' x' w' lab' := by
  have st : ∀ q, q < wr.heap.size → labr q = uT → q ≠ b → w'.heap[q]? = wr.heap[q]? := fun q hq hu hne => hk.block q hq (fun e2 => by
    rcases e2 with e2 | e2
    · have e2 : (labr q).1 ≤ 7 := e2
      rw [hu] at e2
      exact absurd e2 (by decide)
    · exact hne e2)
  exact ⟨a, q, row_stay h.fnd (fun q hq => st q (World.ownsRow.lt h.fnd q hq).2 (h.fl q hq) (fun e => h2 (by rw [← e]; exact hq))), fun q hq => (hl q (World.ownsRow.lt h.fnd q hq).2).trans (h.fl q hq), row_stay h.out (fun q hq => st q (World.ownsRow.lt h.out q hq).2 (h.ol q hq).1 (fun e => h1 (by rw [← e]; exact hq))), fun q hq => ⟨(hl q (World.ownsRow.lt h.out q hq).2).trans (h.ol q hq).1, (h.ol q hq).2⟩,
    h.kept.step hk (fun k hk2 e2 => by
      rcases e2 with e2 | e2
      · have e2 : (labr k).1 ≤ 7 := e2
        rw [h.labs k hk2] at e2
        exact e2
      · omega), fun k hk2 => (hl k (Nat.lt_of_lt_of_le hk2 h.kept.size)).trans (h.labs k hk2)⟩
theorem ent17 {w : World} {b : Nat} {e : En} (h : w.heap[b]? = some (.cells e.cells 71 (0, 0))) : w.cell? ⟨b, 17, none⟩ = some (.int .i64 e.t1) ∧ w.frozen? ⟨b, 17, none⟩ = false := by
  constructor
  · simp [World.cell?, h, En.cells, Jb.cells]
  · simp [World.frozen?, h]
/-- Somebody else's box is written. -/
theorem Ol.poke {w' : World} {b : Nat} (h : Ol w lab yb Y K g P af cf kq ko v L x wr labr) (hk : Kept (fun k => k = b) wr w') (hb : labr b = uT) (hB : w.heap.size ≤ b) (h1 : v.ownBlock ≠ some b) (h2 : (Value.slice af P.length cf).ownBlock ≠ some b) : Ol w lab yb Y K g P af cf kq ko v L x w' labr :=
  ⟨h.yard.kept hk (fun q _ e => by rw [show q = b from e, hb]; decide) (fun _ _ => rfl), h.q, row_stay h.fnd (fun q hq => hk.block q (World.ownsRow.lt h.fnd q hq).2 (fun e => h2 (by rw [← show q = b from e]; exact hq))), h.fl, row_stay h.out (fun q hq => hk.block q (World.ownsRow.lt h.out q hq).2 (fun e => h1 (by rw [← show q = b from e]; exact hq))), h.ol,
    h.kept.step hk (fun k hk2 e2 => by have e2 : k = b := e2; omega), h.labs⟩
/-- One more is told. -/
theorem Ol.told {w8 w9 : World} {v9 : Value} {m : Mk} (h : Ol w lab yb Y K g P af cf kq ko v L x wr labr) (hm : P[ko]? = some m) (b : Below wr.heap.size wr w8) (o9 : Nums w9 w.heap.size v9 ((P.take ko).map (·.id) ++ [m.id])) (g9 : w8.grownBy w9 v.ownBlock) (l9 : v9.ownBlock = v.ownBlock ∨ v9.ownBlock = some w8.heap.size) : Ol w lab yb Y K g P af cf kq (ko + 1) v9 L x w9 (upL wr labr) := by
  have h8 := h.later b
  have k9 : Kept (fun k => v.ownBlock = some k) w8 w9 := Kept.ofGrown g9 (fun q hq => hq)
  have nf : ∀ q, (Value.slice af P.length cf).ownBlock = some q → v.ownBlock ≠ some q := fun q hq hv => (h.ol q hv).2 hq
  refine ⟨h8.yard.kept k9 (fun q _ e => by rw [(h8.ol q e).1]; decide) (fun _ _ => rfl), h8.q, row_stay h8.fnd (fun q hq => k9.block q (World.ownsRow.lt h8.fnd q hq).2 (nf q hq)), h8.fl, ?_, fun q hq => ?_, h8.kept.step k9 (fun k hk2 e2 => ?_), h8.labs⟩
  · rw [List.take_add_one, hm, Option.toList_some, List.map_append]
    exact o9
  · rcases l9 with e | e
    · rw [e] at hq
      exact h8.ol q hq
    · rw [e] at hq
      cases hq
      exact ⟨if_neg (Nat.not_lt.2 b.size), fun hq => by have := (World.ownsRow.lt h.fnd _ hq).2; have := b.size; omega⟩
  · have := (World.ownsRow.lt h8.out k e2).1
    omega
theorem Ol.start {N : Nat} {st now : Int} {nb : Nat} {v2 v3 : Value} {R : List (Int × Mk)} {w1 w2 w3 : World} (h : YAt w lab yb Y) (iv : Iv Y N) (hK : KS K st) (hg : Y.hp K = some g) (b1 : Below w.heap.size w w1) (pl : Pl w1 g now nb P (.slice af P.length cf) v2 R w2) (b3 : Below w2.heap.size w2 w3) (o3 : Nums w3 w2.heap.size v3 []) : ∃ labr, Ol w lab yb Y K g P af cf 0 0 v3 Y.L { g with v := v2, R := R } w3 labr := by
  have a1 : YAt w1 (upL w lab) yb Y := h.below b1 (fun _ hk => if_pos hk)
  obtain ⟨a2, k2⟩ := a1.turned0 (g' := { g with v := v2, R := R }) hg (by rw [hK.rk]; exact pl.heap) rfl pl.kept (fun k hk => mine_own pl.own2 hk)
  have s1 := b1.size
  have s2 := pl.kept.size
  have k02 : Kept (Ours lab) w w2 := (Kept.ofBelow b1).step k2 (fun k hk e2 => by
    have e2 : (upL w lab k).1 ≤ 7 := e2
    rw [show upL w lab k = lab k from if_pos hk] at e2
    exact e2)
  refine ⟨upL w2 (upL w1 (upL w lab)), a2.below b3 (fun _ hk => if_pos hk), Oq.start hK (iv.lk.row K g hg) pl (iv.inv.few.heap K g hg).2.2.2, row_below (row_wide pl.out s1) b3, fun q hq => ?_, row_wide o3 (by omega), fun q hq => ?_, k02.trans (Kept.ofBelow b3), fun k hk => ?_⟩
  · have := World.ownsRow.lt pl.out q hq
    show (if q < w2.heap.size then (if q < w1.heap.size then _ else uT) else uT) = uT
    rw [if_pos this.2, if_neg (by omega)]
  · have := World.ownsRow.lt o3 q hq
    refine ⟨if_neg (by omega), fun hq2 => ?_⟩
    have := World.ownsRow.lt pl.out q hq2
    omega
  · show (if k < w2.heap.size then (if k < w1.heap.size then (if k < w.heap.size then lab k else uT) else uT) else uT) = lab k
    rw [if_pos (by omega), if_pos (by omega), if_pos hk]
end
/-- What over leaves. -/
def OvRes (w : World) (lab : Nat → HK) (yb : Nat) (Y : Yd) (N M : Nat) (st now : Int) (v : Value) (w' : World) : Prop :=
  ∃ ids lab' Y', Nums w' w.heap.size v ids ∧ Ovs Y.L st now ids ∧ (∀ q, v.ownBlock = some q → lab' q = uT) ∧ YAt w' lab' yb Y' ∧ Iv Y' (N + M) ∧ Y'.L.map skE = Y.L.map skE ∧ (∀ k, k < w.heap.size → lab' k = lab k) ∧ Kept (Ours lab) w w' ∧ (∀ J, (Y'.hp J).map (·.hb) = (Y.hp J).map (·.hb))
set_option maxHeartbeats 8000000 in
set_option maxRecDepth 1000000 in
theorem over_any (K : HK) (st : Int) (hK : KS K st) (now : Int) (w : World) (lab : Nat → HK) (yb : Nat) (Y : Yd) (N M : Nat) (h : YAt w lab yb Y) (iv : Iv Y N) (g : HM) (hg : Y.hp K = some g) (hN : N + M ≤ 100000000) (hM : Y.L.length ≤ M) :
    Calls Try.prog 24 #[ptrV yb, ptrV g.hb, .int .i64 now] w fun x w' => ∃ v, x = .returned v ∧ OvRes w lab yb Y N M st now v w' := by
  have hat := (h.heap K g hg).2
  have hrk := hK.rk
  have h1 : HeapAtM w g.hb g.v g.mb bfF 1 g.last g.R := by rw [← hrk]; exact hat.at_
  have hp1 : Hp 1 g.R := by rw [← hrk]; exact iv.lk.ord K g hg
  have hrow := iv.lk.row K g hg
  have hu : ∀ r ∈ g.R, ∀ s ∈ g.R, r.2.id = s.2.id → r = s := fun r hr s hs e => by
    obtain ⟨a, ha, _, rfl⟩ := hK.row.1 ((hrow r).1 hr)
    obtain ⟨b, hb, _, rfl⟩ := hK.row.1 ((hrow s).1 hs)
    rw [id_uniq iv.inv.rise a ha b hb e]
  obtain ⟨w1, hw1⟩ : ∃ w1, w1 = w.alloc (.cells #[.int .i64 now] 3) := ⟨_, rfl⟩
  obtain ⟨nb, hnb⟩ : ∃ nb, nb = w.heap.size := ⟨_, rfl⟩
  have b1 : Below w.heap.size w w1 := by rw [hw1]; exact (Below.refl _ w).alloc (Nat.le_refl _) _
  have cn : w1.cell? ⟨nb, 0, none⟩ = some (.int .i64 now) := by
    have x1 : w1.heap[nb]? = some (.cells #[.int .i64 now] 3 (0, 0)) := by rw [hw1, hnb]; exact heap_alloc_new w _
    simp [World.cell?, x1]
  have h11 : HeapAtM w1 g.hb g.v g.mb bfF 1 g.last g.R := h1.kept (Kept.ofBelow (P := fun _ => False) b1) (fun _ _ h => h)
  have hnm : ¬ Mine g.hb g.v g.mb nb := fun h => by have := h1.lt nb h; omega
  have gl : g.R.length ≤ N := (iv.inv.few.heap K g hg).2.2.1
  have CP : Hid (Calls Try.prog 46 #[ptrV g.hb, hasV nb] w1 fun e w' => ∃ v, e = .returned v ∧ ∃ P v2 R, Pl w1 g now nb P v v2 R w' ∧ ∀ r ∈ R, now < r.2.due) := pull_any w1 g now nb h11 hp1 hu cn hnm (by omega)
  have HW1 : Hid (w.alloc (.cells #[.int .i64 now] 3) = w1 ∧ w.heap.size = nb) := ⟨hw1.symm, hnb.symm⟩
  have HH : Hid (YAt w lab yb Y ∧ Iv Y N ∧ Y.hp K = some g ∧ KS K st ∧ N + M ≤ 100000000 ∧ Y.L.length ≤ M ∧ Below w.heap.size w w1) := ⟨h, iv, hg, hK, hN, hM, b1⟩
  obtain ⟨i1, hi1, hz0, hz1, hz2⟩ := info_parts info_int
  clear h iv hg hK hN hM hat h1 hp1 hrow hu hw1 hnb b1 cn h11 hnm gl hrk
  go_enter Try.func24, Try.ntmps24
  go_upto_region 1 with fail
  rw [HW1.out.1, HW1.out.2]
  go_upto_region 2 with fail
  refine CP.out.mono ?_
  rintro e w2 ⟨vf, rfl, P, v2, R, pl, hno⟩
  obtain ⟨af, cf, rfl⟩ := pl.out.form
  obtain ⟨n, hn⟩ : ∃ n, n = P.length := ⟨_, rfl⟩
  have hrow := HH.out.2.1.lk.row K g HH.out.2.2.1
  have hnN : n ≤ N := by
    have := pl.len
    have := (HH.out.2.1.inv.few.heap K g HH.out.2.2.1).2.2.1
    omega
  have hnl : n ≤ 100000000 := by have := HH.out.2.2.2.2.1; omega
  have hnM : Hid (n ≤ M ∧ n = P.length) := by
    refine ⟨?_, hn⟩
    have h1 := HH.out.2.2.2.2.2.1
    have h2 : (P.map (·.id)).length ≤ (Y.L.map (fun e => e.j.id)).length := by
      refine List.Nodup.length_le_of_subset ?_ (fun i hi => ?_)
      · rw [List.nodup_iff_pairwise_ne, List.pairwise_map]
        refine pl.rise.imp_of_mem (fun {a b} ha hb hab he => ?_)
        obtain ⟨_, r, hr, rfl⟩ := pl.due a ha
        obtain ⟨_, r', hr', rfl⟩ := pl.due b hb
        obtain ⟨e1, he1, _, rfl⟩ := HH.out.2.2.2.1.row.1 ((hrow r).1 hr)
        obtain ⟨e2, he2, _, rfl⟩ := HH.out.2.2.2.1.row.1 ((hrow r').1 hr')
        rw [id_uniq HH.out.2.1.inv.rise e1 he1 e2 he2 he] at hab
        omega
      · obtain ⟨m, hm, rfl⟩ := List.mem_map.1 hi
        obtain ⟨_, r, hr, rfl⟩ := pl.due m hm
        obtain ⟨e1, he1, _, rfl⟩ := HH.out.2.2.2.1.row.1 ((hrow r).1 hr)
        exact List.mem_map.2 ⟨e1, he1, rfl⟩
    rw [List.length_map, List.length_map] at h2
    omega
  have OV : Hid (Ovs Y.L st now (P.map (·.id))) := ovs_of HH.out.2.1.inv.rise HH.out.2.2.2.1 hrow pl hno
  have HE : Hid (∀ m ∈ P, ∃ e ∈ Y.L, e.j.mark = m ∧ K ∈ ksOf e.j) := fun m hm => by
    obtain ⟨_, r, hr, rfl⟩ := pl.due m hm
    obtain ⟨e1, he1, h1, rfl⟩ := HH.out.2.2.2.1.row.1 ((hrow r).1 hr)
    exact ⟨e1, he1, rfl, h1⟩
  have HPL : Hid (Pl w1 g now nb P (.slice af P.length cf) v2 R w2) := pl
  have HPR : Hid (P.Pairwise (fun a b => a.due < b.due ∨ (a.due = b.due ∧ a.id < b.id))) := pl.rise
  rw [← hn]
  clear pl hno hrow CP HW1 hn
  go_upto_region 3 with (first
    | (at_make; refine wpList_make_own _ rfl (.const (.int .i64 0)) (.tmp 16) 32 rfl w2.heap.size 3 i1 _ 1 Try.underlying32 hi1 hz0 hz1 .i64 .i64 (n : Int) n rfl rfl rfl (by rw [hz2]; omega) (by unfold maxLen; omega) (Nat.le_refl _) ?_; intro w3 o3 g3; have H3 : Hid (w3.ownsRow w2.heap.size 3 1 (.slice (some ⟨w2.heap.size, 0, none⟩) 0 n) 0 [] ∧ w2.grownBy w3 none) := ⟨o3, g3⟩; clear o3 g3))
  have b3 : Below w2.heap.size w2 w3 := ⟨H3.out.2.os, H3.out.2.tape, H3.out.2.output, H3.out.2.size, fun k hk => H3.out.2.block k hk (by simp)⟩
  obtain ⟨lab3, hOl⟩ := Ol.start (lab := lab) HH.out.1 HH.out.2.1 HH.out.2.2.2.1 HH.out.2.2.1 HH.out.2.2.2.2.2.2 HPL.out b3 (show Nums w3 w2.heap.size _ [] from H3.out.1)
  have OL0 : Hid (Ol w lab yb Y K g P af cf 0 0 (.slice (some ⟨w2.heap.size, 0, none⟩) 0 n) Y.L { g with v := v2, R := R } w3 lab3) := hOl
  clear b3 hOl H3 HPL
  go_upto_region 4 with fail
  go_loopw [8, 20] (fun v i wr => ∃ (k : Nat) (L : List En) (x : HM) (labr : Nat → HK), i = .int .i64 k ∧ k ≤ n ∧ Hid (Ol w lab yb Y K g P af cf k k v L x wr labr)) (fun _ i _ => n - (intOf i).toNat)
  case atStart => exact ⟨0, Y.L, _, lab3, rfl, Nat.zero_le _, OL0⟩
  case round =>
    obtain ⟨k, L, x, labr, rfl, hk, HL⟩ := hrel
    clear OL0
    by_cases hlt : k < n
    · have hltI : (k : Int) < (n : Int) := by omega
      have hk0 : (0 : Int) ≤ (k : Int) := by omega
      obtain ⟨m, hm⟩ : ∃ m, P[k]? = some m := ⟨_, List.getElem?_eq_getElem (by rw [← hnM.out.2]; exact hlt)⟩
      obtain ⟨e, heL, hem, heK⟩ : ∃ e ∈ L, e.j.mark = m ∧ K ∈ ksOf e.j := by
        obtain ⟨e0, h1, h2, h3⟩ := HE.out m (List.mem_of_getElem? hm)
        obtain ⟨e, h4, h5⟩ := sk_mem HL.out.q.sk.symm h1
        exact ⟨e, h4, by rw [(sk_j h5).1]; exact h2, by rw [(sk_j h5).1]; exact h3⟩
      subst hem
      have hf := HL.out.fnd
      rw [← hnM.out.2] at hf
      obtain ⟨gf, rfl, gB, RG0⟩ := Marks.at hf hm
      have glt : gf < wr.heap.size := (World.ownsRow.lt hf gf rfl).2
      obtain ⟨C, hC⟩ : ∃ C, C = (cells4 e.j.mark).toArray := ⟨_, rfl⟩
      have RG : Hid (wr.rangeAt gf (k * 4) C.toList) := by rw [hC]; exact RG0
      have HS : Hid ((Try.prog.info? 76).map (·.size) = some C.size ∧ (4 : Nat) = C.size ∧ C.all (·.oneCell') = true) := by rw [hC]; exact ⟨mark_row, rfl, mark_one _⟩
      obtain ⟨w5, hw5⟩ : ∃ w5, w5 = wr.alloc (.cells C 76) := ⟨_, rfl⟩
      obtain ⟨xb, hxb⟩ : ∃ xb, xb = wr.heap.size := ⟨_, rfl⟩
      have B5 : Hid (Below wr.heap.size wr w5) := by rw [hw5]; exact (Below.refl _ wr).alloc (Nat.le_refl _) _
      have x5 : w5.heap[xb]? = some (.cells C 76 (0, 0)) := by rw [hw5, hxb]; exact heap_alloc_new wr _
      have XC : Hid (w5.heap[xb]? = some (.cells C 76 (0, 0))) := x5
      have X5 : Hid (w5.cell? ⟨xb, 0, none⟩ = some (.int .i64 e.j.id) ∧ xb < w5.heap.size) := by
        refine ⟨?_, (Array.getElem?_eq_some_iff.1 x5).1⟩
        simp [World.cell?, x5, hC, cells4]
        rfl
      have H5 := HL.out.later B5.out
      obtain ⟨d5, r5, hd5, hr5⟩ := H5.yard.two
      have Y5 : Hid (w5.cell? ⟨yb, 0, none⟩ = some (.map (some Y.jm)) ∧ yb < w5.heap.size) := ⟨(H5.yard.cells hd5 hr5).1, H5.yard.yb_lt⟩
      have hsL : L.Pairwise (fun a b => a.j.id < b.j.id) := sk_rise HL.out.q.sk HH.out.2.1.inv.rise
      have hok : e.j.ok := by
        obtain ⟨e0, h1, h2⟩ := sk_mem HL.out.q.sk heL
        rw [← (sk_j h2).1]
        exact (HH.out.2.1.inv.ok e0 h1).1
      have LK5 : Hid (∀ X, Below w5.heap.size w5 X → (Instr.lookup 54 (.map (some Y.jm)) (.int .i64 e.j.id) false).run Try.prog X = .ok (.agg e.cells) X) := fun X hX => by
        have := (H5.yard.jobs.later hX).look_run (w := X) Try.underlying54 (zero_ent _) e.j.id hok.1
        rw [lookE_at hsL heL] at this
        exact this
      have E1 : Hid (e.cells.all (·.oneCell') = true) := by
        obtain ⟨ba, bc, bv1, _⟩ := H5.yard.body e heL
        show (entA e.j e.bv e.t0 e.t1).all (·.oneCell') = true
        rw [bv1]
        exact ent_one _ _ _ _ _ _
      have HEE : Hid (e ∈ L ∧ K ∈ ksOf e.j ∧ P[k]? = some e.j.mark ∧ C = (cells4 e.j.mark).toArray ∧ e.j.ok ∧ w.heap.size ≤ wr.heap.size) := ⟨heL, heK, hm, hC, hok, HL.out.kept.size⟩
      have HW5 : Hid (wr.alloc (.cells C 76) = w5 ∧ wr.heap.size = xb) := ⟨hw5.symm, hxb.symm⟩
      clear hC heL heK hm hok hsL H5 hd5 hr5 x5 hw5 hxb RG0 hf gB
      go_upto_region 6 with (first
        | (refine wpList_load_mid rfl 76 (.tmp 22) rfl gf (k * 4) rfl C.toList _ RG.out Try.underlying76 rfl (by rw [Array.length_toList]; exact HS.out.1) ?_; rw [Array.toArray_toList])
        | (refine wpList_store_new rfl 76 (.tmp 10) (.tmp 23) rfl C rfl rfl 76 _ HS.out.1 HS.out.2.1 HS.out.2.2 ?_; rw [HW5.out.1, HW5.out.2]; simp only [Act.put]))
      have sq : Below w5.heap.size w5 w5.drew := (Below.refl _ w5).drew
      refine wp_region_held_drew (S := fun X => Below w5.heap.size w5 X) (by kernel_rfl) sq (fun _ => ?_)
      refine H_take (i := 0) (v := ptrV yb) (some 24) rfl rfl (by kernel_rfl) (by kernel_rfl) (by kernel_rfl) (fun _ _ _ h => h) rfl (fun X hX => ?_) sq ?_
      · simp [go_sem]
      simp only [Act.put, List.setIfInBounds_toArray, List.set_cons_zero, List.set_cons_succ]
      refine H_take (i := 1) (v := ptrV yb) (some 25) rfl rfl (by kernel_rfl) (by kernel_rfl) (by kernel_rfl) (fun _ _ _ h => h) rfl (fun X hX => ?_) sq ?_
      · simp [go_sem]
      simp only [Act.put, List.setIfInBounds_toArray, List.set_cons_zero, List.set_cons_succ]
      refine H_take (i := 2) (v := .pointer (some ⟨yb, 0, none⟩)) (some 26) rfl rfl (by kernel_rfl) (by kernel_rfl) (by kernel_rfl) (fun _ _ _ h => h) rfl (fun X hX => ?_) sq ?_
      · simp [go_sem]
      simp only [Act.put, List.setIfInBounds_toArray, List.set_cons_zero, List.set_cons_succ]
      refine H_take (i := 3) (v := .map (some Y.jm)) (some 27) rfl rfl (by kernel_rfl) (by kernel_rfl) (by kernel_rfl) (fun _ _ _ h => h) rfl (fun X hX => ?_) sq ?_
      · exact run_load1 rfl rfl Try.isAgg54 ((hX.cell (p := ⟨yb, 0, none⟩) Y5.out.2).trans Y5.out.1)
      simp only [Act.put, List.setIfInBounds_toArray, List.set_cons_zero, List.set_cons_succ]
      refine H_take (i := 4) (v := .pointer (some ⟨xb, 0, none⟩)) (some 28) rfl rfl (by kernel_rfl) (by kernel_rfl) (by kernel_rfl) (fun _ _ _ h => h) rfl (fun X hX => ?_) sq ?_
      · simp [go_sem]
      simp only [Act.put, List.setIfInBounds_toArray, List.set_cons_zero, List.set_cons_succ]
      refine H_take (i := 5) (v := .int .i64 e.j.id) (some 29) rfl rfl (by kernel_rfl) (by kernel_rfl) (by kernel_rfl) (fun _ _ _ h => h) rfl (fun X hX => ?_) sq ?_
      · exact run_load1 rfl rfl Try.isAgg3 ((hX.cell (p := ⟨xb, 0, none⟩) X5.out.2).trans X5.out.1)
      simp only [Act.put, List.setIfInBounds_toArray, List.set_cons_zero, List.set_cons_succ]
      refine H_take (i := 6) (v := .agg e.cells) (some 30) rfl rfl (by kernel_rfl) (by kernel_rfl) (by kernel_rfl) (fun _ _ _ h => h) rfl (fun X hX => ?_) sq ?_
      · exact run_lookE rfl rfl rfl (LK5.out X hX)
      simp only [Act.put, List.setIfInBounds_toArray, List.set_cons_zero, List.set_cons_succ]
      refine H_value (i := 7) (v := ptrV w5.heap.size) (some 11) rfl rfl (by kernel_rfl) rfl (run_allocEN rfl) (sq.alloc (Nat.le_refl _) _) ?_
      simp only [Act.put, List.setIfInBounds_toArray, List.set_cons_zero, List.set_cons_succ]
      refine H_skip (i := 8) (w' := w5.drew.alloc (.cells e.cells 71)) rfl rfl (by kernel_rfl) rfl ((run_storeRow rfl w5.heap.size e.cells rfl rfl 71 en0.cells (heap_alloc_new w5.drew _) (ent_szE e) (ent_szE2 e) (E1.out)).trans (by rw [show w5.heap.size = w5.drew.heap.size from rfl, setRow_new])) (sq.alloc (Nat.le_refl _) _) ?_
      refine wpAnyH_done (by kernel_rfl) ?_ _
      obtain ⟨w6, hw6⟩ : ∃ w6, w6 = w5.drew.alloc (.cells e.cells 71) := ⟨_, rfl⟩
      obtain ⟨eb, heb⟩ : ∃ eb, eb = w5.heap.size := ⟨_, rfl⟩
      have b6 : Below w5.heap.size w5 w6 := by rw [hw6]; exact ((Below.refl _ w5).drew).alloc (Nat.le_refl _) _
      have E6 : Hid (w6.heap[eb]? = some (.cells e.cells 71 (0, 0)) ∧ eb = w5.heap.size) := by rw [hw6, heb]; exact ⟨heap_alloc_new w5.drew _, rfl⟩
      have X6 : Hid (w6.heap[xb]? = some (.cells C 76 (0, 0))) := (b6.block xb X5.out.2).trans XC.out
      have H6 : Hid (Ol w lab yb Y K g P (some ⟨gf, 0, none⟩) cf k k u8 L x w6 (upL w5 (upL wr labr))) := (HL.out.later B5.out).later b6
      obtain ⟨lab6, hl6⟩ : ∃ lab6, lab6 = upL w5 (upL wr labr) := ⟨_, rfl⟩
      rw [← hl6] at H6
      have xge : wr.heap.size ≤ xb := by rw [HW5.out.2]; exact Nat.le_refl _
      have LX : Hid (lab6 xb = uT ∧ lab6 eb = uT) := by
        rw [hl6]
        constructor
        · show (if xb < w5.heap.size then (if xb < wr.heap.size then _ else uT) else uT) = uT
          rw [if_pos X5.out.2, if_neg (by omega)]
        · show (if eb < w5.heap.size then _ else uT) = uT
          rw [if_neg (by omega)]
      have NE : Hid (w.heap.size ≤ eb ∧ u8.ownBlock ≠ some eb ∧ (Value.slice (some ⟨gf, 0, none⟩) P.length cf).ownBlock ≠ some eb ∧ eb ≠ xb) := by
        have s5 := B5.out.size
        have s0 := HEE.out.2.2.2.2.2
        have xl := X5.out.2
        refine ⟨by omega, fun h => ?_, fun h => ?_, by omega⟩
        · have := (World.ownsRow.lt HL.out.out eb h).2
          omega
        · have := (World.ownsRow.lt HL.out.fnd eb h).2
          omega
      have CPu : Hid (Calls Try.prog 48 #[ptrV g.hb, .agg C] w6 fun z w' => z = .returned (.int .i64 (x.last + 1)) ∧ ∃ x' lab', x'.hb = x.hb ∧ x'.last = x.last + 1 ∧ x'.R = (riseL (ltK 1) x.R.length (x.R ++ [(x.last + 1, e.j.mark)]) x.R.length 0).1 ∧ YAt w' lab' yb { Y with hp := updH Y.hp K (some x'), L := L } ∧ (∀ k, k < w6.heap.size → lab' k = lab6 k) ∧ Kept (Ours lab6) w6 w') := by
        have hpu := push_any H6.out.yard (Oq.few HH.out.2.1 HH.out.2.2.1 H6.out.q (M := M) (by have := hnM.out.1; omega)) (by have := HH.out.2.2.2.2.1; omega) (K := K) (g := x) (updH_at _ _ _) e.j.mark
        rw [H6.out.q.hb] at hpu
        rw [HEE.out.2.2.2.1]
        refine Calls.mono hpu ?_
        rintro z w' ⟨rfl, x', lab', h1, h2, h3, h4, h5, h6, h7⟩
        refine ⟨rfl, x', lab', h1.trans H6.out.q.hb.symm, h3, ?_, ?_, h6, h7⟩
        · rw [h4]
          unfold pushR
          rw [HH.out.2.2.2.1.rk]
        · have h5 : YAt w' lab' yb { Y with hp := updH (updH Y.hp K (some x)) K (some x'), L := L } := h5
          rw [updH_twice] at h5
          exact h5
      rw [← hw6, ← heb]
      clear hw6 heb b6 hl6 xge LK5 Y5 XC RG E1 HW5
      go_upto_region 8 with (first
        | (refine wpList_load_row rfl 76 (.tmp 10) rfl xb rfl 76 C (0, 0) _ X6.out Try.underlying76 rfl HS.out.1 ?_)
        | (go_at_call 48; refine CPu.out.mono ?_; rintro z w7 ⟨rfl, x', lab7, p1, p2, p3, p4, p5, p6⟩; have H7 : Hid (x'.hb = x.hb ∧ x'.last = x.last + 1 ∧ x'.R = (riseL (ltK 1) x.R.length (x.R ++ [(x.last + 1, e.j.mark)]) x.R.length 0).1 ∧ YAt w7 lab7 yb { Y with hp := updH Y.hp K (some x'), L := L } ∧ (∀ k, k < w6.heap.size → lab7 k = lab6 k) ∧ Kept (Ours lab6) w6 w7) := ⟨p1, p2, p3, p4, p5, p6⟩; have E7 : Hid (w7.heap[eb]? = some (.cells e.cells 71 (0, 0))) := (stay p6 (Array.getElem?_eq_some_iff.1 E6.out.1).1 LX.out.2).trans E6.out.1; obtain ⟨c17, f17⟩ := ent17 E7.out; clear p1 p2 p3 p4 p5 p6))
      obtain ⟨t, ht⟩ : ∃ t, t = x.last + 1 := ⟨_, rfl⟩
      obtain ⟨w8, hw8⟩ : ∃ w8, w8 = w7.setCell ⟨eb, 17, none⟩ (.int .i64 t) := ⟨_, rfl⟩
      have k8 : Kept (fun k => k = eb) w7 w8 := by rw [hw8]; exact Kept.setCell _ _ _ _ _ rfl
      have E8 : Hid (w8.drew.heap[eb]? = some (.cells (e.re t).cells 71 (0, 0))) := by
        rw [hw8, ← re_cells e t]
        exact (set_cells E7.out 17 (.int .i64 t)).1
      have ebl : labelled lab7 eb := (H7.out.2.2.2.2.1 eb (Array.getElem?_eq_some_iff.1 E6.out.1).1).trans LX.out.2
      have a8 : YAt w8 lab7 yb { Y with hp := updH Y.hp K (some x'), L := L } := H7.out.2.2.2.1.kept k8 (fun q _ e2 => by rw [show q = eb from e2, show lab7 eb = uT from ebl]; decide) (fun _ _ => rfl)
      have x8 : w8.heap[xb]? = some (.cells C 76 (0, 0)) := (k8.block xb (Nat.lt_of_lt_of_le (Array.getElem?_eq_some_iff.1 X6.out).1 H7.out.2.2.2.2.2.size) (fun e2 => NE.out.2.2.2 (show xb = eb from e2).symm)).trans ((stay H7.out.2.2.2.2.2 (Array.getElem?_eq_some_iff.1 X6.out).1 LX.out.1).trans X6.out)
      have x80 : w8.cell? ⟨xb, 0, none⟩ = some (.int .i64 e.j.id) := by
        simp [World.cell?, x8, HEE.out.2.2.2.1, cells4]
        rfl
      have xl8 : xb < w8.heap.size := (Array.getElem?_eq_some_iff.1 x8).1
      have el8 : eb < w8.heap.size := (Array.getElem?_eq_some_iff.1 (show w8.heap[eb]? = _ from E8.out)).1
      have yl8 := a8.yb_lt
      obtain ⟨d8, r8, hd8, hr8⟩ := a8.two
      have y80 : w8.cell? ⟨yb, 0, none⟩ = some (.map (some Y.jm)) := (a8.cells hd8 hr8).1
      have TJ : Hid (VTabI w8.drew Y.jm L.length (fun i => (lookE L i).map En.val)) := a8.jobs.later (Below.refl _ w8).drew
      have A8 : Hid (YAt w8 lab7 yb { Y with hp := updH Y.hp K (some x'), L := L }) := a8
      have HT : Hid (t = x.last + 1) := ht
      have K78 : Hid (Kept (fun k => Ours lab6 k ∨ k = eb) w6 w8 ∧ w8.heap[xb]? = some (.cells C 76 (0, 0))) := ⟨(H7.out.2.2.2.2.2.mono (fun k _ h => .inl h)).step k8 (fun k _ h => .inr h), x8⟩
      have hid : (Lit.int .i64 e.j.id).wf = true := HEE.out.2.2.2.2.1.1
      have hLl : L.length ≤ 100000000 := by have := sk_len HL.out.q.sk; have := HH.out.2.2.2.2.2.1; have := HH.out.2.2.2.2.1; omega
      rw [← ht, ← hw8]
      clear ht hw8 k8 ebl a8 x8 hd8 hr8 c17 f17
      refine wp_tail 7 mixed (by kernel_rfl) ?_
      simp only [List.take_succ_cons, List.take_zero, List.drop_succ_cons, List.drop_zero]
      repeat (first | (refine still_value (v := .agg (e.re t).cells) rfl (run_loadRow (ty := 71) (x := .tmp 11) rfl rfl E8.out Try.underlying71 rfl (ent_szE _)) ?_; simp only [Act.put, List.setIfInBounds_toArray, List.set_cons_zero, List.set_cons_succ]) | still_step)
      refine wpStill_nil ?_
      go_upto_region 9 with (first
        | (refine wpList_vputI rfl (.tmp 39) (.tmp 41) (.tmp 42) 54 71 Try.underlying54 rfl Y.jm L.length (fun i => (lookE L i).map En.val) e.j.id (.agg (e.re t).cells) rfl rfl rfl TJ.out (by unfold maxLen; omega) hid ?_; intro w9 v9 g9; have H9 : Hid (VTabI w9 Y.jm (if ((lookE L e.j.id).map En.val).isSome then L.length else L.length + 1) (putVI (fun i => (lookE L i).map En.val) e.j.id (.agg (e.re t).cells)) ∧ w8.drew.grownBy w9 (some Y.jm)) := ⟨v9, g9⟩; clear v9 g9))
      have hsL : L.Pairwise (fun a b => a.j.id < b.j.id) := sk_rise HL.out.q.sk HH.out.2.1.inv.rise
      have A9 : YAt w9 lab7 yb { Y with hp := updH Y.hp K (some x'), L := setE L e.j.id t } ∧ Kept (Ours lab7) w8.drew w9 := by
        refine (A8.out.below (Below.refl _ w8).drew (fun _ _ => rfl)).jobsTurned _ ?_ H9.out.2 (fun y hy => ?_)
        · have h9 := H9.out.1
          rw [show ((lookE L e.j.id).map En.val).isSome = true by rw [lookE_at hsL HEE.out.1]; rfl, if_pos rfl] at h9
          refine h9.congr (sk_len (setE_sk _ _ _)) (fun i => ?_)
          rw [lookE_setE]
          unfold putVI
          by_cases hi : i = e.j.id
          · rw [if_pos hi, if_pos hi, hi, lookE_at hsL HEE.out.1]
            rfl
          · rw [if_neg hi, if_neg hi]
        · rcases (mem_setE (id_uniq hsL) HEE.out.1 t y).1 hy with ⟨h, _⟩ | rfl
          · exact .inl h
          · have h8 := (A8.out.body e HEE.out.1).kept (P := fun _ => False) (Kept.ofBelow (Below.refl _ w8).drew) (fun _ _ _ h => h) (fun _ _ => rfl)
            exact .inr h8
      have O9 : Hid (Ol w lab yb Y K g P (some ⟨gf, 0, none⟩) cf (k + 1) k u8 (setE L e.j.id t) x' w9 lab7) := by
        refine H6.out.turn2 (b := eb) A9.1 ?_ H7.out.2.2.2.2.1 ?_ NE.out.1 NE.out.2.1 NE.out.2.2.1
        · rw [HT.out]
          exact HL.out.q.push HH.out.2.1.inv.rise HPR.out HEE.out.1 HEE.out.2.1 HEE.out.2.2.1 H7.out.1 H7.out.2.1 H7.out.2.2.1
        · refine (K78.out.1.trans (Kept.ofBelow (Below.refl _ w8).drew)).step A9.2 (fun q hq e2 => .inl ?_)
          have e2 : (lab7 q).1 ≤ 7 := e2
          rw [H7.out.2.2.2.2.1 q hq] at e2
          exact e2
      have x9 : w9.heap[xb]? = some (.cells C 76 (0, 0)) := (stay A9.2 xl8 ((H7.out.2.2.2.2.1 xb (Array.getElem?_eq_some_iff.1 X6.out).1).trans LX.out.1)).trans K78.out.2
      have x90 : w9.cell? ⟨xb, 0, none⟩ = some (.int .i64 e.j.id) := by
        simp [World.cell?, x9, HEE.out.2.2.2.1, cells4]
        rfl
      have xl9 : xb < w9.heap.size := (Array.getElem?_eq_some_iff.1 x9).1
      have hkP : (P.take k).length = k := by rw [List.length_take]; have := hnM.out.2; omega
      have OU : Hid (w9.ownsRow w.heap.size 3 1 u8 k (ints ((P.take k).map (·.id)))) := by
        have := O9.out.out
        have e1 : ((P.take k).map (·.id)).length = k := by rw [List.length_map, hkP]
        unfold Nums at this
        rw [e1] at this
        exact this
      have wl9 : Hid (w.heap.size ≤ w9.heap.size) := O9.out.kept.size
      clear hsL A9 x9 hkP y80 x80 TJ H9
      go_upto_region 10 with (first
        | (refine wpList_made rfl (run_buildI (n := e.j.id) rfl rfl) ?_)
        | (at_builtin; refine wpList_appendG rfl (.tmp 43) (.tmp 46) 32 3 1 i1 _ Try.underlying32 hi1 hz0 hz1 rfl (by rw [hz2]; omega) rfl w.heap.size u8 k (ints ((P.take k).map (·.id))) [.int .i64 e.j.id] rfl w9.heap.size rfl rfl (by simp [Value.oneCell']) (row_below OU.out ((Below.refl _ w9).alloc (Nat.le_refl _) _)) (heap_alloc_new w9 _) (by omega) (by have := wl9.out; simp; omega) ?_; intro v10 w10 o10 g10 l10))
      have st := O9.out.told HEE.out.2.2.1 ((Below.refl _ w9).alloc (Nat.le_refl _) (.cells #[.int .i64 e.j.id] 3)) (w9 := w10) (v9 := v10) (by
        show w10.ownsRow w.heap.size 3 1 v10 _ (ints ((P.take k).map (·.id) ++ [e.j.id]))
        rw [ints_append, List.length_append, List.length_map, List.length_take, show min k P.length = k by have := hnM.out.2; omega]
        exact o10) g10 l10
      have ST : Hid (Ol w lab yb Y K g P (some ⟨gf, 0, none⟩) cf (k + 1) (k + 1) v10 (setE L e.j.id t) x' w10 (upL w9 lab7)) := st
      clear st o10 g10 l10
      go_wp2_with fail
      exact ⟨⟨k + 1, _, _, _, by go_num, by omega, ST⟩, by simp [intOf]; omega⟩
    · have hltI : ¬ (k : Int) < (n : Int) := by omega
      obtain rfl : k = n := by omega
      have Q := HL.out
      go_wp2_with fail
      go_ret
      have hq := Q.q
      have hou := Q.out
      rw [List.take_of_length_le (by have := hnM.out.2; omega)] at hou
      rw [hnM.out.2] at hq
      have R : OvRes w lab yb Y N M st now u8 wr := by
        unfold OvRes
        refine ⟨P.map (·.id), labr, _, hou, OV.out, fun q hq => (Q.ol q hq).1, Q.yard, Oq.done HH.out.2.1 HH.out.2.2.2.1 HH.out.2.2.1 hq (by have := hnM.out.1; have := hnM.out.2; omega), Q.q.sk, Q.labs, Q.kept, fun J => ?_⟩
        show (updH Y.hp K (some x) J).map (·.hb) = _
        by_cases e : J = K
        · rw [e, updH_at, HH.out.2.2.1]
          exact congrArg some Q.q.hb
        · rw [updH_ne _ _ e]
      exact ⟨_, rfl, R⟩
end Go.Proofs.Ytonfdmbcbfpgdaa

namespace Go.Proofs.Ytonfdmbcbfpgdaa
open Go.RowKit
theorem ovs_sk {L L' : List En} (h : L'.map skE = L.map skE) {st now : Int} {ids : List Int} (ho : Ovs L' st now ids) : Ovs L st now ids := by
  obtain ⟨E, h1, h2, h3⟩ := ho
  refine ⟨E, h1, fun j => ?_, h3⟩
  rw [h2 j]
  constructor
  · rintro ⟨⟨e, he, rfl⟩, h5⟩
    obtain ⟨e', he', hs⟩ := sk_mem h he
    exact ⟨⟨e', he', (sk_j hs).1⟩, h5⟩
  · rintro ⟨⟨e, he, rfl⟩, h5⟩
    obtain ⟨e', he', hs⟩ := sk_mem h.symm he
    exact ⟨⟨e', he', (sk_j hs).1⟩, h5⟩
/-- What Over leaves. -/
def OverRes (w : World) (lab : Nat → HK) (yb : Nat) (Y : Yd) (N M : Nat) (now : Int) (va vb : Value) (w' : World) : Prop :=
  ∃ A B lab' Y', Nums w' w.heap.size va A ∧ Nums w' w.heap.size vb B ∧ Ovs Y.L 2 now A ∧ Ovs Y.L 3 now B ∧ (∀ q, va.ownBlock = some q → lab' q = uT) ∧ (∀ q, vb.ownBlock = some q → lab' q = uT) ∧ YAt w' lab' yb Y' ∧ Iv Y' (N + M + M) ∧ Y'.L.map skE = Y.L.map skE ∧ (∀ k, k < w.heap.size → lab' k = lab k) ∧ Kept (Ours lab) w w' ∧ (∀ J, (Y'.hp J).map (·.hb) = (Y.hp J).map (·.hb))
theorem second {w : World} {lab : Nat → HK} {yb : Nat} {Y : Yd} {N M : Nat} {now : Int} {va : Value} {w1 : World} {d r : HM} (hd : Y.hp hkD = some d) (hr : Y.hp hkR = some r) (hN : N + M + M ≤ 100000000) (hM : Y.L.length ≤ M) (R1 : OvRes w.drew lab yb Y N M 2 now va w1) :
    (Calls Try.prog 24 #[ptrV yb, ptrV r.hb, .int .i64 now] w1 fun x w' => ∃ vb, x = .returned vb ∧ OverRes w lab yb Y N M now va vb w' ∧ w'.cell? ⟨yb, 3, none⟩ = some (ptrV d.hb) ∧ w'.cell? ⟨yb, 4, none⟩ = some (ptrV r.hb)) ∧ w1.cell? ⟨yb, 3, none⟩ = some (ptrV d.hb) ∧ w1.cell? ⟨yb, 4, none⟩ = some (ptrV r.hb) := by
  obtain ⟨A, lab1, Y1, n1, o1, u1, a1, i1, s1, l1, k1, b1⟩ := R1
  have cells : ∀ {W : World} {lb : Nat → HK} {Z : Yd}, YAt W lb yb Z → (∀ J, (Z.hp J).map (·.hb) = (Y.hp J).map (·.hb)) → W.cell? ⟨yb, 3, none⟩ = some (ptrV d.hb) ∧ W.cell? ⟨yb, 4, none⟩ = some (ptrV r.hb) := fun {W lb Z} a hb => by
    obtain ⟨d', r', hd', hr'⟩ := a.two
    have c := a.cells hd' hr'
    have e1 := hb hkD
    have e2 := hb hkR
    rw [hd, hd'] at e1
    rw [hr, hr'] at e2
    have e1 : d'.hb = d.hb := Option.some.inj e1
    have e2 : r'.hb = r.hb := Option.some.inj e2
    rw [← e1, ← e2]
    exact ⟨c.2.2.2.1, c.2.2.2.2⟩
  refine ⟨?_, cells a1 b1⟩
  obtain ⟨r1, hr1, er⟩ : ∃ r1, Y1.hp hkR = some r1 ∧ r1.hb = r.hb := by
    have e := b1 hkR
    rw [hr] at e
    cases hx : Y1.hp hkR with
    | none => rw [hx] at e; cases e
    | some r1 => rw [hx] at e; exact ⟨r1, rfl, Option.some.inj e⟩
  rw [← er]
  refine (over_any hkR 3 (.inr ⟨rfl, rfl⟩) now w1 lab1 yb Y1 (N + M) M a1 i1 r1 hr1 hN (by rw [sk_len s1]; exact hM)).mono ?_
  rintro x w' ⟨vb, rfl, B, lab2, Y2, n2, o2, u2, a2, i2, s2, l2, k2, b2⟩
  have bb : ∀ J, (Y2.hp J).map (·.hb) = (Y.hp J).map (·.hb) := fun J => (b2 J).trans (b1 J)
  have c2 := cells a2 bb
  rw [er]
  refine ⟨vb, rfl, ⟨A, B, lab2, Y2, ?_, row_wide n2 k1.size, o1, ovs_sk s1 o2, fun q hq => ?_, u2, a2, i2, s2.trans s1, fun k hk => ?_, ?_, bb⟩, c2⟩
  · exact row_stay n1 (fun q hq => stay k2 (World.ownsRow.lt n1 q hq).2 (u1 q hq))
  · exact (l2 q (World.ownsRow.lt n1 q hq).2).trans (u1 q hq)
  · exact (l2 k (Nat.lt_of_lt_of_le hk k1.size)).trans (l1 k hk)
  · refine Kept.step (show Kept (Ours lab) w w1 from (Kept.ofBelow (Below.refl _ w).drew).trans k1) k2 (fun k hk e2 => ?_)
    have e2 : (lab1 k).1 ≤ 7 := e2
    rw [l1 k hk] at e2
    exact e2
set_option maxHeartbeats 4000000 in
set_option maxRecDepth 1000000 in
theorem Over_any (now : Int) (w : World) (lab : Nat → HK) (yb : Nat) (Y : Yd) (N M : Nat) (h : YAt w lab yb Y) (iv : Iv Y N) (hN : N + M + M ≤ 100000000) (hM : Y.L.length ≤ M) :
    Calls Try.prog 10 #[ptrV yb, .int .i64 now] w fun x w' => ∃ va vb, x = .returned (.tuple #[va, vb]) ∧ OverRes w lab yb Y N M now va vb w' := by
  obtain ⟨d, r, hd, hr⟩ := h.two
  have c := h.cells hd hr
  have ylt := h.yb_lt
  have HC : Hid (w.cell? ⟨yb, 3, none⟩ = some (ptrV d.hb) ∧ w.cell? ⟨yb, 4, none⟩ = some (ptrV r.hb)) := ⟨c.2.2.2.1, c.2.2.2.2⟩
  have HH : Hid (YAt w lab yb Y ∧ Iv Y N ∧ Y.hp hkD = some d ∧ Y.hp hkR = some r ∧ N + M + M ≤ 100000000 ∧ Y.L.length ≤ M) := ⟨h, iv, hd, hr, hN, hM⟩
  have CA : Hid (Calls Try.prog 24 #[ptrV yb, ptrV d.hb, .int .i64 now] w.drew fun x w' => ∃ v, x = .returned v ∧ OvRes w.drew lab yb Y N M 2 now v w') := over_any hkD 2 (.inl ⟨rfl, rfl⟩) now w.drew lab yb Y N M (h.below (Below.refl _ w).drew (fun _ _ => rfl)) iv d hd (by omega) hM
  clear h iv hN hM hd hr c
  go_enter Try.func10, Try.ntmps10
  go_upto_region 1 with fail
  have sq : w.drew.cell? ⟨yb, 3, none⟩ = some (ptrV d.hb) ∧ w.drew.cell? ⟨yb, 4, none⟩ = some (ptrV r.hb) := HC.out
  refine wp_region_held_drew (S := fun X => X.cell? ⟨yb, 3, none⟩ = some (ptrV d.hb) ∧ X.cell? ⟨yb, 4, none⟩ = some (ptrV r.hb)) (by kernel_rfl) sq (fun _ => ?_)
  refine H_take (i := 0) (v := ptrV yb) (some 6) rfl rfl (by kernel_rfl) (by kernel_rfl) (by kernel_rfl) (fun _ _ _ h => h) rfl (fun X hX => ?_) sq ?_
  · simp [go_sem]
  simp only [Act.put, List.setIfInBounds_toArray, List.set_cons_zero, List.set_cons_succ]
  refine H_take (i := 1) (v := ptrV yb) (some 7) rfl rfl (by kernel_rfl) (by kernel_rfl) (by kernel_rfl) (fun _ _ _ h => h) rfl (fun X hX => ?_) sq ?_
  · simp [go_sem]
  simp only [Act.put, List.setIfInBounds_toArray, List.set_cons_zero, List.set_cons_succ]
  refine H_take (i := 2) (v := ptrV yb) (some 8) rfl rfl (by kernel_rfl) (by kernel_rfl) (by kernel_rfl) (fun _ _ _ h => h) rfl (fun X hX => ?_) sq ?_
  · simp [go_sem]
  simp only [Act.put, List.setIfInBounds_toArray, List.set_cons_zero, List.set_cons_succ]
  refine H_take (i := 3) (v := .pointer (some ⟨yb, 3, none⟩)) (some 9) rfl rfl (by kernel_rfl) (by kernel_rfl) (by kernel_rfl) (fun _ _ _ h => h) rfl (fun X hX => ?_) sq ?_
  · simp [go_sem]
  simp only [Act.put, List.setIfInBounds_toArray, List.set_cons_zero, List.set_cons_succ]
  refine H_take (i := 4) (v := ptrV d.hb) (some 10) rfl rfl (by kernel_rfl) (by kernel_rfl) (by kernel_rfl) (fun _ _ _ h => h) rfl (fun X hX => ?_) sq ?_
  · exact run_load1 rfl rfl Try.isAgg57 hX.1
  simp only [Act.put, List.setIfInBounds_toArray, List.set_cons_zero, List.set_cons_succ]
  refine H_take (i := 5) (v := .int .i64 now) (some 11) rfl rfl (by kernel_rfl) (by kernel_rfl) (by kernel_rfl) (fun _ _ _ h => h) rfl (fun X hX => ?_) sq ?_
  · simp [go_sem]
  simp only [Act.put, List.setIfInBounds_toArray, List.set_cons_zero, List.set_cons_succ]
  refine H_take (i := 7) (v := ptrV yb) (some 13) rfl rfl (by kernel_rfl) (by kernel_rfl) (by kernel_rfl) (fun _ _ _ h => h) rfl (fun X hX => ?_) sq ?_
  · simp [go_sem]
  simp only [Act.put, List.setIfInBounds_toArray, List.set_cons_zero, List.set_cons_succ]
  refine H_take (i := 8) (v := ptrV yb) (some 14) rfl rfl (by kernel_rfl) (by kernel_rfl) (by kernel_rfl) (fun _ _ _ h => h) rfl (fun X hX => ?_) sq ?_
  · simp [go_sem]
  simp only [Act.put, List.setIfInBounds_toArray, List.set_cons_zero, List.set_cons_succ]
  refine H_take (i := 9) (v := ptrV yb) (some 15) rfl rfl (by kernel_rfl) (by kernel_rfl) (by kernel_rfl) (fun _ _ _ h => h) rfl (fun X hX => ?_) sq ?_
  · simp [go_sem]
  simp only [Act.put, List.setIfInBounds_toArray, List.set_cons_zero, List.set_cons_succ]
  refine H_take (i := 10) (v := .pointer (some ⟨yb, 4, none⟩)) (some 16) rfl rfl (by kernel_rfl) (by kernel_rfl) (by kernel_rfl) (fun _ _ _ h => h) rfl (fun X hX => ?_) sq ?_
  · simp [go_sem]
  simp only [Act.put, List.setIfInBounds_toArray, List.set_cons_zero, List.set_cons_succ]
  refine H_take (i := 11) (v := ptrV r.hb) (some 17) rfl rfl (by kernel_rfl) (by kernel_rfl) (by kernel_rfl) (fun _ _ _ h => h) rfl (fun X hX => ?_) sq ?_
  · exact run_load1 rfl rfl Try.isAgg57 hX.2
  simp only [Act.put, List.setIfInBounds_toArray, List.set_cons_zero, List.set_cons_succ]
  refine H_take (i := 12) (v := .int .i64 now) (some 18) rfl rfl (by kernel_rfl) (by kernel_rfl) (by kernel_rfl) (fun _ _ _ h => h) rfl (fun X hX => ?_) sq ?_
  · simp [go_sem]
  simp only [Act.put, List.setIfInBounds_toArray, List.set_cons_zero, List.set_cons_succ]
  refine H_call (i := 6) (f := 24) (args := #[ptrV yb, ptrV d.hb, .int .i64 now]) (some 12) rfl rfl (by kernel_rfl) rfl (by simp [go_sem]) (CA.out.mono ?_)
  rintro x1 w1 ⟨va, rfl, R1⟩
  have HR1 : Hid (OvRes w.drew lab yb Y N M 2 now va w1) := R1
  obtain ⟨CB, sq⟩ := second HH.out.2.2.1 HH.out.2.2.2.1 HH.out.2.2.2.2.1 HH.out.2.2.2.2.2 R1
  refine ⟨_, rfl, sq, ?_⟩
  simp only [Act.put, List.setIfInBounds_toArray, List.set_cons_zero, List.set_cons_succ]
  refine H_call (i := 13) (f := 24) (args := #[ptrV yb, ptrV r.hb, .int .i64 now]) (some 19) rfl rfl (by kernel_rfl) rfl (by simp [go_sem]) (CB.mono ?_)
  rintro x2 w2 ⟨vb, rfl, R2, sq⟩
  have HR2 : Hid (OverRes w lab yb Y N M now va vb w2) := R2
  refine ⟨_, rfl, sq, ?_⟩
  simp only [Act.put, List.setIfInBounds_toArray, List.set_cons_zero, List.set_cons_succ]
  refine H_take (i := 14) (v := va) (some 4) rfl rfl (by kernel_rfl) (by kernel_rfl) (by kernel_rfl) (fun _ _ _ h => h) rfl (fun X hX => ?_) sq ?_
  · simp [go_sem]
  simp only [Act.put, List.setIfInBounds_toArray, List.set_cons_zero, List.set_cons_succ]
  refine H_take (i := 15) (v := vb) (some 5) rfl rfl (by kernel_rfl) (by kernel_rfl) (by kernel_rfl) (fun _ _ _ h => h) rfl (fun X hX => ?_) sq ?_
  · simp [go_sem]
  simp only [Act.put, List.setIfInBounds_toArray, List.set_cons_zero, List.set_cons_succ]
  refine wpAnyH_done (by kernel_rfl) ?_ _
  clear sq CB R2 R1
  go_wp2_with fail
  refine bodyPost_ret (results_tmp2 Try.results10 _ _ _) rfl ?_
  exact ⟨va, vb, rfl, HR2.out⟩
end Go.Proofs.Ytonfdmbcbfpgdaa
