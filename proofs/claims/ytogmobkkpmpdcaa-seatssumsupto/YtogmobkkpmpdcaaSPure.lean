/-
  What SeatsSums counts.
-/
import Derived.Test.YtogmobkkpmpdcaaSDoes
namespace Go.Proofs.Ytogmobkkpmpdcaa
open Go.RowKit
theorem cntB_perm (S : Sx) (p : Cn → Bool) {a b : List Int} (h : a.Perm b) : cntB S p a = cntB S p b := (h.filter _).length_eq
theorem cntB_mono (S : Sx) (p q : Cn → Bool) (h : ∀ x, p x = true → q x = true) (l : List Int) : cntB S p l ≤ cntB S q l := by
  unfold cntB
  induction l with
  | nil => exact Nat.le_refl _
  | cons i r ih =>
    rw [List.filter_cons, List.filter_cons]
    cases hF : S.F i with
    | none => simpa using ih
    | some x =>
      cases hp : p x with
      | false => cases hq : q x <;> simp [hp, hq] <;> omega
      | true => simp [hp, h x hp]; omega
theorem cntB_pos {S : Sx} {p : Cn → Bool} {l : List Int} : 0 < cntB S p l ↔ ∃ i ∈ l, ∃ x, S.F i = some x ∧ p x = true := by
  unfold cntB
  rw [List.length_pos_iff_exists_mem]
  constructor
  · rintro ⟨i, hi⟩
    obtain ⟨h1, h2⟩ := List.mem_filter.1 hi
    cases hF : S.F i with
    | none => rw [hF] at h2; cases h2
    | some x => rw [hF] at h2; exact ⟨i, h1, x, hF, h2⟩
  · rintro ⟨i, hi, x, hx, hp⟩
    exact ⟨i, List.mem_filter.2 ⟨hi, by rw [hx]; exact hp⟩⟩
def hitN (S : Sx) (p : Text → Cn → Bool) (ts : List Text) (i : Int) : Nat := match S.F i with | some x => (ts.filter (fun t => p t x)).length | none => 0
theorem sum_add {α : Type} (f g : α → Nat) (l : List α) : (l.map (fun t => f t + g t)).sum = (l.map f).sum + (l.map g).sum := by
  induction l with
  | nil => rfl
  | cons a r ih => simp only [List.map_cons, List.sum_cons] at ih ⊢; omega
theorem sum_ite {α : Type} (b : α → Bool) (l : List α) : (l.map (fun t => if b t then 1 else 0)).sum = (l.filter b).length := by
  induction l with
  | nil => rfl
  | cons a r ih =>
    simp only [List.map_cons, List.sum_cons, List.filter_cons] at ih ⊢
    cases b a <;> simp <;> omega
/-- Each pair is counted once, by tubes or by connections. -/
theorem twice (S : Sx) (p : Text → Cn → Bool) (ts : List Text) (P : List Int) : (ts.map (fun t => cntB S (p t) P)).sum = (P.map (hitN S p ts)).sum := by
  induction P with
  | nil =>
    unfold cntB
    simp only [List.filter_nil, List.length_nil, List.map_nil, List.sum_nil]
    induction ts with
    | nil => rfl
    | cons a r ih => simpa using ih
  | cons i P ih =>
    have e : ∀ t, cntB S (p t) (i :: P) = (if (S.F i).any (p t) then 1 else 0) + cntB S (p t) P := fun t => by
      unfold cntB
      rw [List.filter_cons]
      cases (S.F i).any (p t) <;> simp <;> omega
    rw [show (fun t => cntB S (p t) (i :: P)) = fun t => (if (S.F i).any (p t) then 1 else 0) + cntB S (p t) P from funext e, sum_add, ih, sum_ite, List.map_cons, List.sum_cons]
    congr 1
    unfold hitN
    cases hF : S.F i with
    | none =>
      rw [List.filter_eq_nil_iff.2 (fun t _ h => by cases h)]
      rfl
    | some x => rfl
/-- How many tubes a connection watches. -/
def nOf (S : Sx) (i : Int) : Nat := match S.F i with | some x => x.n | none => 0
theorem filter_one {ts : List Text} (hn : ts.Nodup) {a : Text} (ha : a ∈ ts) : (ts.filter (fun t => a == t)).length = 1 := by
  have hp : (ts.filter (fun t => a == t)).Perm [a] := (List.perm_ext_iff_of_nodup (hn.filter _) (by simp)).2 (fun t => by
    rw [List.mem_filter, List.mem_singleton]
    constructor
    · rintro ⟨_, h⟩
      exact (by simpa using h : a = t).symm
    · rintro rfl
      exact ⟨ha, by simp⟩)
  rw [hp.length_eq]
  rfl
/-- The names of a list, each once. -/
theorem Listed.nodup {g : Text → Option Int} {T : List RowT} (h : Listed g T) : (T.map Prod.fst).Nodup := List.pairwise_map.2 (h.up.imp (fun hl e => by rw [e, less_irrefl] at hl; cases hl))
theorem Listed.names {g : Text → Option Int} {T : List RowT} (h : Listed g T) (t : Text) : t ∈ T.map Prod.fst ↔ (g t).isSome = true := by
  constructor
  · intro hm
    obtain ⟨⟨t', v⟩, hr, rfl⟩ := List.mem_map.1 hm
    rw [(h.mem t' v).1 hr]; rfl
  · intro hs
    obtain ⟨v, hv⟩ := Option.isSome_iff_exists.1 hs
    exact List.mem_map.2 ⟨(t, v), (h.mem t v).2 hv, rfl⟩
theorem some_held {w : World} {b mb n : Nat} {g : Text → Option Int} (h : BookAt w b mb n g) (t : Text) : (g t).isSome = true ↔ 0 < held g t := by
  unfold held
  cases hg : g t with
  | none => simp
  | some v => have := h.pos t v hg; simp; omega
/-- The tubes that the connections tell. -/
structure Tb (S : Sx) (ts : List Text) : Prop where
  nod : ts.Nodup
  mem : ∀ t, t ∈ ts ↔ ∃ i ∈ numsL S, ∃ x, S.F i = some x ∧ (x.us.data.toList = t ∨ (x.g t).isSome = true)
theorem Tb.of {B : Nat} {W : World} {sb : Nat} {S : Sx} {N : Nat} (h : Gd B W sb S N) {g : Text → Option Int} {T : List RowT} {ss : List Int} (hT : Listed g T) (hc : Cov S ss g) (hs : ∀ i, i ∈ ss ↔ (S.F i).isSome = true) : Tb S (T.map Prod.fst) := by
  obtain ⟨lab, hsa⟩ := h.seat
  refine ⟨hT.nodup, fun t => ?_⟩
  rw [hT.names t, hc t]
  constructor
  · rintro ⟨i, hi, r⟩
    exact ⟨i, (numsL_mem hsa i).2 ((hs i).1 hi), r⟩
  · rintro ⟨i, hi, r⟩
    exact ⟨i, (hs i).2 ((numsL_mem hsa i).1 hi), r⟩
def usesP (t : Text) (x : Cn) : Bool := x.us.data.toList == t
def seesP (t : Text) (x : Cn) : Bool := decide (0 < held x.g t)
theorem sum_uses {B : Nat} {W : World} {sb : Nat} {S : Sx} {N : Nat} (h : Gd B W sb S N) {ts : List Text} (hT : Tb S ts) : (ts.map (fun t => cntB S (usesP t) (numsL S))).sum = (numsL S).length := by
  obtain ⟨lab, hsa⟩ := h.seat
  rw [twice]
  have e : ∀ i ∈ numsL S, hitN S usesP ts i = 1 := fun i hi => by
    obtain ⟨x, hx⟩ := Option.isSome_iff_exists.1 ((numsL_mem hsa i).1 hi)
    unfold hitN
    rw [hx]
    exact filter_one hT.nod ((hT.mem _).2 ⟨i, hi, x, hx, .inl rfl⟩)
  rw [List.map_congr_left e]
  clear e
  induction numsL S with
  | nil => rfl
  | cons a r ih => simp only [List.map_cons, List.sum_cons, List.length_cons] at ih ⊢; omega
theorem sum_sees {B : Nat} {W : World} {sb : Nat} {S : Sx} {N : Nat} (h : Gd B W sb S N) {ts : List Text} (hT : Tb S ts) : (ts.map (fun t => cntB S (seesP t) (numsL S))).sum = ((numsL S).map (nOf S)).sum := by
  obtain ⟨lab, hsa⟩ := h.seat
  rw [twice]
  refine congrArg List.sum (List.map_congr_left fun i hi => ?_)
  obtain ⟨x, hx⟩ := Option.isSome_iff_exists.1 ((numsL_mem hsa i).1 hi)
  have hb := (hsa.each i x hx).book
  obtain ⟨L, hL, hLn, _⟩ := hb.listed
  unfold hitN nOf
  rw [hx]
  show (ts.filter (fun t => seesP t x)).length = x.n
  have hp : (ts.filter (fun t => seesP t x)).Perm (L.map Prod.fst) := (List.perm_ext_iff_of_nodup (hT.nod.filter _) hL.nodup).2 (fun t => by
    rw [List.mem_filter, hL.names t]
    constructor
    · rintro ⟨_, h2⟩
      exact (some_held hb t).2 (by simpa [seesP] using h2)
    · intro h2
      exact ⟨(hT.mem t).2 ⟨i, hi, x, hx, .inr h2⟩, by simpa [seesP] using (some_held hb t).1 h2⟩)
  rw [hp.length_eq, List.length_map, hLn]
open Go.Maps Go.Sort Go.Shelf in
theorem nn_64 {B : Nat} {W : World} {lab : Nat → Int} {sb : Nat} {S : Sx} (hs : SAt B W lab sb S) : S.nn ≤ 64 := by
  obtain ⟨D, h1, h2, h3⟩ := hs.tab.keys (numsL S) (numsL_up S) (fun t => by rw [numsL_mem hs t, Option.isSome_map])
  have h4 := congrArg List.length (h3 _ (List.Perm.refl _))
  rw [List.length_mergeSort] at h4
  obtain ⟨es, hD, _, _⟩ := h1.entries keyedI
  have h5 : (intKeys D).length = Maps.size D := by
    rw [hD]
    simp [intKeys, Maps.size_eq]
  have := numsL_len S
  omega
/-- Using, Watching, Waiting, by the connections that are there. -/
theorem Gd.count {B : Nat} {W : World} {sb : Nat} {S : Sx} {N : Nat} (h : Gd B W sb S N) (p : Cn → Bool) {ss : List Int} (h1 : ss.Nodup) (h2 : ∀ i, i ∈ ss ↔ (S.F i).isSome = true) : cntB S p ss = cntB S p (numsL S) := by
  obtain ⟨lab, hs⟩ := h.seat
  exact cntB_perm S p ((List.perm_ext_iff_of_nodup h1 ((numsL_up S).imp (fun h => by omega))).2 (fun i => by rw [h2 i, numsL_mem hs i]))
theorem gUsing {B : Nat} {W : World} {sb : Nat} {S : Sx} {N : Nat} (h : Gd B W sb S N) (t : Text) (ht : t.length ≤ maxLen) :
    Calls Try.prog 12 #[ptrV sb, .string ⟨t.toArray⟩] W fun e w' => e = .returned (.int .i64 (cntB S (usesP t) (numsL S) : Nat)) ∧ Below W.heap.size W w' := by
  obtain ⟨lab, hs⟩ := h.seat
  refine (usesing_any ⟨t.toArray⟩ B W lab sb S hs (show (⟨t.toArray⟩ : ByteArray).size ≤ maxLen from ht) (by have := nn_64 hs; omega)).mono ?_
  rintro e w' ⟨ss, rfl, ⟨h1, h2⟩, h3⟩
  exact ⟨by rw [h.count _ h1 h2]; rfl, h3⟩
theorem gWatching {B : Nat} {W : World} {sb : Nat} {S : Sx} {N : Nat} (h : Gd B W sb S N) (t : Text) (ht : t.length ≤ maxLen) :
    Calls Try.prog 13 #[ptrV sb, .string ⟨t.toArray⟩] W fun e w' => e = .returned (.int .i64 (cntB S (seesP t) (numsL S) : Nat)) ∧ Below W.heap.size W w' := by
  obtain ⟨lab, hs⟩ := h.seat
  refine (watchsing_any ⟨t.toArray⟩ B W lab sb S hs (show (⟨t.toArray⟩ : ByteArray).size ≤ maxLen from ht) (by have := nn_64 hs; omega)).mono ?_
  rintro e w' ⟨ss, rfl, ⟨h1, h2⟩, h3⟩
  exact ⟨by rw [h.count _ h1 h2]; rfl, h3⟩
theorem gWaiting {B : Nat} {W : World} {sb : Nat} {S : Sx} {N : Nat} (h : Gd B W sb S N) (t : Text) (ht : t.length ≤ maxLen) :
    Calls Try.prog 14 #[ptrV sb, .string ⟨t.toArray⟩] W fun e w' => e = .returned (.int .i64 (cntB S (fun x => waitsB x t) (numsL S) : Nat)) ∧ Below W.heap.size W w' := by
  obtain ⟨lab, hs⟩ := h.seat
  refine (waiting_any ⟨t.toArray⟩ B W lab sb S hs (show (⟨t.toArray⟩ : ByteArray).size ≤ maxLen from ht) (by have := nn_64 hs; omega)).mono ?_
  rintro e w' ⟨ss, rfl, ⟨h1, h2⟩, h3⟩
  exact ⟨by rw [h.count _ h1 h2], h3⟩
theorem gFirst {B : Nat} {W : World} {sb : Nat} {S : Sx} {N : Nat} (h : Gd B W sb S N) (hN : N ≤ 900000000) (t : Text) (ht : t.length ≤ maxLen) :
    Calls Try.prog 15 #[ptrV sb, .string ⟨t.toArray⟩] W fun e w' => e = .returned (.int .i64 (firstW S t)) ∧ Below W.heap.size W w' := by
  obtain ⟨lab, hs⟩ := h.seat
  exact first_any ⟨t.toArray⟩ B W lab sb S hs h.lin (show (⟨t.toArray⟩ : ByteArray).size ≤ maxLen from ht) (by have := h.few.rl; omega)
/-- The first one waits; there is one just if somebody waits. -/
theorem first_cases {B : Nat} {W : World} {sb : Nat} {S : Sx} {N : Nat} (h : Gd B W sb S N) (t : Text) : (firstW S t = -1 ∧ cntB S (fun x => waitsB x t) (numsL S) = 0) ∨ (0 ≤ firstW S t ∧ 0 < cntB S (fun x => waitsB x t) (numsL S) ∧ ∃ x, S.F (firstW S t) = some x ∧ x.tk ≠ 0) := by
  obtain ⟨lab, hs⟩ := h.seat
  unfold firstW
  cases hf : S.R.find? (seesB S t) with
  | none =>
    refine .inl ⟨rfl, ?_⟩
    have hz : ¬ 0 < cntB S (fun x => waitsB x t) (numsL S) := fun hp => by
      obtain ⟨i, _, x, hx, hw⟩ := cntB_pos.1 hp
      simp only [waitsB, Bool.and_eq_true, bne_iff_ne, decide_eq_true_eq] at hw
      rcases h.lin.wts i x hx with e | ⟨r, hr, _, hv⟩
      · exact hw.1 e
      · have h1 := List.find?_eq_none.1 hf r hr
        apply h1
        unfold seesB
        rw [hv]
        show (match S.F i with | some x => decide (0 < held x.g t) | none => false) = true
        rw [hx]
        exact decide_eq_true hw.2
    omega
  | some r =>
    have hr := List.mem_of_find?_eq_some hf
    have hb := List.find?_some hf
    obtain ⟨i, x, hv, hx, ht⟩ := h.lin.val r hr
    have hw : whoV r.v = i := by rw [hv]; rfl
    have h1 := (hs.line.le r hr).1
    simp only []
    rw [hw]
    refine .inr ⟨(hs.rng i x hx).1, cntB_pos.2 ⟨i, (numsL_mem hs i).2 (by rw [hx]; rfl), x, hx, ?_⟩, x, hx, by omega⟩
    unfold seesB at hb
    rw [hw, hx] at hb
    simp only [waitsB, Bool.and_eq_true, bne_iff_ne]
    exact ⟨by omega, hb⟩
theorem gGet {B : Nat} {W : World} {sb : Nat} {S : Sx} {N : Nat} (h : Gd B W sb S N) (hN : N ≤ 900000000) {n : Int} {x : Cn} (hx : S.F n = some x) :
    Calls Try.prog 10 #[ptrV sb, .int .i64 n] W fun e w' => ∃ (us : ByteArray) (pu ta : Bool) (gb cap : Nat), e = .returned (.tuple #[.agg #[.int .i64 n, .string us, .slice (some ⟨gb, 0, none⟩) x.n cap, .bool (x.tk != 0), .int .i64 x.un, .bool pu, .bool ta], .bool true]) ∧ x.n ≤ cap ∧ Below W.heap.size W w' := by
  obtain ⟨lab, hs⟩ := h.seat
  obtain ⟨M, hM, hlen, _⟩ := (hs.each n x hx).book.listed
  have hf := h.few.n n x hx
  refine (get_any n B W lab sb S x M hs hx hM (int_wf (hs.rng n x hx)) (by omega)).mono ?_
  rintro e w' ⟨gb, cap, rfl, h1, h2⟩
  refine ⟨x.us, x.pu, x.ta, gb, cap, by rw [hlen]; rfl, ?_, h2⟩
  rcases h1.2 with ⟨h0, _⟩ | ⟨g, c, cur, hv, _, _, hle, _⟩
  · cases h0
  · cases hv
    omega
end Go.Proofs.Ytogmobkkpmpdcaa
