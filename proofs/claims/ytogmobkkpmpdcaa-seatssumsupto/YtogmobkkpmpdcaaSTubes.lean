/-
  Tubes.
-/
import Derived.Test.YtogmobkkpmpdcaaSNums
import Derived.Test.YtogmobkkpmpdcaaSCount2
import Derived.Test.YtogmobkkpmpdcaaSUse
namespace Go.Proofs.Ytogmobkkpmpdcaa
open Go.RowKit Go.Maps
theorem hold_some (g : Text → Option Int) (h : ∀ t v, g t = some v → 1 ≤ v) {t : Text} (hv : validB t = true) (u : Text) : (holdG g t u).isSome = true ↔ u = t ∨ (g u).isSome = true := by
  unfold holdG
  rw [hv, if_pos rfl]
  have h0 : 0 ≤ held g t := by
    unfold held
    cases hg : g t with
    | none => simp
    | some v => have := h t v hg; simp; omega
  unfold setG
  rw [if_neg (by omega)]
  unfold putAt
  by_cases e : u = t
  · rw [if_pos e]; simp [e]
  · rw [if_neg e]; simp [e]
theorem hold_le (g : Text → Option Int) (t u : Text) (c : Int) (h : ∀ v, held g v ≤ c) : held (holdG g t) u ≤ c + 1 := by
  have h1 := h u
  have h2 := h t
  unfold holdG
  split
  · rw [held_set]
    split
    · omega
    · omega
  · omega
/-- What the connections of a list use and watch. -/
def Cov (S : Sx) (ss : List Int) (g : Text → Option Int) : Prop := ∀ t, (g t).isSome = true ↔ ∃ i ∈ ss, ∃ x, S.F i = some x ∧ (x.us.data.toList = t ∨ (x.g t).isSome = true)
/-- In the midst of one. -/
def CovM (S : Sx) (ss : List Int) (x : Cn) (pre : List RowT) (g : Text → Option Int) : Prop := ∀ t, (g t).isSome = true ↔ (∃ i ∈ ss, ∃ y, S.F i = some y ∧ (y.us.data.toList = t ∨ (y.g t).isSome = true)) ∨ x.us.data.toList = t ∨ t ∈ pre.map Prod.fst
theorem CovM.done {S : Sx} {ss : List Int} {i : Int} {x : Cn} {L : List RowT} {g : Text → Option Int} (hx : S.F i = some x) (hL : Listed x.g L) (h : CovM S ss x L g) : Cov S (ss ++ [i]) g := fun t => by
  have hm : t ∈ L.map Prod.fst ↔ (x.g t).isSome = true := by
    constructor
    · intro hm
      obtain ⟨⟨t', v⟩, hr, rfl⟩ := List.mem_map.1 hm
      rw [(hL.mem t' v).1 hr]; rfl
    · intro hs
      obtain ⟨v, hv⟩ := Option.isSome_iff_exists.1 hs
      exact List.mem_map.2 ⟨(t, v), (hL.mem t v).2 hv, rfl⟩
  rw [h t, hm]
  constructor
  · rintro (⟨j, hj, y, hy, hu⟩ | hu)
    · exact ⟨j, List.mem_append.2 (.inl hj), y, hy, hu⟩
    · exact ⟨i, List.mem_append.2 (.inr (List.mem_singleton.2 rfl)), x, hx, hu⟩
  · rintro ⟨j, hj, y, hy, hu⟩
    rcases List.mem_append.1 hj with hj | hj
    · exact .inl ⟨j, hj, y, hy, hu⟩
    · rw [List.mem_singleton.1 hj, hx] at hy
      cases hy
      exact .inr hu
/-- A book that was made here, with how often it may be held. -/
structure Bok (w : World) (ab am b3 : Nat) (c : Nat) (g : Text → Option Int) (W : World) : Prop where
  book : ∃ n, BookAt W ab am n g ∧ n ≤ c
  cnt : ∀ t, held g t ≤ c
  box : W.heap[b3]? = some (.cells #[ptrV ab] 60 (0, 0))
  la : w.heap.size ≤ ab
  lm : w.heap.size ≤ am
  lb : w.heap.size ≤ b3
  bel : Below w.heap.size w W
theorem Bok.hold {w : World} {ab am b3 c : Nat} {g : Text → Option Int} {W W' : World} (h : Bok w ab am b3 c g W) {n : Nat} {t : Text} (hb : BookAt W' ab am (holdN g n t) (holdG g t)) (hn : n ≤ c) (hk : Kept (fun k => k = am) W W') : Bok w ab am b3 (c + 1) (holdG g t) W' := by
  have hl := h.lm
  refine ⟨⟨_, hb, by have := holdN_le g n t; omega⟩, fun u => by have := hold_le g t u c h.cnt; push_cast; exact this, (hk.block _ (Array.getElem?_eq_some_iff.1 h.box).1 (fun e => ?_)).trans h.box, h.la, h.lm, h.lb, h.bel.trans (hk.below h.bel.size (fun k hk e => by have e : k = am := e; omega))⟩
  have e : b3 = am := e
  obtain ⟨n', hb', _⟩ := h.book
  obtain ⟨es, cl, hm⟩ := hb'.tab.map
  have hx := h.box
  rw [e, hm] at hx
  cases hx
theorem Bok.own {w : World} {ab am b3 c : Nat} {g : Text → Option Int} {W W' : World} (h : Bok w ab am b3 c g W) {C : Nat} {row : Option Nat} (hg : W.grownBy W' row) (hr : ∀ r, row = some r → C ≤ r) (hC : ∀ r, C ≤ r → r ≠ ab ∧ r ≠ am ∧ r ≠ b3 ∧ w.heap.size ≤ r) : Bok w ab am b3 c g W' := by
  obtain ⟨n, hb, hn⟩ := h.book
  have hk : Kept (fun k => row = some k) W W' := Kept.ofGrown hg (fun _ e => e)
  refine ⟨⟨n, hb.kept hk (fun e => (hC _ (hr _ e)).1 rfl) (fun e => (hC _ (hr _ e)).2.1 rfl), hn⟩, h.cnt, (hk.block _ (Array.getElem?_eq_some_iff.1 h.box).1 (fun e => (hC _ (hr _ e)).2.2.1 rfl)).trans h.box, h.la, h.lm, h.lb, h.bel.grown hg h.bel.size (fun k e => (hC k (hr k e)).2.2.2)⟩
theorem Bok.mono {w : World} {ab am b3 c d : Nat} {g : Text → Option Int} {W : World} (h : Bok w ab am b3 c g W) (hd : c ≤ d) : Bok w ab am b3 d g W := by
  obtain ⟨n, h1, h2⟩ := h.book
  exact ⟨⟨n, h1, by omega⟩, fun t => by have := h.cnt t; omega, h.box, h.la, h.lm, h.lb, h.bel⟩
/-- Marks of ranges over functions that are over. -/
def Marks (w W : World) (ds : List Nat) : Prop := ds.Nodup ∧ ∀ d ∈ ds, w.heap.size ≤ d ∧ W.heap[d]? = some (.deferred (some []))
def markOf (d : Nat) : Deferred := { target := .collected d, args := #[] }
theorem leaves_marks {n : Nat} {fn : Func} {tmps : Array Value} {R : Ending → World → Prop} (w : World) (ok : World → Prop) (hok : ∀ W d, ok W → w.heap.size ≤ d → W.heap[d]? = some (.deferred (some [])) → ok (W.putObj d (.deferred none))) (hR : ∀ W, ok W → LeavesInM Fence.wide n Try.prog fn tmps R [] .returning W) :
    ∀ (ds : List Nat) (W : World), Marks w W ds → ok W → LeavesInM Fence.wide n Try.prog fn tmps R (ds.map markOf) .returning W
  | [], W, _, h => hR W h
  | d :: ds, W, hm, h => by
    obtain ⟨h1, h2⟩ := hm
    obtain ⟨h3, h4⟩ := List.nodup_cons.1 h1
    obtain ⟨h5, h6⟩ := h2 d (by simp)
    refine ⟨by simp, .inl ⟨d, _, rfl, run_takeDeferred h6, leaves_marks w ok hok hR ds _ ⟨h4, fun x hx => ⟨(h2 x (List.mem_cons_of_mem _ hx)).1, ?_⟩⟩ (hok W d h h5 h6)⟩⟩
    exact (World.putObj_heap_other (fun e => h3 (by rw [← e]; exact hx))).trans (h2 x (List.mem_cons_of_mem _ hx)).2
/-- In the midst of Tubes. -/
structure TI (w : World) (S : Sx) (D : DataW Value) (it ab am b3 N : Nat) (ds : List Nat) (left : Lit → Bool) (cnt : Nat) (ss : List Int) (g : Text → Option Int) (W : World) : Prop where
  rg : W.ranges Try.prog 3 heldElemI S.mb it S.nn D left cnt
  cs : ss.length + cnt ≤ S.nn
  seen : Seen S left ss
  cov : Cov S ss g
  bok : Bok w ab am b3 (ss.length * (N + 1)) g W
  mks : Marks w W ds
/-- In the midst of one connection. -/
structure TM (w : World) (S : Sx) (D : DataW Value) (it ab am b3 c : Nat) (ds : List Nat) (left : Lit → Bool) (cnt : Nat) (ss : List Int) (X : Cn) (pre : List RowT) (g : Text → Option Int) (W : World) : Prop where
  rg : W.ranges Try.prog 3 heldElemI S.mb it S.nn D left cnt
  bok : Bok w ab am b3 c g W
  cov : CovM S ss X pre g
  mks : Marks w W ds
theorem TM.hold {w : World} {S : Sx} {D : DataW Value} {it ab am b3 c : Nat} {ds : List Nat} {left : Lit → Bool} {cnt : Nat} {ss : List Int} {X : Cn} {pre pre' : List RowT} {g : Text → Option Int} {W W' : World} (h : TM w S D it ab am b3 c ds left cnt ss X pre g W) (hit : am < it) (hmb : S.mb < w.heap.size) {n : Nat} {t : Text} (hb : BookAt W' ab am (holdN g n t) (holdG g t)) (hn : n ≤ c) (hk : Kept (fun k => k = am) W W') (hcov : CovM S ss X pre' (holdG g t)) : TM w S D it ab am b3 (c + 1) ds left cnt ss X pre' (holdG g t) W' := by
  have hl := h.bok.lm
  refine ⟨h.rg.kept (row := some am) ⟨hk.os, hk.tape, hk.output, hk.size, fun k hk' hne => hk.block k hk' (fun e => hne (by rw [show k = am from e]))⟩ (by simp; omega) (by simp; omega), h.bok.hold hb hn hk, hcov, h.mks.1, fun d hd => ⟨(h.mks.2 d hd).1, (hk.block d (Array.getElem?_eq_some_iff.1 (h.mks.2 d hd).2).1 (fun e => ?_)).trans (h.mks.2 d hd).2⟩⟩
  have e : d = am := e
  obtain ⟨n', hb', _⟩ := h.bok.book
  obtain ⟨es, cl, hm⟩ := hb'.tab.map
  have hx := (h.mks.2 d hd).2
  rw [e, hm] at hx
  cases hx
theorem TM.own {w : World} {S : Sx} {D : DataW Value} {it ab am b3 c : Nat} {ds : List Nat} {left : Lit → Bool} {cnt : Nat} {ss : List Int} {X : Cn} {pre : List RowT} {g : Text → Option Int} {W W' : World} (h : TM w S D it ab am b3 c ds left cnt ss X pre g W) {C : Nat} {row : Option Nat} (hg : W.grownBy W' row) (hr : ∀ r, row = some r → C ≤ r) (hC : ab < C ∧ am < C ∧ b3 < C ∧ it < C ∧ S.mb < C ∧ w.heap.size ≤ C ∧ ∀ d ∈ ds, d < C) : TM w S D it ab am b3 c ds left cnt ss X pre g W' := by
  refine ⟨h.rg.kept hg (fun e => ?_) (fun e => ?_), h.bok.own (C := C) hg hr (fun r hr => by omega), h.cov, h.mks.1, fun d hd => ⟨(h.mks.2 d hd).1, (hg.block d (Array.getElem?_eq_some_iff.1 (h.mks.2 d hd).2).1 (fun e => ?_)).trans (h.mks.2 d hd).2⟩⟩
  · have := hr _ (by first | exact e | exact e.symm); omega
  · have := hr _ (by first | exact e | exact e.symm); omega
  · have h1 := hr d (by first | exact e | exact e.symm)
    have := hC.2.2.2.2.2.2 d hd
    omega
/-- What stands at the head of the loop of Tubes. -/
def TInv (w : World) (S : Sx) (D : DataW Value) (it ab am b3 N sb : Nat) (a : Act) (W : World) : Prop := ∃ (u5 u6 u13 u14 u15 u16 u17 u18 u19 u20 u21 u22 u23 u24 u25 u26 u27 u28 u29 u30 u31 u32 : Value) (ds : List Nat) (left : Lit → Bool) (cnt : Nat) (ss : List Int) (g : Text → Option Int), a = { tmps := #[ptrV sb, undef, .slice none 0 0, .pointer (some ⟨b3, 0, none⟩), undef, u5, u6, .pointer (some ⟨ab, 0, none⟩), ptrV sb, .pointer (some ⟨sb, 0, none⟩), .pointer (some ⟨sb, 0, none⟩), .map (some S.mb), .pointer (some ⟨it, 0, none⟩), u13, u14, u15, u16, u17, u18, u19, u20, u21, u22, u23, u24, u25, u26, u27, u28, u29, u30, u31, u32, undef, undef], defers := ds.map markOf } ∧ Hid (TI w S D it ab am b3 N ds left cnt ss g W)
end Go.Proofs.Ytogmobkkpmpdcaa
