/-
  The walk of Names.
-/
import Derived.Test.YthjaehibndmehaaAll
import Derived.Test.YthjaehibndmehaaRound
import Derived.Maps.OwnIn
namespace Go.Proofs.Ythjaehibndmehaa
open Go.RowKit

theorem info_string : (Try.prog.info? 9).map (fun i => (i.zero, i.size, i.bytes)) = some (some (.string ⟨#[]⟩), 1, 16) := by kernel_rfl
theorem kept_row {w w' : World} {row : Option Nat} (hg : w.grownBy w' row) : Kept (fun k => row = some k) w w' := Kept.ofGrown hg (fun _ e => e)
theorem cells_own {w w' : World} {k : Nat} {c : Array Value} {t : TypeId} (h : w.heap[k]? = some (.cells c t (0, 0))) {B : Nat} {row : Option Nat} (hg : w.grownBy w' row) (hr : ∀ r, row = some r → B ≤ r ∧ ∃ o : Obj, w.heap[r]? = some o ∧ o.isCells = false) : w'.heap[k]? = some (.cells c t (0, 0)) := by
  refine (hg.block k (Array.getElem?_eq_some_iff.1 h).1 (fun e => ?_)).trans h
  obtain ⟨_, o, h2, h3⟩ := hr k e.symm
  rw [h] at h2
  obtain rfl := Option.some.inj h2
  cases h3
/-- A row of texts, and the variable that has it. -/
structure Texts (w : World) (B bl : Nat) (v : Value) (ss : List Text) : Prop where
  box : w.heap[bl]? = some (.cells #[v] 54 (0, 0))
  row : w.ownsRow B 9 1 v ss.length (ss.map encStr)
  some_ : v ≠ .slice none 0 0
theorem Texts.own {w w' : World} {B bl : Nat} {v : Value} {ss : List Text} (h : Texts w B bl v ss) {C : Nat} {row : Option Nat} (hg : w.grownBy w' row) (hr : ∀ r, row = some r → C ≤ r ∧ ∃ o : Obj, w.heap[r]? = some o ∧ o.isCells = false) : Texts w' B bl v ss := by
  refine ⟨cells_own h.box hg hr, ?_, h.some_⟩
  refine ⟨h.row.1, ?_⟩
  rcases h.row.2 with h0 | ⟨g, cap, cur, rfl, hB, hgg, rest⟩
  · exact .inl h0
  · exact .inr ⟨g, cap, cur, rfl, hB, cells_own hgg hg hr, rest⟩
theorem Texts.below {w w' : World} {B bl : Nat} {v : Value} {ss : List Text} (h : Texts w B bl v ss) (hk : Below w.heap.size w w') : Texts w' B bl v ss :=
  h.own (C := 0) (row := none) ⟨hk.os, hk.tape, hk.output, hk.size, fun k h _ => hk.block k h⟩ (fun _ e => by cases e)

theorem Texts.not {w : World} {B bl : Nat} {v : Value} {ss : List Text} (h : Texts w B bl v ss) : some bl ≠ v.ownBlock := by
  rcases h.row.2 with ⟨rfl, _⟩ | ⟨gv, cv, cu, rfl, _, hgv, _⟩
  · simp [Value.ownBlock]
  · intro e
    have e2 : bl = gv := by simpa [Value.ownBlock] using e
    rw [← e2, h.box] at hgv
    simp at hgv
theorem Texts.grown {V V3 : World} {B bl : Nat} {v : Value} {ss : List Text} (h : Texts V B bl v ss) {o : Obj} (hg3 : (V.alloc o).grownBy V3 v.ownBlock) : V3.heap[bl]? = some (.cells #[v] 54 (0, 0)) := by
  have hlt : bl < V.heap.size := (Array.getElem?_eq_some_iff.1 h.box).1
  exact (hg3.block bl (by simp; omega) h.not).trans ((Below.heap_alloc V o bl hlt).trans h.box)
theorem shape_some {w : World} {B : Nat} {e : TypeId} {v : Value} {n : Nat} {xs : List Value} (h : w.ownsRow B e 1 v (n + 1) xs) : ∃ gx cx, v = .slice (some ⟨gx, 0, none⟩) (n + 1) cx := by
  rcases h.2 with ⟨_, h0⟩ | ⟨gx, cx, _, hv, _⟩
  · omega
  · exact ⟨gx, cx, hv⟩

theorem Texts.push {V V3 : World} {B bl : Nat} {v : Value} {ss : List Text} (h : Texts V B bl v ss) {o : Obj} (hg3 : (V.alloc o).grownBy V3 v.ownBlock) {xt : Text} {gx cx : Nat}
    (ho : V3.ownsRow B 9 1 (.slice (some ⟨gx, 0, none⟩) (ss.length + 1) cx) (ss.length + 1) (ss.map encStr ++ [encStr xt])) :
    Texts (V3.setCell ⟨bl, 0, none⟩ (.slice (some ⟨gx, 0, none⟩) (ss.length + 1) cx)) B bl (.slice (some ⟨gx, 0, none⟩) (ss.length + 1) cx) (ss ++ [xt]) ∧ Kept (fun k => some k = v.ownBlock ∨ k = bl) V (V3.setCell ⟨bl, 0, none⟩ (.slice (some ⟨gx, 0, none⟩) (ss.length + 1) cx)) := by
  have hb := h.grown hg3
  have hset := set_cells hb 0 (.slice (some ⟨gx, 0, none⟩) (ss.length + 1) cx)
  have hne : gx ≠ bl := by
    rcases ho.2 with ⟨h0, _⟩ | ⟨gv, cv, cu, hv, _, hgv, _⟩
    · cases h0
    · simp only [Value.slice.injEq, Option.some.injEq, Addr.mk.injEq, and_true] at hv
      obtain ⟨rfl, _⟩ := hv
      rintro rfl
      rw [hb] at hgv
      simp at hgv
  have hk2 : Kept (fun k => k = bl) V3 (V3.setCell ⟨bl, 0, none⟩ (.slice (some ⟨gx, 0, none⟩) (ss.length + 1) cx)) := Kept.setCell _ _ _ _ _ rfl
  have hk1 : Kept (fun k => some k = v.ownBlock ∨ k = bl) V V3 :=
    ⟨hg3.os, hg3.tape, hg3.output, Nat.le_trans (by simp) hg3.size, fun k hk hn => (hg3.block k (by simp; omega) (fun e => hn (.inl e))).trans (Below.heap_alloc V o k hk)⟩
  refine ⟨⟨?_, ?_, by simp⟩, hk1.step hk2 (fun k _ e => .inr e)⟩
  · rw [hset.1]
    simp
  · rw [List.length_append, List.map_append]
    exact hk2.own ho (fun k e hk => hne (by simp only [Value.ownBlock, Option.some.injEq] at e; omega))
theorem Texts.keeps {V V' : World} {B bl : Nat} {v : Value} {ss : List Text} (h : Texts V B bl v ss) (hk : Kept (fun k => some k = v.ownBlock ∨ k = bl) V V') {k : Nat} {o : Obj} (hc : V.heap[k]? = some o) (ho : ∀ c, o ≠ .cells c 9 (0, 0)) (ho2 : ∀ c, o ≠ .cells c 54 (0, 0)) : V'.heap[k]? = V.heap[k]? := by
  refine hk.block k (Array.getElem?_eq_some_iff.1 hc).1 ?_
  rintro (e | rfl)
  · rcases h.row.2 with ⟨rfl, _⟩ | ⟨gv, cv, cu, rfl, _, hgv, _⟩
    · simp [Value.ownBlock] at e
    · have e2 : k = gv := by simpa [Value.ownBlock] using e
      rw [e2, hgv] at hc
      exact ho _ (Option.some.inj hc).symm
  · rw [h.box] at hc
    exact ho2 _ (Option.some.inj hc).symm

attribute [local go_sem] Oper.semAt_some
set_option maxHeartbeats 4000000 in
set_option maxRecDepth 1000000 in
theorem names_any (w : World) (b mb n : Nat) (g : Text → Option Int) (S : List RowT) (h : BookAt w b mb n g) (hn : n ≤ 1073741823) (hS : Listed g S) :
    Calls Try.prog 25 #[.pointer (some ⟨b, 0, none⟩)] w fun e w' => ∃ (gb cap : Nat), e = .returned (.slice (some ⟨gb, 0, none⟩) S.length cap) ∧ w'.ownsRow w.heap.size 9 1 (.slice (some ⟨gb, 0, none⟩) S.length cap) S.length (S.map fun r => encStr r.1) ∧ Below w.heap.size w w' := by
  obtain ⟨i0, hi, hz0, hz1, hz2⟩ := info_parts info_string
  have HB : Hid (BookAt w b mb n g) := h
  have hSn : S.length = n := by
    obtain ⟨S', h1, h2, _⟩ := h.listed
    rw [hS.unique h1, h2]
  clear h
  refine (callsIn_wide (n := 3)).1 ?_
  refine callsIn_of_wp_marks Try.func25 rfl trivial ?_ rfl
  simp only [Try.ntmps25, List.size_toArray, List.length_cons, List.length_nil, Nat.reduceAdd, Nat.reduceSub, Array.replicate_succ, Array.replicate_zero, List.push_toArray, List.append_toArray, List.nil_append, List.cons_append]
  refine wpIn_wide.2 ?_
  go_wp2_with (first
    | (go_at_call 26; refine (len_any _ b mb n g HB.out).mono ?_; rintro e w1 ⟨rfl, hW⟩; have hW := hW.symm; subst hW)
    | (at_make; refine wpList_make_own _ rfl _ _ 54 rfl w.heap.size 9 i0 (.string ⟨#[]⟩) 1 Try.underlying54 hi hz0 hz1 _ _ _ n rfl rfl rfl (by rw [hz2]; omega) (by unfold maxLen; omega) (Nat.le_refl _) ?_
       intro w1 hrow1 hg1
       have HR1 : Hid (w1.ownsRow w.heap.size 9 1 (.slice (some ⟨w.heap.size, 0, none⟩) 0 n) 0 [] ∧ w.grownBy w1 none) := ⟨hrow1, hg1⟩
       clear hrow1 hg1))
  obtain ⟨w2, hw2⟩ : ∃ w2, w2 = w1.alloc (.cells #[.slice (some ⟨w.heap.size, 0, none⟩) 0 n] 54) := ⟨_, rfl⟩
  obtain ⟨bl, hbl⟩ : ∃ bl, bl = w1.heap.size := ⟨_, rfl⟩
  rw [← hw2, ← hbl]
  have B1 : Below w.heap.size w w1 := (Below.refl _ w).grown HR1.out.2 (Nat.le_refl _) (fun j hj => by cases hj)
  have B12 : Below w1.heap.size w1 w2 := by rw [hw2]; exact (Below.refl _ w1).alloc (Nat.le_refl _) _
  have B2 : Below w.heap.size w w2 := B1.trans (B12.mono B1.size)
  have HT2 : Hid (Texts w2 w.heap.size bl (.slice (some ⟨w.heap.size, 0, none⟩) 0 n) []) := by
    refine ⟨by rw [hw2, hbl]; exact (MapKept.heap_alloc w1 _).1, ?_, by simp⟩
    rw [hw2]
    exact HR1.out.1.alloc _
  have HB2 : Hid (Below w.heap.size w w2 ∧ w.heap.size ≤ bl) := ⟨B2, by rw [hbl]; exact B1.size⟩
  clear hw2 hbl B1 B12 B2 HR1
  refine (all_any w2 b).mono ?_
  rintro e W ⟨rfl, bx, BW⟩
  obtain ⟨cb, hcb⟩ : ∃ cb, cb = w2.heap.size := ⟨_, rfl⟩
  rw [← hcb]
  rw [← hcb] at bx
  have HX : Hid (boxed W cb b) := bx
  have HTW : Hid (Texts W w.heap.size bl (.slice (some ⟨w.heap.size, 0, none⟩) 0 n) []) := HT2.out.below BW
  have HBW : Hid (Below w.heap.size w W ∧ w.heap.size ≤ bl) := ⟨HB2.out.1.trans (BW.mono HB2.out.1.size), HB2.out.2⟩
  have HBK : Hid (BookAt W b mb n g) := HB.out.below (HBW.out.1.mono (Nat.le_refl _))
  have hwW : w.heap.size ≤ W.heap.size := HBW.out.1.size
  clear bx BW hcb HT2 HB2
  unfold allV
  go_wp2_with fail
  refine (wpIn_wide (n := 3)).1 ?_
  refine wpIn_told rfl (by omega) (gf := 38) (lb := #[.pointer (some ⟨cb, 0, none⟩)]) rfl trivial (enters_of Try.func38 (by kernel_rfl) rfl)
    (all_told 2 cb b mb n g S W HBK.out HX.out hn hS) (fun h k => h.trans k) (fun W l o o' _ hl ho _ => Kp.put W l o o' hl ho) (Below.refl _ _) (fun _ => rfl)
    (fun pre W => (∃ v, Texts W w.heap.size bl v (pre.map Prod.fst)) ∧ Below w.heap.size w W)
    (fun _ _ _ => False)
    (fun pre W W' row hs hgr hr => by
      obtain ⟨⟨v, i1⟩, i2⟩ := hs
      exact ⟨⟨v, i1.own hgr hr⟩, i2.grown hgr i2.size (fun k e => by have := (hr k e).1; omega)⟩)
    (fun _ _ _ _ _ h _ _ => h.elim)
    (fun pre x A _ _ _ _ h _ _ => h)
    ⟨⟨_, HTW.out⟩, HBW.out.1⟩
    ?a1 ?assign ?body ?done ?stop
  case assign =>
    intro l x W K hK
    gi_wp2
    exact hK
  case body =>
    rintro id pre ⟨xt, xc⟩ A V hid _ _ _ _ ⟨⟨v, i1⟩, i2⟩ hx hlt
    have cB : V.cell? ⟨bl, 0, none⟩ = some v := by simp [World.cell?, i1.box]
    have fB : V.frozen? ⟨bl, 0, none⟩ = false := by simp [World.frozen?, i1.box]
    have HI : Hid (Texts V w.heap.size bl v (pre.map Prod.fst) ∧ Below w.heap.size w V) := ⟨i1, i2⟩
    clear i1 i2 hx hid
    have hpl : (pre.map Prod.fst).length = pre.length := List.length_map _
    have hb1 : (pre.map Prod.fst).length + 1 ≤ maxLen := by unfold maxLen; omega
    have hb2 : ((pre.map Prod.fst).length + 1) * 16 ≤ 140737488355328 := by omega
    have hb3 : w.heap.size ≤ (V.alloc (.cells #[encStr xt] 9)).heap.size := by have := HI.out.2.size; simp; omega
    gi_wp2_with (first
      | (gi_at_builtin; go_must (refine wpListIn_append_own_at _ rfl _ _ 54 rfl w.heap.size 9 i0 (.string ⟨#[]⟩) 1 16 Try.underlying54 hi hz0 hz1 hz2 rfl (by decide) _ _ _ rfl (HI.out.1.row.alloc _) ⟨V.heap.size, 0, none⟩ 1 1 [encStr xt] rfl rfl (cell_one_new _ _ _) (by simp [Value.oneCell', encStr]) hb1 hb2 hb3 ?_)
         intro v' V3 hown' hg3 hnil3 _
         obtain ⟨gx, cx, rfl⟩ := shape_some hown'
         have hb3' : V3.heap[bl]? = some (.cells #[v] 54 (0, 0)) := HI.out.1.grown hg3
         have c3 : V3.cell? ⟨bl, 0, none⟩ = some v := by simp [World.cell?, hb3']
         have f3 : V3.frozen? ⟨bl, 0, none⟩ = false := by simp [World.frozen?, hb3']
         have H3 : Hid (V3.ownsRow w.heap.size 9 1 (.slice (some ⟨gx, 0, none⟩) ((pre.map Prod.fst).length + 1) cx) ((pre.map Prod.fst).length + 1) ((pre.map Prod.fst).map encStr ++ [encStr xt]) ∧ (V.alloc (.cells #[encStr xt] 9)).grownBy V3 v.ownBlock ∧ V3.heap[bl]? = some (.cells #[v] 54 (0, 0))) := ⟨hown', hg3, hb3'⟩
         clear hown' hg3 hnil3 hb3'))
    obtain ⟨o3, g3, _⟩ := H3.out
    obtain ⟨i1, i2⟩ := HI.out
    rw [hpl] at o3
    obtain ⟨p1, p2⟩ := i1.push (xt := xt) (gx := gx) (cx := cx) g3 (by rw [hpl]; exact o3)
    rw [hpl] at p1 p2
    refine ⟨⟨p2.size, fun k o _ ho hc => (i1.keeps p2 ho ?_ ?_).trans ho⟩, ⟨p2.size, fun k c hc => i1.keeps p2 hc (by simp) (by simp)⟩, ⟨_, by rw [List.map_append]; exact p1⟩, i2.trans (p2.below i2.size (fun k hk e => ?_))⟩
    · rintro c rfl
      cases hc
    · rintro c rfl
      cases hc
    · rcases e with e | rfl
      · have := (i1.row.lt k e.symm).1
        omega
      · have := HBW.out.2
        omega
  case done =>
    rintro D xs V hD hS ⟨⟨v, i1⟩, i2⟩ hK
    subst hS
    have cB : V.cell? ⟨bl, 0, none⟩ = some v := by simp [World.cell?, i1.box]
    have HI : Hid (Texts V w.heap.size bl v (xs.map Prod.fst) ∧ Below w.heap.size w V) := ⟨i1, i2⟩
    have HK : Hid (V.heap[D]? = some (.deferred (some []))) := hK
    clear i1 i2 hK
    go_wp2_with fail
    refine ⟨by simp, .inl ⟨_, _, rfl, run_takeDeferred HK.out, ?_⟩⟩
    obtain ⟨i1, i2⟩ := HI.out
    have i3 : Texts (V.putObj D (.deferred none)) w.heap.size bl v (xs.map Prod.fst) := i1.own (C := 0) (grownBy_putObj' V D (.deferred none)) (fun k e => by cases e; exact ⟨Nat.zero_le _, _, HK.out, rfl⟩)
    have i4 := i3.row
    rw [List.length_map] at i4
    rcases i4.2 with ⟨h0, _⟩ | ⟨gb, cap, cu, hv, _⟩
    · exact absurd h0 i1.some_
    refine ⟨v, by simp [results, Try.f25, go_sem], gb, cap, by rw [hv], ?_, i2.grown (grownBy_putObj' _ D (.deferred none)) i2.size (fun k e => by cases e; omega)⟩
    rw [← hv]
    rw [List.map_map] at i4
    exact i4
  case stop =>
    rintro D c pre W hD _ h
    exact h.elim
end Go.Proofs.Ythjaehibndmehaa
