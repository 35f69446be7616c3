/-
  XBk, XLentR.
-/
import Derived.Test.YtienggblpmkjjaaDoorXSpoil
import Derived.Test.YtienggblpmkjjaaDoorRAns3
import Derived.Test.YtienggblpmkjjaaDoorShownA
namespace Go.Proofs.YtienggblpmkjjaaDoor
open Go.RowKit Go.Sort

/-- The book in the world W; us: blocks that nobody writes into; R: what is lent, in the block g. -/
structure Bk (w : World) (us : List (Nat × Obj)) (g cap : Nat) (R : List UInt8) (lab : Nat → Tag) (Hb : Nat) (es : List Ent) (W : World) : Prop where
  held : Held W w.heap.size lab Hb 0 es
  below : Below w.heap.size w W
  low : ∀ k, k < w.heap.size → lab k = .user 0
  usr : ∀ p ∈ us, W.heap[p.1]? = some p.2 ∧ lab p.1 = .user 0
  lent : Own W w.heap.size (.slice (some ⟨g, 0, none⟩) R.length cap) R
  glab : lab g = .user 0
section
variable {w W W1 W2 : World} {us : List (Nat × Obj)} {g cap : Nat} {R : List UInt8} {lab : Nat → Tag} {Hb : Nat} {es : List Ent}
theorem Bk.later (h : Bk w us g cap R lab Hb es W) (hb : Below W.heap.size W W1) : Bk w us g cap R lab Hb es W1 :=
  ⟨h.held.below hb, h.below.trans (hb.mono h.below.size), h.low, fun p hp => ⟨(hb.block p.1 (Array.getElem?_eq_some_iff.1 (h.usr p hp).1).1).trans (h.usr p hp).1, (h.usr p hp).2⟩, h.lent.below hb, h.glab⟩
theorem Bk.relabel (h : Bk w us g cap R lab Hb es W) {lab' : Nat → Tag} (hl : ∀ k, k < W.heap.size → lab' k = lab k) : Bk w us g cap R lab' Hb es W :=
  ⟨h.held.relabel hl, h.below, fun k hk => (hl k (by have := h.below.size; omega)).trans (h.low k hk), fun p hp => ⟨(h.usr p hp).1, (hl p.1 (Array.getElem?_eq_some_iff.1 (h.usr p hp).1).1).trans (h.usr p hp).2⟩, h.lent, (hl g (h.lent.lt g rfl).2).trans h.glab⟩
/-- Bytes that were made since are laid by. -/
theorem Bk.keep (h : Bk w us g cap R lab Hb es W) (hb : Below W.heap.size W W2) {a : Option Addr} {c : Nat} {l : List UInt8} (ho : OwnX W2 W.heap.size (.slice a l.length c) l) (hl : l.length ≤ 140737488355328) (he : es.length ≤ 1073741824) :
    Calls Tryd.prog 17 #[.pointer (some ⟨Hb, 0, none⟩), .slice a l.length c] W2 fun e w' => e = .returned (.tuple #[]) ∧ ∃ lab' cw, Bk w us g cap R lab' Hb (es ++ [⟨.slice a l.length c, cw, l⟩]) w' := by
  obtain ⟨lab2, hlab2⟩ : ∃ lab2 : Nat → Tag, lab2 = fun k => if k < W.heap.size then lab k else .out es.length := ⟨_, rfl⟩
  have e0 : ∀ k, k < W.heap.size → lab2 k = lab k := fun k hk => by rw [hlab2]; simp [hk]
  have e1 : ∀ k, W.heap.size ≤ k → lab2 k = .out es.length := fun k hk => by rw [hlab2]; simp only []; rw [if_neg (by omega)]
  have h2 := (h.relabel e0).later hb
  clear hlab2
  have nl : ∀ k, lab2 k = .user 0 → ¬ Lists lab2 k := fun k e hk => by
    rcases hk with hk | hk | hk <;> rw [e] at hk <;> simp at hk
  refine (heldKeep_any W2 w.heap.size lab2 Hb 0 es a c l h2.held h2.below.size (ho.mono h.below.size) (fun g hg => e1 g (ho.lt g hg).1) hl he).mono ?_
  rintro e w' ⟨rfl, lab', cw, hh, hlb, hk⟩
  refine ⟨rfl, lab', cw, hh, h2.below.trans (hk.below h2.below.size (fun k hk2 => nl k (h2.low k hk2))), fun k hk2 => ?_, fun p hp => ⟨?_, ?_⟩, hk.own h2.lent (fun g' hg' => ?_), ?_⟩
  · rw [hlb k (by have := h2.below.size; omega)]
    exact h2.low k hk2
  · exact (hk.block p.1 (Array.getElem?_eq_some_iff.1 (h2.usr p hp).1).1 (nl _ (h2.usr p hp).2)).trans (h2.usr p hp).1
  · rw [hlb p.1 (Array.getElem?_eq_some_iff.1 (h2.usr p hp).1).1]
    exact (h2.usr p hp).2
  · simp only [Value.ownBlock, Option.some.injEq] at hg'
    subst hg'
    exact nl _ h2.glab
  · rw [hlb g (h2.lent.lt g rfl).2]
    exact h2.glab
/-- A byte of what is lent is turned. -/
theorem Bk.turn (h : Bk w us g cap R lab Hb es W) (hu : ∀ p ∈ us, p.1 ≠ g) (j : Nat) (x : UInt8) : Bk w us g cap (R.set j x) lab Hb es (W.setCell ⟨g, j, none⟩ (.int .u8 (x.toNat : Int))) := by
  have kk : Kept (fun k => k = g) W (W.setCell ⟨g, j, none⟩ (.int .u8 (x.toNat : Int))) := Kept.setCell _ _ _ _ _ rfl
  have hg := (h.lent.lt g rfl).1
  refine ⟨h.held.kept kk (fun k hk e => hk 0 (by rw [e]; exact h.glab)), h.below.trans (kk.below h.below.size (fun k hk e => by omega)), h.low, fun p hp => ⟨(kk.block p.1 (Array.getElem?_eq_some_iff.1 (h.usr p hp).1).1 (hu p hp)).trans (h.usr p hp).1, (h.usr p hp).2⟩, ?_, h.glab⟩
  have := (h.lent.set j x).1
  rw [List.length_set]
  exact this
theorem Bk.holds (h : Bk w us g cap R lab Hb es W) : Calls Tryd.prog 16 #[.pointer (some ⟨Hb, 0, none⟩)] W fun e w' => e = .returned (.bool true) ∧ ∃ m, w' = W.drewN m := holds_any W w.heap.size lab Hb 0 es h.held
theorem Bk.spoil (h : Bk w us g cap R lab Hb es W) (hn : es.length ≤ 65536) (hlen : ∀ (j : Nat) e, es[j]? = some e → e.bytes.length ≤ 4294967296) :
    Calls Tryd.prog 19 #[.pointer (some ⟨Hb, 0, none⟩)] W fun e w' => e = .returned (.bool true) ∧ Below w.heap.size w w' := by
  refine (spoil_any W w.heap.size lab Hb es h.held h.below.size hn hlen).mono ?_
  rintro e w' ⟨rfl, hk⟩
  exact ⟨rfl, h.below.trans (hk.below h.below.size (fun k hk2 hn => hn 0 (h.low k hk2)))⟩
end
end Go.Proofs.YtienggblpmkjjaaDoor

namespace Go.Proofs.YtienggblpmkjjaaDoor
open Go.RowKit Go.Sort

theorem results_ct_row {P : Program} {fn : Func} {p u : Tmp} {ty : TypeId} (h : fn.results = #[.cell p ty, .tmp u]) (tmps : Array Value) (w : World) (g : Nat) (t : TypeId) (cs : Array Value) (fr : Nat × Nat) (d : TypeDesc)
    (hp : tmps.getD p undef = .pointer (some ⟨g, 0, none⟩)) (hg : w.heap[g]? = some (.cells cs t fr)) (hu : P.underlying ty = some d) (hd : (match d with | .struct _ | .array _ _ => true | _ => false) = true) (hi : (P.info? ty).map (·.size) = some cs.size) :
    (results fn tmps).run P w = .ok (.tuple #[.agg cs, tmps.getD u undef]) w := by
  have hp' : tmps[p]?.getD undef = .pointer (some ⟨g, 0, none⟩) := by simpa using hp
  simp only [results, h]
  simp [Result.andThen, hp', asAddr, run_loadVar_row w g t ty cs fr d hg hu hd hi]
/-- A reply's cells. -/
def cellsR (r : Rp) (v : Value) : Array Value := #[.int .i64 r.kind, .int .i64 r.id, .int .i64 r.num, .string ⟨r.tube.toArray⟩, v]
/-- What Put tells of a reply: its bytes, or none. -/
def outB (r : Rp) : List UInt8 := if checkE r = 0 then putL r else []
theorem outB_le (r : Rp) : (outB r).length ≤ r.body.length + 2004 := by
  unfold outB
  split
  · rename_i h
    have := line_short (check_right h)
    unfold putL
    simp only [List.length_append] at this ⊢
    have e : ([13, 10] : List UInt8).length = 2 := rfl
    split
    · simp only [List.length_append, e]
      omega
    · simp only [List.length_nil, e]
      omega
  · simp
def PutX (r : Rp) (w : World) (e : Ending) (w' : World) : Prop := ∃ a c, e = .returned (.tuple #[.slice a (outB r).length c, .int .i64 (checkE r)]) ∧ OwnX w' w.heap.size (.slice a (outB r).length c) (outB r) ∧ Below w.heap.size w w'
theorem PutPost.x {r : Rp} {w w' : World} {e : Ending} (h : PutPost r w e w') : PutX r w e w' := by
  obtain ⟨hb, h⟩ := h
  rcases h with ⟨hne, rfl⟩ | ⟨hz, v, rfl, ho⟩
  · have e : outB r = [] := if_neg hne
    refine ⟨none, 0, ?_, .inl ⟨?_, e⟩, hb⟩
    · rw [e]; rfl
    · rw [e]; rfl
  · have e : outB r = putL r := if_pos hz
    obtain ⟨g, cap, rfl, rest⟩ := ho
    refine ⟨some ⟨g, 0, none⟩, cap, ?_, .inr ⟨g, cap, ?_, ?_⟩, hb⟩
    · rw [e, hz]
    · rfl
    · rw [e]; exact rest

set_option maxHeartbeats 1000000 in
set_option maxRecDepth 1000000 in
theorem lentReply_any (w : World) (r : Rp) (a : Option Addr) (c : Nat) (hb : IsBytes w a c r.body) (hl : r.body.length ≤ 140737488355000) :
    Calls Tryd.prog 10 #[.agg (cellsR r (.slice a r.body.length c))] w fun e w' => ∃ g cap, e = .returned (.tuple #[.agg (cellsR r (.slice (some ⟨g, 0, none⟩) r.body.length cap)), .slice (some ⟨g, 0, none⟩) (r.body.length + 8) cap]) ∧ Own w' w.heap.size (.slice (some ⟨g, 0, none⟩) (r.body.length + 8) cap) (r.body ++ marks 8) ∧ Below w.heap.size w w' := by
  unfold cellsR
  obtain ⟨n, hn⟩ : ∃ n, n = r.body.length := ⟨_, rfl⟩
  have IB := hide hb
  have CL : Hid (∀ W, Below w.heap.size w W → Calls Tryd.prog 34 #[.slice a n c] W fun e w' => ∃ g cap, e = .returned (.slice (some ⟨g, 0, none⟩) (n + 8) cap) ∧ Own w' W.heap.size (.slice (some ⟨g, 0, none⟩) (n + 8) cap) (r.body ++ marks 8) ∧ Below W.heap.size W w') := fun W hW => by
    rw [hn]
    exact lent_any a c r.body W (hb.below hW) hl
  rw [← hn] at hl ⊢
  have HN := hide hn
  clear hb hn
  obtain ⟨w0, hw0⟩ : ∃ w0, w0 = (w.alloc (.cells #[.int .i64 r.kind, .int .i64 r.id, .int .i64 r.num, .string ⟨r.tube.toArray⟩, .slice a n c] 24)).alloc (.cells #[.int .i64 0, .int .i64 0, .int .i64 0, .string ⟨#[]⟩, .slice none 0 0] 24) := ⟨_, rfl⟩
  obtain ⟨pb, hpb⟩ : ∃ pb, pb = w.heap.size := ⟨_, rfl⟩
  obtain ⟨qb, hqb⟩ : ∃ qb, qb = w.heap.size + 1 := ⟨_, rfl⟩
  have B0 : Hid (Below w.heap.size w w0) := by rw [hw0]; exact ((Below.refl _ w).alloc (Nat.le_refl _) _).alloc (by simp) _
  have G0 : Hid (w0.heap[pb]? = some (.cells #[.int .i64 r.kind, .int .i64 r.id, .int .i64 r.num, .string ⟨r.tube.toArray⟩, .slice a n c] 24 (0, 0)) ∧ w0.heap[qb]? = some (.cells #[.int .i64 0, .int .i64 0, .int .i64 0, .string ⟨#[]⟩, .slice none 0 0] 24 (0, 0)) ∧ w.heap.size ≤ pb ∧ w.heap.size ≤ qb) := by
    refine ⟨?_, ?_, by omega, by omega⟩
    · rw [hw0, hpb, heap_alloc_old _ _ (by simp)]
      exact heap_alloc_new _ _
    · have := heap_alloc_new (w.alloc (.cells #[.int .i64 r.kind, .int .i64 r.id, .int .i64 r.num, .string ⟨r.tube.toArray⟩, .slice a n c] 24)) (.cells #[.int .i64 0, .int .i64 0, .int .i64 0, .string ⟨#[]⟩, .slice none 0 0] 24)
      rw [World.size_alloc, ← hw0] at this
      rw [hqb]
      exact this
  have hne : pb ≠ qb := by omega
  have HW0 := hide (And.intro hw0 (And.intro hpb hqb))
  have p4 := cells_at G0.out.1 (i := 4) rfl
  simp only [List.getElem_toArray, List.getElem_cons_zero, List.getElem_cons_succ] at p4
  have hlt0 := cell_lt p4
  clear hw0 hpb hqb
  go_enter Tryd.func10, Tryd.ntmps10
  go_upto_region 1 with fail
  rw [← HW0.out.2.2, ← HW0.out.2.1, ← HW0.out.1]
  clear HW0
  go_upto_region 2 with (go_at_call 34; refine (CL.out _ B0.out).mono ?_; rintro e w1 ⟨g, cap, rfl, o1, b1⟩; have O1 := hide o1; have B1 := hide b1; clear o1 b1)
  have G1 : Hid (w1.heap[pb]? = some (.cells #[.int .i64 r.kind, .int .i64 r.id, .int .i64 r.num, .string ⟨r.tube.toArray⟩, .slice a n c] 24 (0, 0)) ∧ w1.heap[qb]? = some (.cells #[.int .i64 0, .int .i64 0, .int .i64 0, .string ⟨#[]⟩, .slice none 0 0] 24 (0, 0))) := ⟨(B1.out.block pb (Array.getElem?_eq_some_iff.1 G0.out.1).1).trans G0.out.1, (B1.out.block qb (Array.getElem?_eq_some_iff.1 G0.out.2.1).1).trans G0.out.2.1⟩
  have c0 := cells_at G1.out.1 (i := 0) rfl
  have c1 := cells_at G1.out.1 (i := 1) rfl
  have c2 := cells_at G1.out.1 (i := 2) rfl
  have c3 := cells_at G1.out.1 (i := 3) rfl
  have c4 := cells_at G1.out.1 (i := 4) rfl
  have d0 := cells_at G1.out.2 (i := 0) rfl
  have d1 := cells_at G1.out.2 (i := 1) rfl
  have d2 := cells_at G1.out.2 (i := 2) rfl
  have d3 := cells_at G1.out.2 (i := 3) rfl
  have d4 := cells_at G1.out.2 (i := 4) rfl
  simp only [List.getElem_toArray, List.getElem_cons_zero, List.getElem_cons_succ] at c0 c1 c2 c3 c4 d0 d1 d2 d3 d4
  have fz : ∀ i, w1.frozen? ⟨pb, i, none⟩ = false := fun i => by simp [World.frozen?, G1.out.1]
  have fy : ∀ i, w1.frozen? ⟨qb, i, none⟩ = false := fun i => by simp [World.frozen?, G1.out.2]
  have hcap : n + 8 ≤ cap ∧ cap ≤ maxLen ∧ g < w1.heap.size ∧ w0.heap.size ≤ g := by
    have h := O1.out.is
    have h2 := O1.out.block
    have h3 := h.1.1
    have h4 := h.1.2.1
    have : (r.body ++ marks 8).length = n + 8 := h.2
    exact ⟨by omega, h4, h2.2, h2.1⟩
  have hg0 : pb ≠ g := by have := (Array.getElem?_eq_some_iff.1 G0.out.1).1; omega
  have hg1 : qb ≠ g := by have := (Array.getElem?_eq_some_iff.1 G0.out.2.1).1; omega
  unfold maxLen at hcap
  have hltp := cell_lt c0
  have hltq := cell_lt d0
  clear p4 hlt0 CL
  go_wp2_with fail
  have q1 : (w1.setCell ⟨pb, 4, none⟩ (.slice (some ⟨g, 0, none⟩) n cap)).heap[qb]? = some (.cells #[.int .i64 0, .int .i64 0, .int .i64 0, .string ⟨#[]⟩, .slice none 0 0] 24 (0, 0)) := (Below.heap_setCell w1 ⟨pb, 4, none⟩ _ qb (fun e => hne e.symm)).trans G1.out.2
  have q2 := (set_cells q1 0 (.int .i64 r.kind)).1
  have q3 := (set_cells q2 1 (.int .i64 r.id)).1
  have q4 := (set_cells q3 2 (.int .i64 r.num)).1
  have q5 := (set_cells q4 3 (.string ⟨r.tube.toArray⟩)).1
  have q6 := (set_cells q5 4 (.slice (some ⟨g, 0, none⟩) n cap)).1
  have kk := (((((Kept.setCell (fun k => k = pb ∨ k = qb) w1 pb 4 (.slice (some ⟨g, 0, none⟩) n cap) (.inl rfl)).trans (Kept.setCell _ _ qb 0 (.int .i64 r.kind) (.inr rfl))).trans (Kept.setCell _ _ qb 1 (.int .i64 r.id) (.inr rfl))).trans (Kept.setCell _ _ qb 2 (.int .i64 r.num) (.inr rfl))).trans (Kept.setCell _ _ qb 3 (.string ⟨r.tube.toArray⟩) (.inr rfl))).trans (Kept.setCell _ _ qb 4 (.slice (some ⟨g, 0, none⟩) n cap) (.inr rfl))
  refine bodyPost_ret (results_ct_row rfl _ _ qb 24 #[.int .i64 r.kind, .int .i64 r.id, .int .i64 r.num, .string ⟨r.tube.toArray⟩, .slice (some ⟨g, 0, none⟩) n cap] (0, 0) _ rfl q6 Tryd.underlying24 rfl (by kernel_rfl)) rfl ?_
  refine ⟨g, cap, rfl, ?_, ?_⟩
  · refine kk.own (O1.out.mono B0.out.size) (fun g' hg' => ?_)
    simp only [Value.ownBlock, Option.some.injEq] at hg'
    subst hg'
    exact fun h => h.elim (fun e => hg0 e.symm) (fun e => hg1 e.symm)
  · refine (B0.out.trans (B1.out.mono B0.out.size)).trans (kk.below (by have := B0.out.size; have := B1.out.size; omega) (fun k hk h => ?_))
    have := G0.out.2.2
    omega
end Go.Proofs.YtienggblpmkjjaaDoor
