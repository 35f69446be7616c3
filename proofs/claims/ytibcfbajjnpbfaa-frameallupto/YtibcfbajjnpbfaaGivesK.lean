/-
  What 'gives' has at hand: the kept lists, the iterator, the document's frames.
-/
import Derived.Test.YtibcfbajjnpbfaaLawState
import Derived.Test.YtibcfbajjnpbfaaAllH
import Derived.Test.YtibcfbajjnpbfaaRefWhole
namespace Go.Proofs.Ytibcfbajjnpbfaa
open Go.RowKit

theorem wrap_small (x : Int) (h0 : -9223372036854775808 ≤ x) (h1 : x ≤ 9223372036854775807) : IntKind.i64.wrap x = x := by rw [IntKind.wrap_i64]; omega
theorem seq_nil (w : World) (fn : Fn) (b c : Array Value) : (binOp .eql 59 (.func fn b c) .nilFunc).run Try.prog w = .ok (.bool false) w := by
  have h : ∀ d : Nat, (Op.equalIn (d + 1) 59 (.func fn b c) .nilFunc).run Try.prog w = .ok false w := fun d => by
    simp [Op.equalIn, run_underlying Try.underlying59]
  simp only [binOp]
  simp [Op.equal, Op.maxDepth, h 9999]
theorem row_turned {w w' : World} {B e : Nat} {v : Value} {n : Nat} {xs : List Value} {row : Option Nat} (h : w.ownsRow B e 1 v n xs) (hg : w.grownBy w' row) (hr : ∀ r, row = some r → ∃ o : Obj, w.heap[r]? = some o ∧ o.isCells = false) : w'.ownsRow B e 1 v n xs := by
  refine ⟨h.1, ?_⟩
  rcases h.2 with h0 | ⟨g, cap, cur, hv, hB, hgc, rest⟩
  · exact .inl h0
  · exact .inr ⟨g, cap, cur, hv, hB, (grownBy_keeps_cells hg hr hgc rfl).trans hgc, rest⟩

/-- Kept lists at Hb; nothing elder has turned. -/
structure HS (w0 w : World) (lab : Nat → Tag) (Hb : Nat) (es : List Ent) : Prop where
  bel : Below w0.heap.size w0 w
  held : Held w w0.heap.size lab Hb 0 es
  small : ∀ (j : Nat) e, es[j]? = some e → e.bytes.length ≤ 4294967296
  low : ∀ k, k < w0.heap.size → lab k = .user 0
section
variable {w0 w w1 W : World} {lab lab' : Nat → Tag} {Hb : Nat} {es : List Ent}
theorem HS.relabel (h : HS w0 w lab Hb es) (hl : ∀ k, k < w.heap.size → lab' k = lab k) : HS w0 w lab' Hb es :=
  ⟨h.bel, h.held.relabel hl, h.small, fun k hk => (hl k (by have := h.bel.size; omega)).trans (h.low k hk)⟩
theorem HS.kept {P : Nat → Prop} (h : HS w0 w lab Hb es) (hk : Kept P w w1) (hP : ∀ k, P k → k < w.heap.size → w0.heap.size ≤ k ∧ ∃ i, lab k = .user i) : HS w0 w1 lab Hb es := by
  have hk2 : Kept (fun k => w0.heap.size ≤ k ∧ ∃ i, lab k = .user i) w w1 := hk.mono (fun k hlt hp => hP k hp hlt)
  exact ⟨h.bel.trans (hk2.below h.bel.size (fun k hk hp => by have := hp.1; omega)), h.held.kept hk2 (fun k hn hp => by obtain ⟨_, i, e⟩ := hp; exact hn i e), h.small, h.low⟩
theorem HS.below (h : HS w0 w lab Hb es) (hb : Below w.heap.size w w1) : HS w0 w1 lab Hb es := h.kept (Kept.ofBelow (P := fun _ => False) hb) (fun _ h => h.elim)
/-- What turns is no row of cells. -/
theorem Held.turned {B n : Nat} {row : Option Nat} (h : Held w B lab Hb n es) (hg : w.grownBy w1 row) (hr : ∀ r, row = some r → ∃ o : Obj, w.heap[r]? = some o ∧ o.isCells = false) : Held w1 B lab Hb n es := by
  obtain ⟨vo, vw, ⟨h1, h2, h3, ⟨h4, h5⟩, ⟨h6, h7⟩⟩, hes⟩ := h
  refine ⟨vo, vw, ⟨(grownBy_keeps_cells hg hr h1 rfl).trans h1, h2, h3, ⟨row_turned h4 hg hr, h5⟩, ⟨row_turned h6 hg hr, h7⟩⟩, fun j e he => ?_⟩
  obtain ⟨⟨q1, q2⟩, ⟨q3, q4⟩⟩ := hes j e he
  exact ⟨⟨q1.turned hg hr, q2⟩, ⟨q3.turned hg hr, q4⟩⟩
theorem HS.turned {row : Option Nat} (h : HS w0 w lab Hb es) (hg : w.grownBy w1 row) (hr : ∀ r, row = some r → w0.heap.size ≤ r ∧ ∃ o : Obj, w.heap[r]? = some o ∧ o.isCells = false) : HS w0 w1 lab Hb es :=
  ⟨h.bel.grown hg h.bel.size (fun k e => (hr k e).1), h.held.turned hg (fun r e => (hr r e).2), h.small, h.low⟩
theorem HS.keep (h : HS w0 w lab Hb es) {a : Option Addr} {c : Nat} {l : List UInt8} (ho : Own w w0.heap.size (.slice a l.length c) l) (ht : Tagged lab (.slice a l.length c) (.out es.length)) (hl : l.length ≤ 4294967296) (he : es.length ≤ 1073741824) :
    Calls Try.prog 19 #[.pointer (some ⟨Hb, 0, none⟩), .slice a l.length c] w fun e w' => e = .returned (.tuple #[]) ∧ ∃ lab' es', HS w0 w' lab' Hb es' ∧ es'.length = es.length + 1 ∧ (∀ k, k < w.heap.size → lab' k = lab k) ∧ Kept (Lists lab) w w' := by
  refine (keep_any w w0.heap.size lab Hb 0 es a c l h.held h.bel.size ho ht (by omega) he).mono ?_
  rintro e w' ⟨rfl, lab', cw, hh, hlb, hk⟩
  refine ⟨rfl, lab', _, ⟨h.bel.trans (hk.below h.bel.size (fun k hk2 hL => ?_)), hh, fun j r hj => ?_, fun k hk2 => (hlb k (by have := h.bel.size; omega)).trans (h.low k hk2)⟩, by simp, hlb, hk⟩
  · unfold Lists at hL
    rw [h.low k hk2] at hL
    simp at hL
  · by_cases hjl : j < es.length
    · rw [List.getElem?_append_left hjl] at hj
      exact h.small j r hj
    · rw [List.getElem?_append_right (by omega)] at hj
      have hm := List.mem_of_getElem? hj
      have h9 : r = ⟨.slice a l.length c, cw, l⟩ := by simpa using hm
      rw [h9]
      exact hl
end
/-- What bears the label of a list is a row of cells. -/
def Clean (lab : Nat → Tag) (W : World) : Prop := ∀ k, Lists lab k → ∃ cs t m, W.heap[k]? = some (.cells cs t m)
theorem Held.relabelC {w : World} {B Hb n : Nat} {lab lab' : Nat → Tag} {es : List Ent} (h : Held w B lab Hb n es) (hl : ∀ k cs t m, w.heap[k]? = some (.cells cs t m) → lab' k = lab k) : Held w B lab' Hb n es := by
  obtain ⟨vo, vw, ⟨h1, h2, h3, ⟨h4, h5⟩, ⟨h6, h7⟩⟩, hes⟩ := h
  have at' : ∀ {B e : Nat} {v : Value} {n : Nat} {xs : List Value}, w.ownsRow B e 1 v n xs → ∀ g, v.ownBlock = some g → lab' g = lab g := fun ho g hg => by
    rcases ho.2 with ⟨rfl, _⟩ | ⟨g', cap, cur, rfl, _, hc, _⟩
    · cases hg
    · cases hg
      exact hl _ _ _ _ hc
  refine ⟨vo, vw, ⟨h1, (hl _ _ _ _ h1).trans h2, h3, ⟨h4, fun g hg => (at' h4 g hg).trans (h5 g hg)⟩, ⟨h6, fun g hg => (at' h6 g hg).trans (h7 g hg)⟩⟩, fun j e he => ?_⟩
  obtain ⟨⟨q1, q2⟩, ⟨q3, q4⟩⟩ := hes j e he
  exact ⟨⟨q1, fun g hg => by rw [at' q1 g hg]; exact q2 g hg⟩, ⟨q3, fun g hg => (at' q3 g hg).trans (q4 g hg)⟩⟩
theorem HS.clean {w0 w : World} {lab : Nat → Tag} {Hb : Nat} {es : List Ent} (h : HS w0 w lab Hb es) : ∃ lab', HS w0 w lab' Hb es ∧ Clean lab' w ∧ (∀ k, Lists lab' k → Lists lab k) ∧ (∀ k cs t m, w.heap[k]? = some (.cells cs t m) → lab' k = lab k) ∧ (∀ k, lab k = .user 0 → lab' k = .user 0) := by
  classical
  obtain ⟨lab', hl⟩ : ∃ lab' : Nat → Tag, lab' = fun k => if ∃ cs t m, w.heap[k]? = some (.cells cs t m) then lab k else .user 0 := ⟨_, rfl⟩
  have e0 : ∀ k cs t m, w.heap[k]? = some (.cells cs t m) → lab' k = lab k := fun k cs t m hk => by rw [hl]; exact if_pos ⟨cs, t, m, hk⟩
  have e1 : ∀ k, (¬ ∃ cs t m, w.heap[k]? = some (.cells cs t m)) → lab' k = .user 0 := fun k hk => by rw [hl]; exact if_neg hk
  have e2 : ∀ k, lab k = .user 0 → lab' k = .user 0 := fun k hk => by
    by_cases hc : ∃ cs t m, w.heap[k]? = some (.cells cs t m)
    · obtain ⟨cs, t, m, hc⟩ := hc
      exact (e0 k _ _ _ hc).trans hk
    · exact e1 k hc
  have e3 : ∀ k, Lists lab' k → (∃ cs t m, w.heap[k]? = some (.cells cs t m)) ∧ Lists lab k := fun k hk => by
    by_cases hc : ∃ cs t m, w.heap[k]? = some (.cells cs t m)
    · refine ⟨hc, ?_⟩
      obtain ⟨cs, t, m, hc⟩ := hc
      unfold Lists at hk ⊢
      rw [e0 k _ _ _ hc] at hk
      exact hk
    · unfold Lists at hk
      rw [e1 k hc] at hk
      simp at hk
  exact ⟨lab', ⟨h.bel, h.held.relabelC e0, h.small, fun k hk => e2 k (h.low k hk)⟩, fun k hk => (e3 k hk).1, fun k hk => (e3 k hk).2, e0, e2⟩
theorem Clean.turned {W W1 : World} {lab : Nat → Tag} {row : Option Nat} (h : Clean lab W) (hg : W.grownBy W1 row) (hr : ∀ r, row = some r → ∃ o : Obj, W.heap[r]? = some o ∧ o.isCells = false) : Clean lab W1 := fun k hk => by
  obtain ⟨cs, t, m, hc⟩ := h k hk
  exact ⟨cs, t, m, (grownBy_keeps_cells hg hr hc rfl).trans hc⟩
/-- Behind some rounds: E lists are kept, n is counted at B15, nothing else has turned since w1. -/
def Rg (w0 w1 : World) (lab1 : Nat → Tag) (Hb B15 E n : Nat) (W : World) : Prop :=
  ∃ lab es, HS w0 W lab Hb es ∧ Clean lab W ∧ (∀ k, k < w1.heap.size → Lists lab k → Lists lab1 k) ∧ (lab B15 = .user 0 ∧ ∀ k, k < w1.heap.size → lab1 k = .user 0 → lab k = .user 0) ∧ es.length = E ∧ Boxed W B15 3 (.int .i64 (n : Int)) ∧ Kept (fun k => Lists lab1 k ∨ k = B15) w1 W
section
variable {w0 w1 W W1 : World} {lab1 : Nat → Tag} {Hb B15 E n : Nat}
theorem Rg.kept0 (h : Rg w0 w1 lab1 Hb B15 E n W) : Kept (fun k => Lists lab1 k ∨ k = B15) w1 W := by
  obtain ⟨_, _, _, _, _, _, _, _, h⟩ := h
  exact h
theorem Rg.count (h : Rg w0 w1 lab1 Hb B15 E n W) : Boxed W B15 3 (.int .i64 (n : Int)) := by
  obtain ⟨_, _, _, _, _, _, _, h, _⟩ := h
  exact h
theorem Rg.turned {row : Option Nat} (h : Rg w0 w1 lab1 Hb B15 E n W) (hz : w0.heap.size ≤ w1.heap.size) (hg : W.grownBy W1 row) (hr : ∀ r, row = some r → w1.heap.size ≤ r ∧ ∃ o : Obj, W.heap[r]? = some o ∧ o.isCells = false) : Rg w0 w1 lab1 Hb B15 E n W1 := by
  obtain ⟨lab, es, h1, hc, h2, hu, h3, h4, h5⟩ := h
  refine ⟨lab, es, h1.turned hg (fun r e => ⟨Nat.le_trans hz (hr r e).1, (hr r e).2⟩), hc.turned hg (fun r e => (hr r e).2), h2, hu, h3, ?_, ?_⟩
  · exact (grownBy_keeps_cells hg (fun r e => (hr r e).2) h4 rfl).trans h4
  · exact h5.step (Kept.ofGrown (P := fun k => w1.heap.size ≤ k) hg (fun g e => (hr g e).1)) (fun j hj h => by omega)
theorem rg_own {β : Type} (e n : β → Nat) {B : Nat} (hz : w0.heap.size ≤ w1.heap.size) (hB : w1.heap.size ≤ B) (G : β → Prop) : OwnFrom B (fun (s : β) W => Rg w0 w1 lab1 Hb B15 (e s) (n s) W ∧ G s) := by
  rintro s A C row ⟨h, hG⟩ hg hr
  exact ⟨h.turned hz hg (fun r e => ⟨Nat.le_trans hB (hr r e).1, (hr r e).2⟩), hG⟩
/-- What is told in a round, as it can be kept: labels anew. A: the world behind the round before. -/
theorem Rg.told {A : World} {row : Option Nat} (h : Rg w0 w1 lab1 Hb B15 E n A) (hz : w0.heap.size ≤ w1.heap.size) (hg : A.grownBy W row) (hr : ∀ r, row = some r → w1.heap.size ≤ r ∧ ∃ o : Obj, A.heap[r]? = some o ∧ o.isCells = false) {v : Value} {l : List UInt8} (ho : Own W A.heap.size v l) :
    ∃ lab es, HS w0 W lab Hb es ∧ Clean lab W ∧ (∀ k, k < w1.heap.size → Lists lab k → Lists lab1 k) ∧ (lab B15 = .user 0 ∧ ∀ k, k < w1.heap.size → lab1 k = .user 0 → lab k = .user 0) ∧ es.length = E ∧ Boxed W B15 3 (.int .i64 (n : Int)) ∧ Kept (fun k => Lists lab1 k ∨ k = B15) w1 W ∧ Own W w0.heap.size v l ∧ Tagged lab v (.out es.length) ∧ ∀ k, A.heap.size ≤ k → v.ownBlock ≠ some k → lab k = .user 0 := by
  classical
  have hT := h.turned hz hg hr
  obtain ⟨lab, es, h1, hc, h2, hu, h3, h4, h5⟩ := h
  obtain ⟨lab2, hl⟩ : ∃ lab2 : Nat → Tag, lab2 = fun k => if k < A.heap.size then lab k else if v.ownBlock = some k then .out es.length else .user 0 := ⟨_, rfl⟩
  have e0 : ∀ k, k < A.heap.size → lab2 k = lab k := fun k hk => by rw [hl]; exact if_pos hk
  have e1 : ∀ k, A.heap.size ≤ k → v.ownBlock = some k → lab2 k = .out es.length := fun k hk hv => by rw [hl]; simp only []; rw [if_neg (by omega), if_pos hv]
  have e2 : ∀ k, A.heap.size ≤ k → v.ownBlock ≠ some k → lab2 k = .user 0 := fun k hk hv => by rw [hl]; simp only []; rw [if_neg (by omega), if_neg hv]
  have e3 : ∀ k, Lists lab2 k → k < A.heap.size ∧ Lists lab k := fun k hk => by
    by_cases hlt : k < A.heap.size
    · refine ⟨hlt, ?_⟩
      unfold Lists at hk ⊢
      rw [e0 k hlt] at hk
      exact hk
    · unfold Lists at hk
      by_cases hv : v.ownBlock = some k
      · rw [e1 k (by omega) hv] at hk
        simp at hk
      · rw [e2 k (by omega) hv] at hk
        simp at hk
  have hc2 : Clean lab2 A := fun k hk => hc k (e3 k hk).2
  refine ⟨lab2, es, (h1.relabel e0).turned hg (fun r e => ⟨Nat.le_trans hz (hr r e).1, (hr r e).2⟩), hc2.turned hg (fun r e => (hr r e).2), fun k hk hL => h2 k hk (e3 k hL).2, ⟨(e0 B15 h4.lt).trans hu.1, fun k hk h => (e0 k (Nat.lt_of_lt_of_le hk h5.size)).trans (hu.2 k hk h)⟩, h3, hT.count, hT.kept0, ho.mono (by have := h1.bel.size; omega), fun g hg => e1 g (ho.lt g hg).1 hg, e2⟩
end
theorem Kept.boxed {P : Nat → Prop} {w w1 : World} {B t : Nat} {v : Value} (h : Kept P w w1) (hb : Boxed w B t v) (hP : ¬ P B) : Boxed w1 B t v := (h.block B hb.lt hP).trans hb
theorem keepsFrom_of {lab : Nat → Tag} {W W1 : World} {b t : Nat} {u : Value} (B : Nat) (hc : Clean lab W) (hb : Boxed W b t u) (hk : Kept (fun k => Lists lab k ∨ k = b) W W1) : KeepsFrom B W W1 :=
  ⟨hk.size, fun i o _ hi ho => (hk.block i (Array.getElem?_eq_some_iff.1 hi).1 (fun hL => by
    rcases hL with hL | rfl
    · obtain ⟨cs, t, m, hc⟩ := hc i hL
      rw [hc] at hi
      cases hi
      cases ho
    · rw [show W.heap[i]? = _ from hb] at hi
      cases hi
      cases ho)).trans hi⟩
/-- One more is kept, and counted. -/
theorem rg_push {w0 w1 W w' : World} {lab1 lab lab' : Nat → Tag} {Hb B15 E n : Nat} {es' : List Ent} (hs' : HS w0 w' lab' Hb es') (hl' : ∀ k, k < W.heap.size → lab' k = lab k) (hk : Kept (Lists lab) W w') (h2 : ∀ k, k < w1.heap.size → Lists lab k → Lists lab1 k) (hu : lab B15 = .user 0 ∧ ∀ k, k < w1.heap.size → lab1 k = .user 0 → lab k = .user 0) (hE : es'.length = E) (hb : Boxed W B15 3 (.int .i64 (n : Int))) (h5 : Kept (fun k => Lists lab1 k ∨ k = B15) w1 W) (hz : w0.heap.size ≤ B15) :
    Boxed w' B15 3 (.int .i64 (n : Int)) ∧ ∀ n' : Nat, Rg w0 w1 lab1 Hb B15 E n' (w'.setCell ⟨B15, 0, none⟩ (.int .i64 (n' : Int))) ∧ Kept (fun k => Lists lab k ∨ k = B15) W (w'.setCell ⟨B15, 0, none⟩ (.int .i64 (n' : Int))) := by
  have nb : ¬ Lists lab B15 := fun hL => by unfold Lists at hL; rw [hu.1] at hL; simp at hL
  have b' := hk.boxed hb nb
  obtain ⟨lab2, hs2, hc2, hL2, hcell, huser⟩ := hs'.clean
  have u2 : lab2 B15 = .user 0 := huser _ ((hl' B15 hb.lt).trans hu.1)
  refine ⟨b', fun n' => ?_⟩
  have ks : Kept (fun k => k = B15) w' (w'.setCell ⟨B15, 0, none⟩ (.int .i64 (n' : Int))) := Kept.setCell _ _ _ _ _ rfl
  have kk : Kept (fun k => Lists lab k ∨ k = B15) W (w'.setCell ⟨B15, 0, none⟩ (.int .i64 (n' : Int))) := (hk.mono (fun k _ h => .inl h)).step ks (fun j _ h => .inr h)
  refine ⟨⟨lab2, es', hs2.kept ks (fun k e _ => by rw [e]; exact ⟨hz, 0, u2⟩), fun k hL => ?_, fun k hk1 hL => ?_, ⟨u2, fun k hk1 h => huser _ ((hl' k (Nat.lt_of_lt_of_le hk1 h5.size)).trans (hu.2 k hk1 h))⟩, hE, b'.set _, h5.step kk (fun j hj h => ?_)⟩, kk⟩
  · obtain ⟨cs, t, m, hc⟩ := hc2 k hL
    have hne : k ≠ B15 := fun e => by rw [e] at hL; unfold Lists at hL; rw [u2] at hL; simp at hL
    exact ⟨cs, t, m, (ks.block k (Array.getElem?_eq_some_iff.1 hc).1 hne).trans hc⟩
  · have h3 := hL2 k hL
    have hlt : k < W.heap.size := Nat.lt_of_lt_of_le hk1 h5.size
    refine h2 k hk1 ?_
    unfold Lists at h3 ⊢
    rw [hl' k hlt] at h3
    exact h3
  · rcases h with h | h
    · exact .inl (h2 j hj h)
    · exact .inr h
theorem Rg.recount {w0 w1 W : World} {lab1 : Nat → Tag} {Hb B15 E n : Nat} (h : Rg w0 w1 lab1 Hb B15 E n W) (hz : w0.heap.size ≤ B15) (n' : Nat) : Rg w0 w1 lab1 Hb B15 E n' (W.setCell ⟨B15, 0, none⟩ (.int .i64 (n' : Int))) := by
  obtain ⟨lab, es, h1, hc, h2, hu, h3, h4, h5⟩ := h
  have ks : Kept (fun k => k = B15) W (W.setCell ⟨B15, 0, none⟩ (.int .i64 (n' : Int))) := Kept.setCell _ _ _ _ _ rfl
  refine ⟨lab, es, h1.kept ks (fun k e _ => by rw [e]; exact ⟨hz, 0, hu.1⟩), fun k hL => ?_, h2, hu, h3, h4.set _, h5.step ks (fun j _ h => .inr h)⟩
  obtain ⟨cs, t, m, hc⟩ := hc k hL
  have hne : k ≠ B15 := fun e => by rw [e] at hL; unfold Lists at hL; rw [hu.1] at hL; simp at hL
  exact ⟨cs, t, m, (ks.block k (Array.getElem?_eq_some_iff.1 hc).1 hne).trans hc⟩
theorem Kept.ownG {P : Nat → Prop} {w w1 : World} {B e s : Nat} {v : Value} {n : Nat} {xs : List Value} (h : Kept P w w1) (ho : w.ownsRow B e s v n xs) (hP : ∀ g, v.ownBlock = some g → ¬ P g) : w1.ownsRow B e s v n xs := by
  refine ⟨ho.1, ?_⟩
  rcases ho.2 with h0 | ⟨g, cap, cur, rfl, hB, hg, rest⟩
  · exact .inl h0
  · exact .inr ⟨g, cap, cur, rfl, hB, (h.block g (Array.getElem?_eq_some_iff.1 hg).1 (hP g rfl)).trans hg, rest⟩
abbrev seqV (Bf Bk : Nat) : Value := .func (.func 41) #[] #[.pointer (some ⟨Bf, 0, none⟩), .pointer (some ⟨Bk, 0, none⟩)]
/-- What stays through the ranges, as it lay in w1. -/
structure GC (w0 w1 : World) (lab1 : Nat → Tag) (B7 B13 B15 lo hi Bf Bk Hb : Nat) (vw : Value) (ys : List Given) (most f : Int) (l : List UInt8) : Prop where
  z : w0.heap.size ≤ B7
  b7 : Boxed w1 B7 37 vw
  b8 : Boxed w1 (B7 + 1) 3 (.int .i64 most)
  b9 : Boxed w1 (B7 + 1 + 1) 41 (.pointer (some ⟨Hb, 0, none⟩))
  b10 : Boxed w1 (B7 + 1 + 1 + 1) 4 (.bool false)
  b13 : Boxed w1 B13 59 (seqV Bf Bk)
  all : AllH w1 lo hi Bf Bk f l
  ones : OnesAt w1 w0.heap.size vw ys
  lab : ∀ k, B7 ≤ k → k < w1.heap.size → lab1 k = .user 0
  labO : (∀ k, vw.ownBlock = some k → lab1 k = .user 0 ∧ k < B7) ∧ ∀ y ∈ ys, ∀ k, y.2.1.ownBlock = some k → lab1 k = .user 0 ∧ k < B7
  ord : B7 + 3 < lo ∧ lo ≤ hi ∧ hi ≤ B13 ∧ B13 < B15 ∧ B15 < w1.heap.size
section
variable {w0 w1 W : World} {lab1 : Nat → Tag} {B7 B13 B15 lo hi Bf Bk Hb : Nat} {vw : Value} {ys : List Given} {most f : Int} {l : List UInt8}
theorem GC.not (h : GC w0 w1 lab1 B7 B13 B15 lo hi Bf Bk Hb vw ys most f l) {k : Nat} (h1 : B7 ≤ k) (h2 : k < w1.heap.size) (h3 : k ≠ B15) : ¬ (Lists lab1 k ∨ k = B15) := by
  rintro (hL | e)
  · unfold Lists at hL
    rw [h.lab k h1 h2] at hL
    simp at hL
  · exact h3 e
theorem GC.at (h : GC w0 w1 lab1 B7 B13 B15 lo hi Bf Bk Hb vw ys most f l) (hk : Kept (fun k => Lists lab1 k ∨ k = B15) w1 W) :
    Boxed W B7 37 vw ∧ Boxed W (B7 + 1) 3 (.int .i64 most) ∧ Boxed W (B7 + 1 + 1) 41 (.pointer (some ⟨Hb, 0, none⟩)) ∧ Boxed W (B7 + 1 + 1 + 1) 4 (.bool false) ∧ Boxed W B13 59 (seqV Bf Bk) ∧ AllH W lo hi Bf Bk f l ∧ OnesAt W w0.heap.size vw ys := by
  have ho := h.ord
  have n0 : ∀ k, lab1 k = .user 0 ∧ k < B7 → ¬ (Lists lab1 k ∨ k = B15) := fun k hv => by
    rintro (hL | e)
    · unfold Lists at hL
      rw [hv.1] at hL
      simp at hL
    · have := hv.2
      omega
  have b7 := h.b7.lt
  have b8 := h.b8.lt
  have b9 := h.b9.lt
  have b10 := h.b10.lt
  have b13 := h.b13.lt
  refine ⟨hk.boxed h.b7 (h.not (Nat.le_refl _) b7 (by omega)), hk.boxed h.b8 (h.not (by omega) b8 (by omega)), hk.boxed h.b9 (h.not (by omega) b9 (by omega)), hk.boxed h.b10 (h.not (by omega) b10 (by omega)), hk.boxed h.b13 (h.not (by omega) b13 (by omega)), h.all.stay (fun k h1 h2 => hk.block k (by omega) (h.not (by omega) (by omega) (by omega))) hk.size, hk.ownG h.ones.1 (fun g hg => n0 g (h.labO.1 g hg)), fun y hy => hk.Own (h.ones.2 y hy) (fun g hg => n0 g (h.labO.2 y hy g hg))⟩
end
end Go.Proofs.Ytibcfbajjnpbfaa
