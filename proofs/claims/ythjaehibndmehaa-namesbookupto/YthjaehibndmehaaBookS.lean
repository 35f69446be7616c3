/-
  Two pairs of books and the lists that were handed out, side by side.
-/
import Derived.Test.YthjaehibndmehaaRangesW
import Derived.Test.YthjaehibndmehaaTSpoil
namespace Go.Proofs.Ythjaehibndmehaa
open Go.RowKit

/-- A book, and the document's. -/
structure Pp where
  b : Nat
  mb : Nat
  n : Nat
  db : Nat
  lv : Value
  S : List RowT
  g : Text → Option Int
def Pp.at (p : Pp) (w0 w : World) (k : Nat) : Prop := Pair w0 w p.b p.mb p.n p.db p.lv p.S p.g k
def Pp.mine (p : Pp) (j : Nat) : Prop := j = p.b ∨ j = p.mb ∨ MineR p.db p.lv j
theorem Pp.lt {p : Pp} {w0 w : World} {k j : Nat} (h : p.at w0 w k) (hj : p.mine j) : j < w.heap.size ∧ w0.heap.size ≤ j := by
  rcases hj with rfl | rfl | hj
  · exact ⟨cell_lt h.q.q.cell, h.q.hb⟩
  · exact ⟨h.q.q.tab.lt, h.q.hm⟩
  · refine ⟨?_, h.low j hj⟩
    rcases hj with rfl | e
    · exact (Array.getElem?_eq_some_iff.1 h.d.box).1
    · obtain ⟨cur, hc, _⟩ := h.d.block e
      exact (Array.getElem?_eq_some_iff.1 hc).1
theorem Pp.kept {p : Pp} {w0 w w' : World} {k : Nat} {P : Nat → Prop} (h : p.at w0 w k) (K : Kept P w w') (hP : ∀ j, P j → j < w.heap.size → w0.heap.size ≤ j ∧ ¬ p.mine j) : p.at w0 w' k := by
  have K2 : Kept (fun j => w0.heap.size ≤ j ∧ ¬ p.mine j) w w' := K.mono (fun j hj e => hP j e hj)
  exact Pair.keptU h K2 (fun j e => ⟨e.1, fun e2 => e.2 (.inl e2), fun e2 => e.2 (.inr (.inl e2)), fun e2 => e.2 (.inr (.inr e2))⟩)
/-- What a step leaves: nothing of nobody's has turned, labels stay. -/
structure Mv (lab : Nat → Tag) (W : World) (lab' : Nat → Tag) (W' : World) : Prop where
  kept : Kept (fun j => lab j ≠ .user 0) W W'
  same : ∀ j, j < W.heap.size → lab' j = lab j
theorem Mv.refl (lab : Nat → Tag) (W : World) : Mv lab W lab W := ⟨Kept.refl _ _, fun _ _ => rfl⟩
theorem Mv.trans {lab lab' lab'' : Nat → Tag} {W W' W'' : World} (h : Mv lab W lab' W') (k : Mv lab' W' lab'' W'') : Mv lab W lab'' W'' :=
  ⟨h.kept.step k.kept (fun j hj e => by rw [h.same j hj] at e; exact e), fun j hj => (k.same j (Nat.lt_of_lt_of_le hj h.kept.size)).trans (h.same j hj)⟩
theorem Mv.later {lab : Nat → Tag} {W W' : World} (hb : Below W.heap.size W W') : Mv lab W lab W' := ⟨Kept.ofBelow hb, fun _ _ => rfl⟩
/-- All of it. -/
structure BS (w0 W : World) (lab : Nat → Tag) (Hb sz : Nat) (es : List Ent) (P Q : Pp) (k M i1 i2 : Nat) : Prop where
  bel : Below w0.heap.size w0 W
  held : Held W w0.heap.size lab Hb (.int .i64 (sz : Int)) (okA 0) es
  small : ∀ (j : Nat) e, es[j]? = some e → e.bytes.length ≤ M
  low : ∀ j, j < w0.heap.size → lab j = .user 0
  pP : P.at w0 W k
  lP : ∀ j, P.mine j → lab j = .user i1
  pQ : Q.at w0 W k
  lQ : ∀ j, Q.mine j → lab j = .user i2
  ne : i1 ≠ i2 ∧ i1 ≠ 0 ∧ i2 ≠ 0
section
variable {w0 W W' : World} {lab lab' : Nat → Tag} {Hb sz : Nat} {es : List Ent} {P Q : Pp} {k M i1 i2 : Nat}
theorem BS.swap (h : BS w0 W lab Hb sz es P Q k M i1 i2) : BS w0 W lab Hb sz es Q P k M i2 i1 := ⟨h.bel, h.held, h.small, h.low, h.pQ, h.lQ, h.pP, h.lP, fun e => h.ne.1 e.symm, h.ne.2.2, h.ne.2.1⟩
theorem BS.relabel (h : BS w0 W lab Hb sz es P Q k M i1 i2) (hl : ∀ j, j < W.heap.size → lab' j = lab j) : BS w0 W lab' Hb sz es P Q k M i1 i2 :=
  ⟨h.bel, h.held.relabel hl, h.small, fun j hj => (hl j (by have := h.bel.size; omega)).trans (h.low j hj), h.pP, fun j hj => (hl j (Pp.lt h.pP hj).1).trans (h.lP j hj), h.pQ, fun j hj => (hl j (Pp.lt h.pQ hj).1).trans (h.lQ j hj), h.ne⟩
theorem BS.later (h : BS w0 W lab Hb sz es P Q k M i1 i2) (hb : Below W.heap.size W W') : BS w0 W' lab Hb sz es P Q k M i1 i2 :=
  ⟨h.bel.trans (hb.mono h.bel.size), h.held.below hb, h.small, h.low, Pair.later h.pP hb, h.lP, Pair.later h.pQ hb, h.lQ, h.ne⟩
theorem BS.weak (h : BS w0 W lab Hb sz es P Q k M i1 i2) {k' : Nat} (hk : k ≤ k') : BS w0 W lab Hb sz es P Q k' M i1 i2 :=
  ⟨h.bel, h.held, h.small, h.low, Pair.weak h.pP hk, h.lP, Pair.weak h.pQ hk, h.lQ, h.ne⟩
/-- Something of nobody's has turned. -/
theorem BS.nobody (h : BS w0 W lab Hb sz es P Q k M i1 i2) {R : Nat → Prop} (hk : Kept R W W') (hR : ∀ j, R j → j < W.heap.size → w0.heap.size ≤ j ∧ lab j = .user 0) : BS w0 W' lab Hb sz es P Q k M i1 i2 := by
  have K2 : Kept (fun j => w0.heap.size ≤ j ∧ lab j = .user 0) W W' := hk.mono (fun j hj e => hR j e hj)
  refine ⟨h.bel.trans (K2.below h.bel.size (fun j hj e => by have := e.1; omega)), h.held.kept K2 (fun j hn e => hn 0 e.2), h.small, h.low, Pp.kept h.pP K2 (fun j e _ => ⟨e.1, fun hm => ?_⟩), h.lP, Pp.kept h.pQ K2 (fun j e _ => ⟨e.1, fun hm => ?_⟩), h.lQ, h.ne⟩
  · have := h.lP j hm
    rw [e.2] at this
    simp at this
    exact h.ne.2.1 this.symm
  · have := h.lQ j hm
    rw [e.2] at this
    simp at this
    exact h.ne.2.2 this.symm
/-- The first pair has turned. -/
theorem BS.turn (h : BS w0 W lab Hb sz es P Q k M i1 i2) (P' : Pp) (hp : P'.at w0 W' (k + 1)) (hb : P'.b = P.b) (hm : P'.mb = P.mb) (hmi : ∀ j, MineR P'.db P'.lv j → MineR P.db P.lv j ∨ W.heap.size ≤ j) (hk : Kept (fun j => j = P.mb ∨ MineR P.db P.lv j) W W') :
    ∃ lab', BS w0 W' lab' Hb sz es P' Q (k + 1) M i1 i2 ∧ Mv lab W lab' W' := by
  classical
  obtain ⟨lab', hl⟩ : ∃ lab' : Nat → Tag, lab' = fun j => if j < W.heap.size then lab j else if MineR P'.db P'.lv j then .user i1 else .user 0 := ⟨_, rfl⟩
  have e0 : ∀ j, j < W.heap.size → lab' j = lab j := fun j hj => by rw [hl]; exact if_pos hj
  have e1 : ∀ j, W.heap.size ≤ j → MineR P'.db P'.lv j → lab' j = .user i1 := fun j hj hM => by rw [hl]; simp only []; rw [if_neg (by omega), if_pos hM]
  have g := h.relabel e0
  have hR : ∀ j, j = P.mb ∨ MineR P.db P.lv j → lab' j = .user i1 ∧ w0.heap.size ≤ j := fun j e => ⟨g.lP j (.inr e), (Pp.lt g.pP (.inr e)).2⟩
  refine ⟨lab', ⟨g.bel.trans (hk.below g.bel.size (fun j hj e => by have := (hR j e).2; omega)), g.held.kept hk (fun j hn e => hn i1 (hR j e).1), g.small, g.low, hp, fun j hj => ?_, Pair.weak (Pp.kept g.pQ hk (fun j e _ => ⟨(hR j e).2, fun hm2 => ?_⟩)) (by omega), g.lQ, g.ne⟩, ⟨hk.mono (fun j hj e => ?_), e0⟩⟩
  · rcases hj with e | e | e
    · exact g.lP j (.inl (e.trans hb))
    · exact g.lP j (.inr (.inl (e.trans hm)))
    · rcases hmi j e with e2 | e2
      · exact g.lP j (.inr (.inr e2))
      · exact e1 j e2 e
  · have h1 := g.lQ j hm2
    rw [(hR j e).1] at h1
    simp at h1
    exact g.ne.1 h1
  · rw [← e0 j hj, (hR j e).1]
    simp
    exact g.ne.2.1
/-- The second pair is a clone of the first one now. -/
theorem BS.clone (h : BS w0 W lab Hb sz es P Q k M i1 i2) (Q' : Pp) (hq : Q'.at w0 W' k) (hb : Below W.heap.size W W') (hn : ∀ j, Q'.mine j → W.heap.size ≤ j) :
    ∃ lab', BS w0 W' lab' Hb sz es P Q' k M i1 i2 ∧ Mv lab W lab' W' := by
  classical
  obtain ⟨lab', hl⟩ : ∃ lab' : Nat → Tag, lab' = fun j => if j < W.heap.size then lab j else if Q'.mine j then .user i2 else .user 0 := ⟨_, rfl⟩
  have e0 : ∀ j, j < W.heap.size → lab' j = lab j := fun j hj => by rw [hl]; exact if_pos hj
  have g := (h.relabel e0).later hb
  exact ⟨lab', ⟨g.bel, g.held, g.small, g.low, g.pP, g.lP, hq, fun j hj => by have := hn j hj; rw [hl]; simp only []; rw [if_neg (by omega), if_pos hj], g.ne⟩, ⟨Kept.ofBelow hb, e0⟩⟩
/-- A list that was made since is kept. -/
theorem BS.keep (h : BS w0 W lab Hb sz es P Q k M i1 i2) {a : Option Addr} {c : Nat} {l : List ByteArray} (ho : OwnS W w0.heap.size (.slice a l.length c) l) (ht : Tagged lab (.slice a l.length c) (.out es.length)) (hl : l.length ≤ M) (hM : M ≤ 1073741824) (he : es.length ≤ 1073741824) (hsz : sz ≤ 1099511627776) :
    Calls Try.prog 33 #[.pointer (some ⟨Hb, 0, none⟩), .slice a l.length c] W fun e w' => e = .returned (.tuple #[]) ∧ ∃ lab' es', BS w0 w' lab' Hb (sz + l.length) es' P Q k M i1 i2 ∧ es'.length = es.length + 1 ∧ Mv lab W lab' w' ∧ Kept (Lists lab) W w' := by
  refine (keep_any W w0.heap.size lab Hb sz (okA 0) es a c l h.held h.bel.size ho ht (.inr rfl) (by omega) he (by omega)).mono ?_
  rintro e w' ⟨rfl, lab', cw, hh, hlb, hk⟩
  have nL : ∀ j i, Lists lab j → lab j ≠ .user i := fun j i hL e => by unfold Lists at hL; rw [e] at hL; simp at hL
  have g := h.relabel hlb
  refine ⟨rfl, lab', _, ⟨h.bel.trans (hk.below h.bel.size (fun j hj hL => nL j 0 hL (h.low j hj))), hh, fun j r hj => ?_, g.low, Pp.kept h.pP hk (fun j hL hlt => ⟨?_, fun hm => nL j i1 hL (h.lP j hm)⟩), g.lP, Pp.kept h.pQ hk (fun j hL hlt => ⟨?_, fun hm => nL j i2 hL (h.lQ j hm)⟩), g.lQ, h.ne⟩, by simp, ⟨hk.mono (fun j _ hL => nL j 0 hL), hlb⟩, hk⟩
  · by_cases hjl : j < es.length
    · rw [List.getElem?_append_left hjl] at hj
      exact h.small j r hj
    · rw [List.getElem?_append_right (by omega)] at hj
      have hm := List.mem_of_getElem? hj
      have h9 : r = ⟨.slice a l.length c, cw, l⟩ := by simpa using hm
      rw [h9]
      exact hl
  · by_cases hz : w0.heap.size ≤ j
    · exact hz
    · exact absurd (h.low j (by omega)) (nL j 0 hL)
  · by_cases hz : w0.heap.size ≤ j
    · exact hz
    · exact absurd (h.low j (by omega)) (nL j 0 hL)
set_option maxHeartbeats 2000000 in
set_option maxRecDepth 1000000 in
theorem BS.over (h : BS w0 W lab Hb sz es P Q k M i1 i2) (he : es.length ≤ 16777216) (hM : M ≤ 1073741824) :
    Calls Try.prog 34 #[.pointer (some ⟨Hb, 0, none⟩)] W fun e w' => e = .returned (.bool true) ∧ ∃ lab', BS w0 w' lab' Hb 0 [] P Q k M i1 i2 ∧ Mv lab W lab' w' := by
  have HH := hide h
  have CS := hide (spoil_any W w0.heap.size lab Hb M (.int .i64 (sz : Int)) es h.held h.bel.size he hM h.small)
  clear h
  go_enter Try.func34, Try.ntmps34
  go_wp2_with fail
  refine CS.out.mono ?_
  rintro e w1 ⟨rfl, lab1, fs, hh, hl, hk⟩
  obtain ⟨vo, vw, hr, _⟩ := hh
  obtain ⟨s1, _⟩ := set_cells hr.1 0 (.slice none 0 0)
  obtain ⟨s2, _⟩ := set_cells s1 1 (.slice none 0 0)
  obtain ⟨s3, _⟩ := set_cells s2 2 (.int .i64 0)
  have H1 := hide (And.intro hr (And.intro hl hk))
  have k0 : w1.cell? ⟨Hb, 0, none⟩ = some vo := by simp [World.cell?, hr.1]
  have k1 : (w1.setCell ⟨Hb, 0, none⟩ (.slice none 0 0)).cell? ⟨Hb, 1, none⟩ = some vw := by simp [World.cell?, s1]
  have k2 : ((w1.setCell ⟨Hb, 0, none⟩ (.slice none 0 0)).setCell ⟨Hb, 1, none⟩ (.slice none 0 0)).cell? ⟨Hb, 2, none⟩ = some (.int .i64 (sz : Int)) := by simp [World.cell?, s2]
  have f0 : w1.frozen? ⟨Hb, 0, none⟩ = false := hr.frozen 0
  have f1 : (w1.setCell ⟨Hb, 0, none⟩ (.slice none 0 0)).frozen? ⟨Hb, 1, none⟩ = false := by simp [World.frozen?, s1]
  have f2 : ((w1.setCell ⟨Hb, 0, none⟩ (.slice none 0 0)).setCell ⟨Hb, 1, none⟩ (.slice none 0 0)).frozen? ⟨Hb, 2, none⟩ = false := by simp [World.frozen?, s2]
  have hlt := hr.lt
  have hlt1 := (Array.getElem?_eq_some_iff.1 s1).1
  have hlt2 := (Array.getElem?_eq_some_iff.1 s2).1
  have HS3 := hide s3
  clear hr hl hk s1 s2 s3
  go_wp2_with fail
  go_ret
  obtain ⟨W3, hW3⟩ : ∃ W3, W3 = ((w1.setCell ⟨Hb, 0, none⟩ (.slice none 0 0)).setCell ⟨Hb, 1, none⟩ (.slice none 0 0)).setCell ⟨Hb, 2, none⟩ (.int .i64 0) := ⟨_, rfl⟩
  have ks : Kept (fun j => j = Hb) w1 W3 := by
    rw [hW3]
    exact ((Kept.setCell (fun j => j = Hb) _ _ _ _ rfl).trans (Kept.setCell (fun j => j = Hb) _ _ _ _ rfl)).trans (Kept.setCell (fun j => j = Hb) _ _ _ _ rfl)
  rw [← hW3]
  have hs3 := HS3.out
  rw [← hW3] at hs3
  obtain ⟨hr, hl, hk⟩ := H1.out
  have h := HH.out
  have kk : Kept (NotUser lab) W W3 := hk.step ks (fun j hj e i e2 => by
    have h1 := hr.2.1
    rw [← e, hl j hj, e2] at h1
    simp at h1)
  have g := h.relabel hl
  have nt : ∀ t, Tagged lab1 (.slice none 0 0) t := fun _ g h => by cases h
  refine ⟨rfl, lab1, ⟨h.bel.trans (kk.below h.bel.size (fun j hj e => e 0 (h.low j hj))), ⟨.slice none 0 0, .slice none 0 0, ⟨by simpa using hs3, hr.2.1, hr.2.2.1, ⟨World.ownsRow_nil _ _ _ _, nt _⟩, ⟨World.ownsRow_nil _ _ _ _, nt _⟩⟩, fun j e he => by simp at he⟩, fun j e he => by simp at he, g.low, Pp.kept h.pP kk (fun j e hlt => ⟨?_, fun hm => e i1 (h.lP j hm)⟩), g.lP, Pp.kept h.pQ kk (fun j e hlt => ⟨?_, fun hm => e i2 (h.lQ j hm)⟩), g.lQ, h.ne⟩, ⟨kk.mono (fun j _ e => e 0), hl⟩⟩
  · by_cases hz : w0.heap.size ≤ j
    · exact hz
    · exact absurd (h.low j (by omega)) (e 0)
  · by_cases hz : w0.heap.size ≤ j
    · exact hz
    · exact absurd (h.low j (by omega)) (e 0)
end
end Go.Proofs.Ythjaehibndmehaa
