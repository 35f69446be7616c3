/-
  The desk: keep, write, next.
-/
import Derived.Test.YtcgpfhkndbggiaaDeskK
import Derived.Test.YtcgpfhkndbggiaaAlike
namespace Go.Proofs.Ytcgpfhkndbggiaa
open Go.RowKit

section
variable {w W W1 : World} {lab lab' : Nat → Tag} {Db f : Nat} {es : List Ent} {L : List Pr} {va vb vl : Value} {R : List UInt8} {M T i : Nat} {p : Pr}
/-- The book has changed, nothing else. -/
theorem DeskAt.book (h : DeskAt w lab Db f es L va vb vl R M T W) {P : Nat → Prop} (hk : Kept P W W1) (hP : ∀ k, P k → ∀ j, lab k ≠ .user j) (hl : ∀ k, k < W.heap.size → lab' k = lab k) {f' : Nat} {es' : List Ent} {M' : Nat} (hh : Held ⟨va, vb, .int .i64 (f' : Int), vl⟩ W1 w.heap.size lab' Db f' NB es') (hf : f' ≤ es'.length) (hs : ∀ (j : Nat) e, es'[j]? = some e → e.bytes.length ≤ M') :
    DeskAt w lab' Db f' es' L va vb vl R M' T W1 := by
  have g := h.relabel hl
  have nu : ∀ k j, lab' k = .user j → k < W.heap.size → ¬ P k := fun k j e hlt hp => hP k hp j (by rw [← hl k hlt]; exact e)
  refine ⟨hh, h.below.trans (hk.below h.below.size (fun k hk2 hp => hP k hp 0 (h.low k hk2))), g.low, ⟨hk.own g.rowA.1 (fun q hq => nu q 1 (g.rowA.2 q hq) (g.rowA.1.lt q hq).2), g.rowA.2⟩, ⟨hk.own g.rowB.1 (fun q hq => nu q 2 (g.rowB.2 q hq) (g.rowB.1.lt q hq).2), g.rowB.2⟩, ⟨hk.OwnX g.lent.1 (fun q hq => nu q 3 (g.lent.2 q hq) (g.lent.1.lt q hq).2), g.lent.2⟩, fun i p hp => ?_, hf, hs⟩
  have gp := g.each i p hp
  exact ⟨gp.inA.kept hk (fun k hm => nu k _ (gp.mineA k hm).2 (gp.inA.lt k hm)), gp.fit, gp.most, gp.mineA, gp.inB.kept hk (fun k hm => nu k _ (gp.mineB k hm).2 (gp.inB.lt k hm)), gp.mineB, gp.len⟩
theorem DeskAt.keep (h : DeskAt w lab Db f es L va vb vl R M T W) {a : Option Addr} {c : Nat} {l : List UInt8} (ho : Own W w.heap.size (.slice a l.length c) l) (ht : Tagged lab (.slice a l.length c) (.out es.length)) (hl : l.length ≤ M) (hM : M ≤ 4294967296) (he : es.length ≤ 16777216) :
    Calls Try.prog 35 #[.pointer (some ⟨Db, 2, none⟩), .slice a l.length c] W fun e w' => e = .returned (.tuple #[]) ∧ ∃ lab' es', DeskAt w lab' Db f es' L va vb vl R M T w' ∧ es'.length = es.length + 1 ∧ Kept (Lists lab) W w' ∧ ∀ k, k < W.heap.size → lab' k = lab k := by
  refine (keep_any W w.heap.size lab Db f NB es a c l h.held h.below.size ho ht (by omega) (by omega)).mono ?_
  rintro e w' ⟨rfl, lab', cw, hh, hlb, hk⟩
  refine ⟨rfl, lab', _, h.book hk (fun k hL j e => ?_) hlb hh ?_ (fun j r hj => ?_), by simp, hk, hlb⟩
  · rcases hL with h1 | h1 | h1 <;> rw [h1] at e <;> simp at e
  · have := h.fle
    simp
    omega
  · by_cases hjl : j < es.length
    · rw [List.getElem?_append_left hjl] at hj
      exact h.small j r hj
    · rw [List.getElem?_append_right (by omega)] at hj
      have hm := List.mem_of_getElem? hj
      have h9 : r = ⟨.slice a l.length c, cw, l⟩ := by simpa using hm
      rw [h9]
      exact hl
theorem DeskAt.write (h : DeskAt w lab Db f es L va vb vl R M T W) (hM : M ≤ 4294967296) (he : es.length ≤ 16777216) :
    Calls Try.prog 16 #[.pointer (some ⟨Db, 2, none⟩)] W fun e w' => e = .returned (.bool true) ∧ ∃ lab' es', DeskAt w lab' Db es'.length es' L va vb vl R (M + 40) T w' ∧ es'.length = es.length + (es.length - f) := by
  have hh : Held ((⟨va, vb, .int .i64 0, vl⟩ : Bx).at (.int .i64 (f : Int))) W w.heap.size lab Db f es.length es := h.held.toLen (by show _ ≤ 100000000; omega) es.length
  refine (write_any W w.heap.size lab Db f M es hh h.fle h.below.size he hM h.small).mono ?_
  rintro e w' ⟨rfl, hk, lab', es', hh, hle, hsm, hlb⟩
  exact ⟨rfl, lab', es', h.book hk (fun k hn j e => hn j e) hlb (hh.toLen (Nat.le_refl _) NB) (Nat.le_refl _) hsm, hle⟩
/-- Which block is the intake's. -/
theorem DeskAt.ptrA (h : DeskAt w lab Db f es L va vb vl R M T W) (hi : L[i]? = some p) : ∃ g c, va = .slice (some ⟨g, 0, none⟩) L.length c ∧ W.cell? ⟨g, i, none⟩ = some (.pointer (some ⟨p.ib, 0, none⟩)) := by
  have hil := (List.getElem?_eq_some_iff.1 hi).1
  obtain ⟨a, c, rfl, _, _, hx⟩ := row_shape h.rowA.1
  obtain ⟨g, rfl, _, hc⟩ := hx (by omega)
  exact ⟨g, c, rfl, hc i _ (by simp [pA, hi])⟩
theorem DeskAt.ptrB (h : DeskAt w lab Db f es L va vb vl R M T W) (hi : L[i]? = some p) : ∃ g c, vb = .slice (some ⟨g, 0, none⟩) L.length c ∧ W.cell? ⟨g, i, none⟩ = some (.pointer (some ⟨p.rb, 0, none⟩)) := by
  have hil := (List.getElem?_eq_some_iff.1 hi).1
  obtain ⟨a, c, rfl, _, _, hx⟩ := row_shape h.rowB.1
  obtain ⟨g, rfl, _, hc⟩ := hx (by omega)
  exact ⟨g, c, rfl, hc i _ (by simp [pB, hi])⟩
end
/-- The desk, told by its numbers alone: N intakes, Q of entries (those that are fresh twice), bodies of M bytes at most, T bytes held at most. -/
def DK (w : World) (Db N Q M T : Nat) (W : World) : Prop := ∃ lab f es L va vb vl R, DeskAt w lab Db f es L va vb vl R M T W ∧ (∀ (i : Nat) p, L[i]? = some p → p.s = p.t) ∧ L.length = N ∧ es.length + (es.length - f) ≤ Q
theorem DK.later {w W W1 : World} {Db N Q M T : Nat} (h : DK w Db N Q M T W) (hb : Below W.heap.size W W1) : DK w Db N Q M T W1 := by
  obtain ⟨lab, f, es, L, va, vb, vl, R, hd, rest⟩ := h
  exact ⟨lab, f, es, L, va, vb, vl, R, hd.later hb, rest⟩
theorem DK.below {w W : World} {Db N Q M T : Nat} (h : DK w Db N Q M T W) : Below w.heap.size w W := by
  obtain ⟨lab, f, es, L, va, vb, vl, R, hd, rest⟩ := h
  exact hd.below
theorem DK.mono {w W : World} {Db N Q M T Q' M' T' : Nat} (h : DK w Db N Q M T W) (hQ : Q ≤ Q') (hM : M ≤ M') (hT : T ≤ T') : DK w Db N Q' M' T' W := by
  obtain ⟨lab, f, es, L, va, vb, vl, R, hd, h1, h2, h3⟩ := h
  refine ⟨lab, f, es, L, va, vb, vl, R, ⟨hd.held, hd.below, hd.low, hd.rowA, hd.rowB, hd.lent, fun i p hp => ?_, hd.fle, fun j e he => Nat.le_trans (hd.small j e he) hM⟩, h1, h2, Nat.le_trans h3 hQ⟩
  have g := hd.each i p hp
  exact ⟨g.inA, g.fit, g.most, g.mineA, g.inB, g.mineB, Nat.le_trans g.len hT⟩
theorem DK.write {w W : World} {Db N Q M T : Nat} (h : DK w Db N Q M T W) (hM : M ≤ 4294967296) (hQ : Q ≤ 16777216) :
    Calls Try.prog 16 #[.pointer (some ⟨Db, 2, none⟩)] W fun e w' => e = .returned (.bool true) ∧ DK w Db N Q (M + 40) T w' := by
  obtain ⟨lab, f, es, L, va, vb, vl, R, hd, h1, h2, h3⟩ := h
  refine (hd.write hM (by omega)).mono ?_
  rintro e w' ⟨rfl, lab', es', hd', hle⟩
  exact ⟨rfl, lab', es'.length, es', L, va, vb, vl, R, hd', h1, h2, by omega⟩
theorem DK.holds {w W : World} {Db N Q M T : Nat} (h : DK w Db N Q M T W) :
    Calls Try.prog 12 #[.pointer (some ⟨Db, 2, none⟩)] W fun e w' => e = .returned (.bool true) ∧ DK w Db N Q M T w' := by
  have h0 := h
  obtain ⟨lab, f, es, L, va, vb, vl, R, hd, h1, h2, h3⟩ := h
  refine (holds_any W w.heap.size lab Db f NB es hd.held).mono ?_
  rintro e w' ⟨rfl, m, rfl⟩
  exact ⟨rfl, h0.later (below_drewN (Below.refl _ _) m)⟩
end Go.Proofs.Ytcgpfhkndbggiaa
