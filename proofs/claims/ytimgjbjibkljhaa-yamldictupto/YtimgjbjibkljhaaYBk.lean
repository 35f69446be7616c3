/-
  Layer 9: the book of the statements, with what belongs to the statement itself beside it.
-/
import Derived.Test.YtimgjbjibkljhaaYWrite
namespace Go.Proofs.Ytimgjbjibkljhaa
open Go.RowKit

/-- The book in the world W; us: blocks that nobody writes into. -/
structure Bk (w : World) (us : List (Nat × Obj)) (f : Nat) (lab : Nat → Tag) (Hb : Nat) (es : List Ent) (M : Nat) (W : World) : Prop where
  held : Held (.int .i64 (f : Int)) W w.heap.size lab Hb f 1000 es
  below : Below w.heap.size w W
  low : ∀ k, k < w.heap.size → lab k = .user 0
  usr : ∀ p ∈ us, W.heap[p.1]? = some p.2 ∧ lab p.1 = .user 0
  fle : f ≤ es.length
  few : es.length ≤ 900
  small : ∀ (j : Nat) e, es[j]? = some e → e.bytes.length ≤ M
section
variable {w W W1 W2 : World} {us : List (Nat × Obj)} {f : Nat} {lab : Nat → Tag} {Hb : Nat} {es : List Ent} {M : Nat}
theorem Bk.later (h : Bk w us f lab Hb es M W) (hb : Below W.heap.size W W1) : Bk w us f lab Hb es M W1 :=
  ⟨h.held.below hb, h.below.trans (hb.mono h.below.size), h.low, fun p hp => ⟨(hb.block p.1 (Array.getElem?_eq_some_iff.1 (h.usr p hp).1).1).trans (h.usr p hp).1, (h.usr p hp).2⟩, h.fle, h.few, h.small⟩
theorem Bk.relabel (h : Bk w us f lab Hb es M W) {lab' : Nat → Tag} (hl : ∀ k, k < W.heap.size → lab' k = lab k) : Bk w us f lab' Hb es M W :=
  ⟨h.held.relabel hl, h.below, fun k hk => (hl k (by have := h.below.size; omega)).trans (h.low k hk), fun p hp => ⟨(h.usr p hp).1, (hl p.1 (Array.getElem?_eq_some_iff.1 (h.usr p hp).1).1).trans (h.usr p hp).2⟩, h.fle, h.few, h.small⟩
theorem Bk.start (w : World) (us : List (Nat × Obj)) (M : Nat) (W : World) (hb : Below w.heap.size w W) (hu : ∀ p ∈ us, W.heap[p.1]? = some p.2) : Bk w us 0 (fun k => if k = W.heap.size then .box else .user 0) W.heap.size [] M (W.alloc (.cells #[.slice none 0 0, .slice none 0 0, .int .i64 0] 28)) := by
  have hs := hb.size
  refine ⟨Held.start W w.heap.size _ 0 1000 hs (by simp), hb.alloc hs _, fun k hk => ?_, fun p hp => ?_, by simp, by simp, fun j e he => by simp at he⟩
  · exact if_neg (by omega)
  · have hlt := (Array.getElem?_eq_some_iff.1 (hu p hp)).1
    refine ⟨(((Below.refl _ W).alloc (Nat.le_refl _) _).block p.1 hlt).trans (hu p hp), ?_⟩
    exact if_neg (by omega)
/-- Blocks that were made since are nobody's but ours. -/
theorem Bk.more (h : Bk w us f lab Hb es M W) (hb : Below W.heap.size W W1) {vs : List (Nat × Obj)} (hv : ∀ p ∈ vs, W1.heap[p.1]? = some p.2 ∧ W.heap.size ≤ p.1) : Bk w (vs ++ us) f (fun k => if k < W.heap.size then lab k else .user 0) Hb es M W1 := by
  have h2 := (h.relabel (lab' := fun k => if k < W.heap.size then lab k else .user 0) (fun k hk => by simp [hk])).later hb
  refine ⟨h2.held, h2.below, h2.low, fun p hp => ?_, h2.fle, h2.few, h2.small⟩
  rcases List.mem_append.1 hp with hp | hp
  · obtain ⟨e1, e2⟩ := hv p hp
    refine ⟨e1, ?_⟩
    exact if_neg (by omega)
  · exact h2.usr p hp
/-- Our own blocks may turn: what is ours is told anew. -/
theorem Bk.turn (h : Bk w us f lab Hb es M W) {P : Nat → Prop} (hk : Kept P W W1) (hP : ∀ k, P k → lab k = .user 0 ∧ w.heap.size ≤ k) {vs : List (Nat × Obj)} (hv : ∀ p ∈ vs, W1.heap[p.1]? = some p.2 ∧ lab p.1 = .user 0) : Bk w vs f lab Hb es M W1 :=
  ⟨h.held.kept hk (fun k hn hp => hn 0 (hP k hp).1), h.below.trans (hk.below h.below.size (fun k hk2 hp => by have := (hP k hp).2; omega)), h.low, hv, h.fle, h.few, h.small⟩
/-- Bytes that were made in a call (W to W1) are laid by, later. -/
theorem Bk.keep (h : Bk w us f lab Hb es M W) (b1 : Below W.heap.size W W1) (b2 : Below W1.heap.size W1 W2) {a : Option Addr} {c : Nat} {l : List UInt8} (ho : Own W1 W.heap.size (.slice a l.length c) l) (hl : l.length ≤ M) (hM : M ≤ 4294967296) (he : es.length ≤ 899) :
    Calls Try.prog 30 #[.pointer (some ⟨Hb, 0, none⟩), .slice a l.length c] W2 fun e w' => e = .returned (.tuple #[]) ∧ ∃ lab' cw, Bk w us f lab' Hb (es ++ [⟨.slice a l.length c, cw, l⟩]) M w' ∧ Kept (fun k => lab k ≠ .user 0 ∧ k < W.heap.size) W2 w' := by
  obtain ⟨lab2, hlab2⟩ : ∃ lab2 : Nat → Tag, lab2 = fun k => if k < W.heap.size then lab k else if k < W1.heap.size then .out es.length else .user 0 := ⟨_, rfl⟩
  have e0 : ∀ k, k < W.heap.size → lab2 k = lab k := fun k hk => by rw [hlab2]; simp [hk]
  have e1 : ∀ k, W.heap.size ≤ k → k < W1.heap.size → lab2 k = .out es.length := fun k hk hk2 => by rw [hlab2]; show (if k < W.heap.size then lab k else if k < W1.heap.size then Tag.out es.length else Tag.user 0) = _; rw [if_neg (by omega), if_pos hk2]
  have e2 : ∀ k, W1.heap.size ≤ k → lab2 k = .user 0 := fun k hk => by have := b1.size; rw [hlab2]; show (if k < W.heap.size then lab k else if k < W1.heap.size then Tag.out es.length else Tag.user 0) = _; rw [if_neg (by omega), if_neg (by omega)]
  have b3 := b1.trans (b2.mono b1.size)
  have h2 := (h.relabel e0).later b3
  clear hlab2
  have nl : ∀ k, lab2 k = .user 0 → ¬ Lists lab2 k := fun k e hk => by
    rcases hk with hk | hk | hk <;> rw [e] at hk <;> simp at hk
  refine (keep_any W2 w.heap.size lab2 Hb f 1000 es a c l h2.held h2.below.size ((ho.below b2).mono h.below.size) (fun g hg => e1 g (ho.lt g hg).1 (ho.lt g hg).2) (by omega) (by omega)).mono ?_
  rintro e w' ⟨rfl, lab', cw, hh, hlb, hk⟩
  refine ⟨rfl, lab', cw, ⟨hh, h2.below.trans (hk.below h2.below.size (fun k hk2 => nl k (h2.low k hk2))), fun k hk2 => ?_, fun p hp => ⟨(hk.block p.1 (Array.getElem?_eq_some_iff.1 (h2.usr p hp).1).1 (nl _ (h2.usr p hp).2)).trans (h2.usr p hp).1, ?_⟩, ?_, ?_, ?_⟩, hk.mono (fun k _ hL => ?_)⟩
  · rw [hlb k (by have := h2.below.size; omega)]
    exact h2.low k hk2
  · rw [hlb p.1 (Array.getElem?_eq_some_iff.1 (h2.usr p hp).1).1]
    exact (h2.usr p hp).2
  · have := h.fle
    simp
    omega
  · simp
    omega
  · intro j r hj
    by_cases hjl : j < es.length
    · rw [List.getElem?_append_left hjl] at hj
      exact h.small j r hj
    · rw [List.getElem?_append_right (by omega)] at hj
      have hm := List.mem_of_getElem? hj
      have h9 : r = ⟨.slice a l.length c, cw, l⟩ := by simpa using hm
      rw [h9]
      exact hl
  · by_cases hkW : k < W.heap.size
    · refine ⟨fun e => nl k (by rw [e0 k hkW]; exact e) hL, hkW⟩
    · by_cases hk1 : k < W1.heap.size
      · have := e1 k (by omega) hk1
        rcases hL with h | h | h <;> rw [this] at h <;> simp at h
      · exact absurd hL (nl k (e2 k (by omega)))
theorem Bk.holds (h : Bk w us f lab Hb es M W) : Calls Try.prog 32 #[.pointer (some ⟨Hb, 0, none⟩)] W fun e w' => e = .returned (.bool true) ∧ Bk w us f lab Hb es M w' ∧ Below W.heap.size W w' := by
  refine (holds_any W w.heap.size lab Hb f 1000 es h.held).mono ?_
  rintro e w' ⟨rfl, m, rfl⟩
  exact ⟨rfl, h.later (below_drewM _ W m), below_drewM _ W m⟩
theorem Bk.write (h : Bk w us f lab Hb es M W) (hM : M ≤ 4294967296) (he : es.length ≤ 400) :
    Calls Try.prog 12 #[.pointer (some ⟨Hb, 0, none⟩)] W fun e w' => e = .returned (.bool true) ∧ ∃ f' lab' es', Bk w us f' lab' Hb es' (M + 70) w' ∧ es'.length = es.length + (es.length - f) := by
  have hf := h.few
  refine (write_any W w.heap.size lab Hb f M es (h.held.toLen (by omega) es.length) h.fle h.below.size (by omega) hM h.small).mono ?_
  rintro e w' ⟨rfl, hk, lab', es', hh, hle, hsm, hlb⟩
  have nl : ∀ k, lab k = .user 0 → ¬ NotUser lab k := fun k e hn => hn 0 e
  refine ⟨rfl, es'.length, lab', es', ⟨hh.toLen (Nat.le_refl _) 1000, h.below.trans (hk.below h.below.size (fun k hk2 => nl k (h.low k hk2))), fun k hk2 => ?_, fun p hp => ⟨(hk.block p.1 (Array.getElem?_eq_some_iff.1 (h.usr p hp).1).1 (nl _ (h.usr p hp).2)).trans (h.usr p hp).1, ?_⟩, Nat.le_refl _, by omega, hsm⟩, hle⟩
  · rw [hlb k (by have := h.below.size; omega)]
    exact h.low k hk2
  · rw [hlb p.1 (Array.getElem?_eq_some_iff.1 (h.usr p hp).1).1]
    exact (h.usr p hp).2
end
end Go.Proofs.Ytimgjbjibkljhaa
