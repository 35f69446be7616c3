/-
  Layer 13: the book of the statements, with what belongs to the statement itself beside it.
-/
import Derived.Test.YthapbnlcodkalaaDoorBSpoil
import Derived.Test.YthapbnlcodkalaaDoorRefDict
namespace Go.Proofs.YthapbnlcodkalaaDoor
open Go.RowKit Go.Sort

/-- The book in the world W; us: blocks that nobody writes into. -/
structure Bk (w : World) (us : List (Nat × Obj)) (fv : Value) (n : Nat) (lab : Nat → Tag) (Hb : Nat) (es : List Ent) (W : World) : Prop where
  held : Held fv W w.heap.size lab Hb n es
  below : Below w.heap.size w W
  low : ∀ k, k < w.heap.size → lab k = .user 0
  usr : ∀ p ∈ us, W.heap[p.1]? = some p.2 ∧ lab p.1 = .user 0
/-- It reads so wherever the blocks of us are. -/
def Wn (us : List (Nat × Obj)) (a : Option Addr) (c : Nat) (l : List UInt8) : Prop := ∀ X : World, (∀ p ∈ us, X.heap[p.1]? = some p.2) → IsBytes X a c l

theorem IsBytes.blk {w w' : World} {a : Option Addr} {c : Nat} {l : List UInt8} (h : IsBytes w a c l) (hb : ∀ b o, a = some ⟨b, o, none⟩ → b < w.heap.size → w'.heap[b]? = w.heap[b]?) : IsBytes w' a c l := by
  obtain ⟨h1, h2, h3⟩ := h
  refine ⟨h1, h2, ?_⟩
  rcases h3 with h3 | ⟨b, o, rfl, hlt, hc⟩
  · exact .inl h3
  · have e := hb b o rfl hlt
    refine .inr ⟨b, o, rfl, ?_, fun j x hx => (World.cell?_of_block e).trans (hc j x hx)⟩
    have : w.heap[b]? = some w.heap[b] := Array.getElem?_eq_getElem hlt
    rw [this] at e
    exact (Array.getElem?_eq_some_iff.1 e).1
theorem Wn.ofNew {W W' : World} {a : Option Addr} {c : Nat} {l : List UInt8} (h : NewB W W' a c l) : ∃ us, Wn us a c l ∧ ∀ p ∈ us, W'.heap[p.1]? = some p.2 ∧ W.heap.size ≤ p.1 := by
  by_cases hl : l = []
  · exact ⟨[], fun X _ => ⟨h.1.1, h.1.2.1, .inl hl⟩, fun p hp => by cases hp⟩
  · obtain ⟨b, o, rfl, hlt, hc⟩ := h.1.2.2.resolve_left hl
    have hb : W'.heap[b]? = some W'.heap[b] := Array.getElem?_eq_getElem hlt
    refine ⟨[(b, W'.heap[b])], fun X hX => h.1.blk (fun b2 o2 e _ => ?_), fun p hp => ?_⟩
    · cases e
      rw [hb]
      exact hX (b, W'.heap[b]) (by simp)
    · obtain rfl : p = (b, W'.heap[b]) := by simpa using hp
      exact ⟨hb, h.2 b o rfl⟩
section
variable {w W W1 W2 : World} {us : List (Nat × Obj)} {fv : Value} {n : Nat} {lab : Nat → Tag} {Hb : Nat} {es : List Ent}
theorem Bk.later (h : Bk w us fv n lab Hb es W) (hb : Below W.heap.size W W1) : Bk w us fv n lab Hb es W1 :=
  ⟨h.held.below hb, h.below.trans (hb.mono h.below.size), h.low, fun p hp => ⟨(hb.block p.1 (Array.getElem?_eq_some_iff.1 (h.usr p hp).1).1).trans (h.usr p hp).1, (h.usr p hp).2⟩⟩
/-- What is made from here on may bear other tags. -/
theorem Bk.relabel (h : Bk w us fv n lab Hb es W) {lab' : Nat → Tag} (hl : ∀ k, k < W.heap.size → lab' k = lab k) : Bk w us fv n lab' Hb es W :=
  ⟨h.held.relabel hl, h.below, fun k hk => (hl k (by have := h.below.size; omega)).trans (h.low k hk), fun p hp => ⟨(h.usr p hp).1, (hl p.1 (Array.getElem?_eq_some_iff.1 (h.usr p hp).1).1).trans (h.usr p hp).2⟩⟩
theorem Bk.start (w : World) (us : List (Nat × Obj)) (W : World) (fv : Value) (hb : Below w.heap.size w W) (hu : ∀ p ∈ us, W.heap[p.1]? = some p.2) : Bk w us fv 0 (fun k => if k = W.heap.size then .box else .user 0) W.heap.size [] (W.alloc (.cells #[.slice none 0 0, .slice none 0 0, fv] 31)) := by
  have hs := hb.size
  refine ⟨Held.start W w.heap.size _ hs (by simp), hb.alloc hs _, fun k hk => ?_, fun p hp => ?_⟩
  · exact if_neg (by omega)
  · have hlt := (Array.getElem?_eq_some_iff.1 (hu p hp)).1
    refine ⟨(((Below.refl _ W).alloc (Nat.le_refl _) _).block p.1 hlt).trans (hu p hp), ?_⟩
    exact if_neg (by omega)
/-- Blocks that were made since are nobody's but ours. -/
theorem Bk.more (h : Bk w us fv n lab Hb es W) (hb : Below W.heap.size W W1) {vs : List (Nat × Obj)} (hv : ∀ p ∈ vs, W1.heap[p.1]? = some p.2 ∧ W.heap.size ≤ p.1) : Bk w (vs ++ us) fv n (fun k => if k < W.heap.size then lab k else .user 0) Hb es W1 := by
  have h2 := (h.relabel (lab' := fun k => if k < W.heap.size then lab k else .user 0) (fun k hk => by simp [hk])).later hb
  refine ⟨h2.held, h2.below, h2.low, fun p hp => ?_⟩
  rcases List.mem_append.1 hp with hp | hp
  · obtain ⟨e1, e2⟩ := hv p hp
    refine ⟨e1, ?_⟩
    exact if_neg (by omega)
  · exact h2.usr p hp
/-- Bytes that were made in a call (W to W1) are laid by; then (W1 to W2) what they must read as may have been made. -/
theorem Bk.keep (h : Bk w us fv n lab Hb es W) (b1 : Below W.heap.size W W1) (b2 : Below W1.heap.size W1 W2) {a a' : Option Addr} {c c' : Nat} {l : List UInt8} (ho : Own W1 W.heap.size (.slice a l.length c) l)
    (hw : Wn us a' c' l ∨ NewB W1 W2 a' c' l) (hl : l.length ≤ 140737488355328) (he : es.length ≤ 1073741824) :
    Calls Tryd.prog 9 #[.pointer (some ⟨Hb, 0, none⟩), .slice a l.length c, .slice a' l.length c'] W2 fun e w' => e = .returned (.bool true) ∧ ∃ lab' cw, Bk w us fv n lab' Hb (es ++ [⟨.slice a l.length c, cw, l⟩]) w' := by
  obtain ⟨lab2, hlab2⟩ : ∃ lab2 : Nat → Tag, lab2 = fun k => if k < W.heap.size then lab k else if k < W1.heap.size then .out es.length else .user 0 := ⟨_, rfl⟩
  have e0 : ∀ k, k < W.heap.size → lab2 k = lab k := fun k hk => by rw [hlab2]; simp [hk]
  have e1 : ∀ k, W.heap.size ≤ k → k < W1.heap.size → lab2 k = .out es.length := fun k hk hk2 => by rw [hlab2]; simp only []; rw [if_neg (by omega), if_pos hk2]
  have e2 : ∀ k, W1.heap.size ≤ k → lab2 k = .user 0 := fun k hk => by have := b1.size; rw [hlab2]; simp only []; rw [if_neg (by omega), if_neg (by omega)]
  have b3 := b1.trans (b2.mono b1.size)
  have h2 := (h.relabel e0).later b3
  clear hlab2
  have nl : ∀ k, lab2 k = .user 0 → ¬ Lists lab2 k := fun k e hk => by
    rcases hk with hk | hk | hk <;> rw [e] at hk <;> simp at hk
  have st : ∀ X, Kept (Lists lab2) W2 X → ∀ p ∈ us, X.heap[p.1]? = some p.2 := fun X hX p hp => (hX.block p.1 (Array.getElem?_eq_some_iff.1 (h2.usr p hp).1).1 (nl _ (h2.usr p hp).2)).trans (h2.usr p hp).1
  refine (keep_any (fv := fv) W2 w.heap.size lab2 Hb n es a c l h2.held h2.below.size a' c' (fun X hX => ?_) ((ho.below b2).mono h.below.size) (fun g hg => e1 g (ho.lt g hg).1 (ho.lt g hg).2) hl he).mono ?_
  · rcases hw with hw | hw
    · exact hw X (st X hX)
    · exact hw.1.blk (fun b o e hlt => hX.block b hlt (nl b (e2 b (hw.2 b o e))))
  · rintro e w' ⟨rfl, lab', cw, hh, hlb, hk⟩
    refine ⟨rfl, lab', cw, hh, h2.below.trans (hk.below h2.below.size (fun k hk2 => nl k (h2.low k hk2))), fun k hk2 => ?_, fun p hp => ⟨st w' hk p hp, ?_⟩⟩
    · rw [hlb k (by have := h2.below.size; omega)]
      exact h2.low k hk2
    · rw [hlb p.1 (Array.getElem?_eq_some_iff.1 (h2.usr p hp).1).1]
      exact (h2.usr p hp).2
theorem Bk.spoil (h : Bk w us (.int .i64 0) 0 lab Hb es W) (hn : es.length ≤ 65536) (hlen : ∀ (j : Nat) e, es[j]? = some e → e.bytes.length ≤ 4294967296) :
    Calls Tryd.prog 11 #[.pointer (some ⟨Hb, 0, none⟩)] W fun e w' => e = .returned (.bool true) ∧ ∃ fv' n' lab' es', Bk w us fv' n' lab' Hb es' w' ∧ es'.length = es.length + es.length := by
  refine (spoil_any W w.heap.size lab Hb es h.held h.below.size hn hlen).mono ?_
  rintro e w' ⟨rfl, hk, fv', lab', n', es', hh, hle, hlb⟩
  have nl : ∀ k, lab k = .user 0 → ¬ NotUser lab k := fun k e hn => hn 0 e
  refine ⟨rfl, fv', n', lab', es', ⟨hh, h.below.trans (hk.below h.below.size (fun k hk2 => nl k (h.low k hk2))), fun k hk2 => ?_, fun p hp => ⟨(hk.block p.1 (Array.getElem?_eq_some_iff.1 (h.usr p hp).1).1 (nl _ (h.usr p hp).2)).trans (h.usr p hp).1, ?_⟩⟩, hle⟩
  · rw [hlb k (by have := h.below.size; omega)]
    exact h.low k hk2
  · rw [hlb p.1 (Array.getElem?_eq_some_iff.1 (h.usr p hp).1).1]
    exact (h.usr p hp).2
end
end Go.Proofs.YthapbnlcodkalaaDoor
