/-
  In the midst of SeatsTurns.
-/
import Derived.Test.YtogmobkkpmpdcaaSTurn1
import Derived.Test.YtogmobkkpmpdcaaBase
namespace Go.Proofs.Ytogmobkkpmpdcaa
open Go.RowKit
theorem Nums.sd {W W' : World} {B : Nat} {v : Value} {l : List Int} (h : Nums W B v l) (hs : Sd W W') : Nums W' B v l := by
  refine ⟨h.1, ?_⟩
  rcases h.2 with h0 | ⟨g, cap, cur, hv, hB, hg, rest⟩
  · exact .inl h0
  · exact .inr ⟨g, cap, cur, hv, hB, (hs.row g cur hg).trans hg, rest⟩
/-- Connections, those that wait as a list of numbers, and that list. -/
structure Lp (w : World) (B sb : Nat) (L : List Int) (N : Nat) (v : Value) (W : World) : Prop where
  bel : Below w.heap.size w W
  base : w.heap.size ≤ B
  le : B ≤ W.heap.size
  tn : ∃ S, Tn B W sb S L N
  row : Nums W B v L
theorem Lp.mono {w : World} {B sb : Nat} {L : List Int} {N M : Nat} {v : Value} {W : World} (h : Lp w B sb L N v W) (hM : N ≤ M) : Lp w B sb L M v W := by
  obtain ⟨S, hs⟩ := h.tn
  exact ⟨h.bel, h.base, h.le, ⟨S, hs.mono hM⟩, h.row⟩
theorem Lp.later {w : World} {B sb : Nat} {L : List Int} {N : Nat} {v : Value} {W W' : World} (h : Lp w B sb L N v W) (hb : Below W.heap.size W W') : Lp w B sb L N v W' := by
  obtain ⟨S, hs⟩ := h.tn
  exact ⟨h.bel.trans (hb.mono h.bel.size), h.base, Nat.le_trans h.le hb.size, ⟨S, hs.later hb⟩, h.row.below hb⟩
theorem Lp.did {w : World} {B sb : Nat} {L : List Int} {N N' : Nat} {v : Value} {W W' : World} (h : Lp w B sb L N v W) {S' : Sx} (hs : Tn B W' sb S' L N') (hb : Below B W W') (hd : Sd W W') : Lp w B sb L N' v W' :=
  ⟨h.bel.trans (hb.mono h.base), h.base, Nat.le_trans h.le hd.size, ⟨S', hs⟩, h.row.sd hd⟩
/-- One more at the list's end: the row grew. -/
theorem grow_kept {W W3 : World} {o : Obj} {row : Option Nat} (hg : (W.alloc o).grownBy W3 row) : Kept (fun k => row = some k) W W3 :=
  ⟨hg.os, hg.tape, hg.output, Nat.le_trans (by simp) hg.size, fun k hk hn => (hg.block k (by simp; omega) (fun e => hn e.symm)).trans (Below.heap_alloc W o k hk)⟩
theorem Nums.apart {W : World} {B : Nat} {v : Value} {l : List Int} (h : Nums W B v l) : ∀ k, k < W.heap.size → v.ownBlock = some k → ∃ c, W.heap[k]? = some (.cells c 3 (0, 0)) := fun k _ e => by
  obtain ⟨c, hc, _⟩ := h.block e
  exact ⟨c, hc⟩
/-- A list grows that is not of the connections: they stay. -/
theorem Lp.grown {w : World} {B sb : Nat} {L : List Int} {N : Nat} {v : Value} {W W3 : World} (h : Lp w B sb L N v W) {P : Nat → Prop} (hk : Kept P W W3) (hP : ∀ k, k < W.heap.size → P k → ∃ c, W.heap[k]? = some (.cells c 3 (0, 0))) (hl : ∀ k, P k → B ≤ k) :
    Below w.heap.size w W3 ∧ B ≤ W3.heap.size ∧ ∃ S, Tn B W3 sb S L N := by
  obtain ⟨S, hs⟩ := h.tn
  have h1 := h.base
  have h2 := h.le
  exact ⟨h.bel.trans (hk.below h.bel.size (fun k hk hp => by have := hl k hp; omega)), Nat.le_trans h2 hk.size, S, hs.ints hk hP⟩
/-- A list without numbers. -/
theorem nums_new (W : World) (B : Nat) (hB : B ≤ W.heap.size) : Nums (W.alloc (.cells #[] 3)) B (.slice (some ⟨W.heap.size, 0, none⟩) 0 0) [] := by
  refine ⟨rfl, .inr ⟨W.heap.size, 0, #[], rfl, hB, heap_alloc_new W _, Nat.le_refl _, by decide, by simp, by simp [ints]⟩⟩
/-- Where one more is laid. -/
structure More (w : World) (B sb : Nat) (L : List Int) (N : Nat) (M : List Int) (v : Value) (W : World) : Prop where
  bel : Below w.heap.size w W
  base : w.heap.size ≤ B
  le : B ≤ W.heap.size
  tn : ∃ S, Tn B W sb S L N
  row : Nums W B v M
theorem More.done {w : World} {B sb : Nat} {L : List Int} {N : Nat} {v : Value} {W : World} (h : More w B sb L N L v W) : Lp w B sb L N v W := ⟨h.bel, h.base, h.le, h.tn, h.row⟩
theorem More.next {w : World} {B sb : Nat} {L : List Int} {N : Nat} {M : List Int} {v v' : Value} {W W3 : World} {x : Int} (h : More w B sb L N M v W) (hg : (W.alloc (.cells #[.int .i64 x] 3)).grownBy W3 v.ownBlock) (ho : W3.ownsRow B 3 1 v' (M.length + 1) (ints M ++ [.int .i64 x])) : More w B sb L N (M ++ [x]) v' W3 := by
  obtain ⟨S, hs⟩ := h.tn
  have hk := grow_kept hg
  have hl : ∀ k, v.ownBlock = some k → B ≤ k := fun k e => (World.ownsRow.lt h.row k e).1
  have h1 := h.base
  refine ⟨h.bel.trans (hk.below h.bel.size (fun k hk hp => by have := hl k hp; omega)), h.base, Nat.le_trans h.le hk.size, ⟨S, hs.ints hk (fun k hlt e => h.row.apart k hlt e)⟩, ?_⟩
  show World.ownsRow _ _ _ _ _ _ _
  rw [ints_append, List.length_append]
  exact ho
/-- The list, and another one that is being made. -/
structure Two (w : World) (B sb : Nat) (L : List Int) (N : Nat) (v : Value) (B2 : Nat) (M : List Int) (v' : Value) (W : World) : Prop where
  lp : Lp w B sb L N v W
  low : ∀ k, v.ownBlock = some k → k < B2
  up : B ≤ B2
  le : B2 ≤ W.heap.size
  row : Nums W B2 v' M
theorem Two.start {w : World} {B sb : Nat} {L : List Int} {N : Nat} {v : Value} {W : World} (h : Lp w B sb L N v W) : Two w B sb L N v W.heap.size [] (.slice (some ⟨W.heap.size, 0, none⟩) 0 0) (W.alloc (.cells #[] 3)) := by
  have hb : Below W.heap.size W (W.alloc (.cells #[] 3)) := (Below.refl _ W).alloc (Nat.le_refl _) _
  exact ⟨h.later hb, fun k e => (World.ownsRow.lt h.row k e).2, h.le, hb.size, nums_new W _ (Nat.le_refl _)⟩
theorem Two.later {w : World} {B sb : Nat} {L : List Int} {N : Nat} {v : Value} {B2 : Nat} {M : List Int} {v' : Value} {W W' : World} (h : Two w B sb L N v B2 M v' W) (hb : Below W.heap.size W W') : Two w B sb L N v B2 M v' W' :=
  ⟨h.lp.later hb, h.low, h.up, Nat.le_trans h.le hb.size, h.row.below hb⟩
theorem Two.next {w : World} {B sb : Nat} {L : List Int} {N : Nat} {v : Value} {B2 : Nat} {M : List Int} {v' v8 : Value} {W W3 : World} {x : Int} (h : Two w B sb L N v B2 M v' W) (hg : (W.alloc (.cells #[.int .i64 x] 3)).grownBy W3 v'.ownBlock) (ho : W3.ownsRow B2 3 1 v8 (M.length + 1) (ints M ++ [.int .i64 x])) : Two w B sb L N v B2 (M ++ [x]) v8 W3 := by
  obtain ⟨S, hs⟩ := h.lp.tn
  have hk := grow_kept hg
  have hl : ∀ k, v'.ownBlock = some k → B2 ≤ k := fun k e => (World.ownsRow.lt h.row k e).1
  have h1 := h.lp.base
  have h2 := h.up
  refine ⟨⟨h.lp.bel.trans (hk.below h.lp.bel.size (fun k hk hp => by have := hl k hp; omega)), h1, Nat.le_trans h.lp.le hk.size, ⟨S, hs.ints hk (fun k hlt e => h.row.apart k hlt e)⟩, hk.own h.lp.row (fun g e hp => by have := h.low g e; have := hl g hp; omega)⟩, h.low, h.up, Nat.le_trans h.le hk.size, ?_⟩
  show World.ownsRow _ _ _ _ _ _ _
  rw [ints_append, List.length_append]
  exact ho
/-- The other list takes its place. -/
theorem Two.turn {w : World} {B sb : Nat} {L : List Int} {N N' : Nat} {v : Value} {B2 : Nat} {M : List Int} {v' : Value} {W W' : World} (h : Two w B sb L N v B2 M v' W) {S' : Sx} (hs : Tn B W' sb S' M N') (hb : Below B W W') (hd : Sd W W') : Lp w B sb M N' v' W' := by
  refine ⟨h.lp.bel.trans (hb.mono h.lp.base), h.lp.base, Nat.le_trans h.lp.le hd.size, ⟨S', hs⟩, ?_⟩
  have h3 := h.row.sd hd
  refine ⟨h3.1, ?_⟩
  rcases h3.2 with h0 | ⟨g, cap, cur, hv, hB, rest⟩
  · exact .inl h0
  · exact .inr ⟨g, cap, cur, hv, Nat.le_trans h.up hB, rest⟩
theorem filter_less {L : List Int} {n : Int} : (L.filter (fun m => m != n)).length < L.length ↔ n ∈ L := by
  constructor
  · intro h
    by_cases hm : n ∈ L
    · exact hm
    · rw [none_left hm] at h; omega
  · intro hm
    refine Nat.lt_of_le_of_ne (List.length_filter_le _ _) (fun e => ?_)
    have h1 := (List.length_filter_eq_length_iff.1 e) n hm
    simp at h1
theorem nums_at {w W : World} {a : Option Addr} {c : Nat} {l : List Int} (h : IsInts w a c l) (hb : Below w.heap.size w W) {k : Nat} (hk : k < l.length) : ∃ (b o : Nat) (x : Int), a = some ⟨b, o, none⟩ ∧ (Lit.int .i64 x).wf = true ∧ W.cell? ⟨b, o + k, none⟩ = some (.int .i64 x) ∧ b < w.heap.size := by
  rcases h.2.2.2 with rfl | ⟨b, o, rfl, hlt, hc⟩
  · cases hk
  · obtain ⟨x, hx⟩ : ∃ x, l[k]? = some x := ⟨_, List.getElem?_eq_getElem hk⟩
    exact ⟨b, o, x, rfl, h.2.2.1 x (List.mem_of_getElem? hx), (hb.cell (p := ⟨b, o + k, none⟩) hlt).trans (hc k x hx), hlt⟩
end Go.Proofs.Ytogmobkkpmpdcaa
