/-
  What the walk of 'ranges' holds on to.
-/
import Derived.Test.YthjaehibndmehaaLateKit
namespace Go.Proofs.Ythjaehibndmehaa
open Go.RowKit

/-- Under way in 'ranges': the boxes, the wanted rows, both books behind k turns. -/
structure RSt (w0 w : World) (b mb db : Nat) (lv0 : Value) (s : ByteArray) (x : Int) (b3 b4 b5 b6 b7 b8 b9 cb : Nat) (k : Nat) (v : Value) (T : List RowT) (m : Int) (n : Nat) (lv : Value) (S : List RowT) (g : Text → Option Int) (W : World) : Prop where
  pr : Pair w0 W b mb n db lv S g k
  mine : ∀ j, MineR db lv j → MineR db lv0 j ∨ w.heap.size ≤ j
  ap : ∀ j, v.ownBlock = some j → ¬ MineR db lv j
  kept : Kept (fun j => j = mb ∨ MineR db lv0 j) w W
  h3 : W.heap[b3]? = some (.cells #[.pointer (some ⟨b, 0, none⟩), .pointer (some ⟨db, 0, none⟩)] 30 (0, 0))
  h4 : W.heap[b4]? = some (.cells #[.string s] 9 (0, 0))
  h5 : W.heap[b5]? = some (.cells #[.int .i64 x] 3 (0, 0))
  h6 : W.heap[b6]? = some (.cells #[.bool false] 4 (0, 0))
  h7 : W.heap[b7]? = some (.cells #[allV cb] 41 (0, 0))
  h8 : W.heap[b8]? = some (.cells #[v] 43 (0, 0))
  h9 : W.heap[b9]? = some (.cells #[.int .i64 m] 3 (0, 0))
  hc : boxed W cb b
  row : W.ownsRow w.heap.size 46 2 v T.length (flatS T)
  low : w.heap.size ≤ b5 ∧ b5 < b9 ∧ w.heap.size ≤ b6 ∧ w.heap.size ≤ b8 ∧ w0.heap.size ≤ w.heap.size

section
variable {w0 w W W' : World} {b mb db : Nat} {lv0 : Value} {s : ByteArray} {x : Int} {b3 b4 b5 b6 b7 b8 b9 cb k : Nat} {v : Value} {T : List RowT} {m : Int} {n : Nat} {lv : Value} {S : List RowT} {g : Text → Option Int}
theorem row_at {lo : Nat} (h : W.ownsRow lo 46 2 v T.length (flatS T)) (hb : ∀ j, v.ownBlock = some j → W'.heap[j]? = W.heap[j]?) : W'.ownsRow lo 46 2 v T.length (flatS T) := by
  refine ⟨h.1, ?_⟩
  rcases h.2 with h0 | ⟨g, cap, cur, rfl, hB, hg, rest⟩
  · exact .inl h0
  · exact .inr ⟨g, cap, cur, rfl, hB, (hb g rfl).trans hg, rest⟩
/-- Blocks that are not the map's, nor the document's book's, stay. -/
theorem RSt.block (h : RSt w0 w b mb db lv0 s x b3 b4 b5 b6 b7 b8 b9 cb k v T m n lv S g W) {j : Nat} {c : Array Value} {t : TypeId} (hj : W.heap[j]? = some (.cells c t (0, 0))) (h1 : t ≠ 62) (h2 : t ≠ 46) : j ≠ mb ∧ ¬ MineR db lv j := by
  refine ⟨?_, ?_⟩
  · rintro rfl
    obtain ⟨es, cl, hm⟩ := h.pr.q.q.tab.map
    rw [hm] at hj
    simp at hj
  · rintro (rfl | e)
    · rw [h.pr.d.box] at hj
      simp at hj
      exact h1 hj.2.symm
    · obtain ⟨cur, hc, _⟩ := h.pr.d.block e
      rw [hc] at hj
      simp at hj
      exact h2 hj.2.symm
/-- Both books have turned. -/
theorem RSt.turned (h : RSt w0 w b mb db lv0 s x b3 b4 b5 b6 b7 b8 b9 cb k v T m n lv S g W) {n' : Nat} {lv' : Value} {S' : List RowT} {g' : Text → Option Int} (hp : Pair w0 W' b mb n' db lv' S' g' (k + 1)) (hm : ∀ j, MineR db lv' j → MineR db lv j ∨ W.heap.size ≤ j) (hk : Kept (fun j => j = mb ∨ MineR db lv j) W W') :
    RSt w0 w b mb db lv0 s x b3 b4 b5 b6 b7 b8 b9 cb (k + 1) v T m n' lv' S' g' W' ∧ Kp W W' := by
  have st : ∀ (j : Nat) (c : Array Value) (t : TypeId), W.heap[j]? = some (.cells c t (0, 0)) → t ≠ 62 → t ≠ 46 → W'.heap[j]? = some (.cells c t (0, 0)) := fun j c t hj h1 h2 => by
    obtain ⟨a1, a2⟩ := h.block hj h1 h2
    exact (hk.block j (Array.getElem?_eq_some_iff.1 hj).1 (fun e => e.elim a1 a2)).trans hj
  have hvl : ∀ j, v.ownBlock = some j → j < W.heap.size ∧ j ≠ mb := by
    intro j hj
    rcases h.row.2 with ⟨rfl, _⟩ | ⟨gg, cap, cur, rfl, hB, hg, rest⟩
    · cases hj
    · simp only [Value.ownBlock, Option.some.injEq] at hj
      subst hj
      refine ⟨(Array.getElem?_eq_some_iff.1 hg).1, ?_⟩
      rintro rfl
      obtain ⟨es, cl, hmm⟩ := h.pr.q.q.tab.map
      rw [hmm] at hg
      simp at hg
  refine ⟨⟨hp, fun j hj => ?_, fun j hj e => ?_, h.kept.step hk ?_, st _ _ _ h.h3 (by decide) (by decide), st _ _ _ h.h4 (by decide) (by decide), st _ _ _ h.h5 (by decide) (by decide), st _ _ _ h.h6 (by decide) (by decide), st _ _ _ h.h7 (by decide) (by decide), st _ _ _ h.h8 (by decide) (by decide), st _ _ _ h.h9 (by decide) (by decide), st _ _ _ h.hc (by decide) (by decide), row_at h.row (fun j hj => hk.block j (hvl j hj).1 (fun e => e.elim (hvl j hj).2 (h.ap j hj))), h.low⟩, ⟨hk.size, fun j c hc => (st j c _ hc (by decide) (by decide)).trans hc.symm⟩⟩
  · rcases hm j hj with e | e
    · exact h.mine j e
    · exact .inr (Nat.le_trans h.kept.size e)
  · rcases hm j e with e | e
    · exact h.ap j hj e
    · have := (hvl j hj).1
      omega
  · rintro j hj (e | e)
    · exact .inl e
    · rcases h.mine j e with e | e
      · exact .inr e
      · omega
/-- A block that is none of its own, nor a cell block, has turned. -/
theorem RSt.own (h : RSt w0 w b mb db lv0 s x b3 b4 b5 b6 b7 b8 b9 cb k v T m n lv S g W) {B : Nat} {row : Option Nat} (hB : w.heap.size ≤ B) (hmb : mb < B) (h0 : w0.heap.size ≤ B) (hg : W.grownBy W' row) (hr : ∀ r, row = some r → B ≤ r ∧ ∃ o : Obj, W.heap[r]? = some o ∧ o.isCells = false) : RSt w0 w b mb db lv0 s x b3 b4 b5 b6 b7 b8 b9 cb k v T m n lv S g W' := by
  have K : Kept (fun j => row = some j) W W' := Kept.ofGrown hg (fun _ e => e)
  have cell : ∀ (j : Nat) (c : Array Value) (t : TypeId), W.heap[j]? = some (.cells c t (0, 0)) → row ≠ some j := by
    rintro j c t hj e
    obtain ⟨_, o, ho, hn⟩ := hr j e
    rw [hj] at ho
    obtain rfl := Option.some.inj ho
    cases hn
  have nm : row ≠ some mb := fun e => by have := (hr mb e).1; omega
  have nb : row ≠ some b := fun e => by
    have h1 := h.pr.q.q.cell
    obtain ⟨_, o, ho, hn⟩ := hr b e
    unfold World.cell? at h1
    rw [ho] at h1
    cases o <;> simp at h1 <;> cases hn
  have mr : ∀ j, MineR db lv j → row ≠ some j := by
    rintro j (rfl | e)
    · exact cell _ _ _ h.pr.d.box
    · obtain ⟨cur, hc, _⟩ := h.pr.d.block e
      exact cell _ _ _ hc
  have pr : Pair w0 W' b mb n db lv S g k := ⟨⟨h.pr.q.q.kept K nb nm, h.pr.q.below.grown hg h.pr.q.below.size (fun j e => by have := (hr j e).1; omega), h.pr.q.hb, h.pr.q.hm⟩, h.pr.d.kept K mr, h.pr.l, h.pr.ap, h.pr.low, h.pr.few, h.pr.most⟩
  refine ⟨pr, h.mine, h.ap, h.kept.step K (fun j hj e => by have := (hr j e).1; omega), cells_own h.h3 hg hr, cells_own h.h4 hg hr, cells_own h.h5 hg hr, cells_own h.h6 hg hr, cells_own h.h7 hg hr, cells_own h.h8 hg hr, cells_own h.h9 hg hr, cells_own h.hc hg hr, row_at h.row (fun j hj => ?_), h.low⟩
  rcases h.row.2 with ⟨rfl, _⟩ | ⟨gg, cap, cur, rfl, hB, hg2, rest⟩
  · cases hj
  · simp only [Value.ownBlock, Option.some.injEq] at hj
    subst hj
    exact K.block gg (Array.getElem?_eq_some_iff.1 hg2).1 (cell _ _ _ hg2)
/-- How many were told is set. -/
theorem RSt.count (h : RSt w0 w b mb db lv0 s x b3 b4 b5 b6 b7 b8 b9 cb k v T m n lv S g W) (m' : Int) : RSt w0 w b mb db lv0 s x b3 b4 b5 b6 b7 b8 b9 cb k v T m' n lv S g (W.setCell ⟨b9, 0, none⟩ (.int .i64 m')) ∧ Kp W (W.setCell ⟨b9, 0, none⟩ (.int .i64 m')) := by
  obtain ⟨h1, _⟩ := set_cells h.h9 0 (.int .i64 m')
  have K : Kept (fun j => j = b9) W (W.setCell ⟨b9, 0, none⟩ (.int .i64 m')) := Kept.setCell _ W b9 _ _ rfl
  have ne : ∀ (j : Nat) (c : Array Value) (t : TypeId), W.heap[j]? = some (.cells c t (0, 0)) → t ≠ 3 → j ≠ b9 := by
    rintro j c t hk ht rfl
    rw [h.h9] at hk
    simp at hk
    exact ht hk.2.symm
  have st : ∀ (j : Nat) (c : Array Value) (t : TypeId), W.heap[j]? = some (.cells c t (0, 0)) → t ≠ 3 → (W.setCell ⟨b9, 0, none⟩ (.int .i64 m')).heap[j]? = some (.cells c t (0, 0)) := fun j c t hk ht => (K.block j (Array.getElem?_eq_some_iff.1 hk).1 (ne j c t hk ht)).trans hk
  obtain ⟨n1, n2⟩ := h.block h.h9 (by decide) (by decide)
  have nb : b ≠ b9 := by
    rintro rfl
    have h1 := h.pr.q.q.cell
    simp [World.cell?, h.h9] at h1
  have hlow := h.low
  have hw0 : w0.heap.size ≤ b9 := by omega
  have pr : Pair w0 (W.setCell ⟨b9, 0, none⟩ (.int .i64 m')) b mb n db lv S g k := ⟨⟨h.pr.q.q.kept K nb n1.symm, h.pr.q.below.trans (K.below h.pr.q.below.size (fun j hj e => by omega)), h.pr.q.hb, h.pr.q.hm⟩, h.pr.d.kept K (fun j hj e => n2 (e ▸ hj)), h.pr.l, h.pr.ap, h.pr.low, h.pr.few, h.pr.most⟩
  refine ⟨⟨pr, h.mine, h.ap, h.kept.step K (fun j hj e => by omega), st _ _ _ h.h3 (by decide), st _ _ _ h.h4 (by decide), (K.block b5 (Array.getElem?_eq_some_iff.1 h.h5).1 (by omega)).trans h.h5, st _ _ _ h.h6 (by decide), st _ _ _ h.h7 (by decide), st _ _ _ h.h8 (by decide), by rw [h1]; simp, st _ _ _ h.hc (by decide), row_at h.row (fun j hj => ?_), h.low⟩, Kp.ofKept K (fun j c hk e => ne j c _ hk (by decide) e)⟩
  rcases h.row.2 with ⟨rfl, _⟩ | ⟨gg, cap, cur, rfl, hB, hg2, rest⟩
  · cases hj
  · simp only [Value.ownBlock, Option.some.injEq] at hj
    subst hj
    exact K.block gg (Array.getElem?_eq_some_iff.1 hg2).1 (ne _ _ _ hg2 (by decide))
end
end Go.Proofs.Ythjaehibndmehaa
