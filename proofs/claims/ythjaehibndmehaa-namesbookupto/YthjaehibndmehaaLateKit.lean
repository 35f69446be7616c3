/-
  What the walk of NamesLate holds on to in its range.
-/
import Derived.Test.YthjaehibndmehaaTurn
import Derived.Test.YthjaehibndmehaaAll
import Derived.Test.YthjaehibndmehaaNames
namespace Go.Proofs.Ythjaehibndmehaa
open Go.RowKit

theorem seq_nil (w : World) (fn : Fn) (b c : Array Value) : (binOp .eql 41 (.func fn b c) .nilFunc).run Try.prog w = .ok (.bool false) w := by
  have h : ∀ d : Nat, (Op.equalIn (d + 1) 41 (.func fn b c) .nilFunc).run Try.prog w = .ok false w := fun d => by
    simp [Op.equalIn, run_underlying Try.underlying41]
  simp only [binOp]
  simp [Op.equal, Op.maxDepth, h 9999]
theorem row_of {w : World} {B : Nat} {e : TypeId} {s : Nat} {v : Value} {n : Nat} {xs : List Value} (h : w.ownsRow B e s v n xs) : ∃ a c, v = .slice a n c := by
  rcases h.2 with ⟨rfl, rfl⟩ | ⟨g, cap, cur, rfl, _⟩
  · exact ⟨_, _, rfl⟩
  · exact ⟨_, _, rfl⟩
theorem row_cell {w : World} {B : Nat} {a : Option Addr} {m c : Nat} {S : List RowT} (h : w.ownsRow B 46 2 (.slice a m c) S.length (flatS S)) {i : Nat} {r : RowT} (hr : S[i]? = some r) : ∃ g, a = some ⟨g, 0, none⟩ ∧ w.cell? ⟨g, i * 2, none⟩ = some (encStr r.1) ∧ w.cell? ⟨g, i * 2 + 1, none⟩ = some (.int .i64 r.2) := by
  have hi := (List.getElem?_eq_some_iff.1 hr).1
  rcases h.2 with ⟨_, h0⟩ | ⟨g, cap, cur, e, hB, hg, hnc, hcm, hcs, ht⟩
  · rw [h0] at hi; omega
  · simp only [Value.slice.injEq] at e
    obtain ⟨rfl, _, rfl⟩ := e
    obtain ⟨f0, f1⟩ := flatS_get S i r hr
    rw [← ht] at f0 f1
    rw [List.getElem?_take_of_lt (by omega)] at f0 f1
    exact ⟨g, rfl, by simpa [World.cell?, hg] using f0, by simpa [World.cell?, hg] using f1⟩
/-- The answer's box, the rows that are wanted, how many were told. -/
structure LateAt (w : World) (rb b9 b10 : Nat) (v : Value) (S : List RowT) (n : Nat) (W : World) : Prop where
  ans : W.heap[rb]? = some (.cells #[.bool false] 4 (0, 0))
  want : W.heap[b9]? = some (.cells #[v] 43 (0, 0))
  cnt : W.heap[b10]? = some (.cells #[.int .i64 (n : Int)] 3 (0, 0))
  row : W.ownsRow 0 46 2 v S.length (flatS S)
  below : Below w.heap.size w W
  low : w.heap.size ≤ rb ∧ w.heap.size ≤ b10
theorem LateAt.own {w A C : World} {rb b9 b10 : Nat} {v : Value} {S : List RowT} {n B : Nat} {row : Option Nat} (h : LateAt w rb b9 b10 v S n A) (hw : w.heap.size ≤ B) (hg : A.grownBy C row) (hr : ∀ r, row = some r → B ≤ r ∧ ∃ o : Obj, A.heap[r]? = some o ∧ o.isCells = false) : LateAt w rb b9 b10 v S n C := by
  refine ⟨cells_own h.ans hg hr, cells_own h.want hg hr, cells_own h.cnt hg hr, ⟨h.row.1, ?_⟩, h.below.grown hg h.below.size (fun k e => by have := (hr k e).1; omega), h.low⟩
  rcases h.row.2 with h0 | ⟨g, cap, cur, rfl, hB, hgc, rest⟩
  · exact .inl h0
  · exact .inr ⟨g, cap, cur, rfl, hB, cells_own hgc hg hr, rest⟩
/-- One more was told. -/
theorem LateAt.count {w W : World} {rb b9 b10 : Nat} {v : Value} {S : List RowT} {n : Nat} (h : LateAt w rb b9 b10 v S n W) : LateAt w rb b9 b10 v S (n + 1) (W.setCell ⟨b10, 0, none⟩ (.int .i64 ((n : Int) + 1))) ∧ Kp W (W.setCell ⟨b10, 0, none⟩ (.int .i64 ((n : Int) + 1))) := by
  obtain ⟨h1, h2⟩ := set_cells h.cnt 0 (.int .i64 ((n : Int) + 1))
  have K : Kept (fun k => k = b10) W (W.setCell ⟨b10, 0, none⟩ (.int .i64 ((n : Int) + 1))) := Kept.setCell _ W b10 _ _ rfl
  have ne : ∀ (k : Nat) (c : Array Value) (t : TypeId), W.heap[k]? = some (.cells c t (0, 0)) → t ≠ 3 → k ≠ b10 := by
    rintro k c t hk ht rfl
    rw [h.cnt] at hk
    simp at hk
    exact ht hk.2.symm
  have st : ∀ (k : Nat) (c : Array Value) (t : TypeId), W.heap[k]? = some (.cells c t (0, 0)) → t ≠ 3 → (W.setCell ⟨b10, 0, none⟩ (.int .i64 ((n : Int) + 1))).heap[k]? = some (.cells c t (0, 0)) := fun k c t hk ht => (K.block k (Array.getElem?_eq_some_iff.1 hk).1 (ne k c t hk ht)).trans hk
  refine ⟨⟨st _ _ _ h.ans (by decide), st _ _ _ h.want (by decide), by rw [h1]; simp, ⟨h.row.1, ?_⟩, h.below.trans (K.below h.below.size (fun k hk e => by have := h.low.2; omega)), h.low⟩, Kp.ofKept K (fun k c hk e => ne k c _ hk (by decide) e)⟩
  rcases h.row.2 with h0 | ⟨g, cap, cur, rfl, hB, hgc, rest⟩
  · exact .inl h0
  · exact .inr ⟨g, cap, cur, rfl, hB, st _ _ _ hgc (by decide), rest⟩
end Go.Proofs.Ythjaehibndmehaa
