/-
  The document's Numbers.
-/
import Derived.Test.YtbgldkjjdmacaaaRefCheckW
namespace Go.Proofs.Ytbgldkjjdmacaaa
open Go.RowKit

theorem hideN {p : Prop} (h : p) : Hid p := h
theorem below_al4 (w : World) (A N S C : Obj) : Below w.heap.size w ((((w.alloc A).alloc N).alloc S).alloc C) :=
  ((((Below.refl _ w).alloc (Nat.le_refl _) _).alloc (by simp) _).alloc (by simp; omega) _).alloc (by simp; omega) _
/-- Numbers in a row. -/
def IntsIn (w : World) (B : Nat) (v : Value) (l : List Int) : Prop := ∃ b c, v = .slice (some ⟨b, 0, none⟩) l.length c ∧ B ≤ b ∧ b < w.heap.size ∧ l.length ≤ c ∧ c ≤ maxLen ∧ ∀ (j : Nat) x, l[j]? = some x → w.cell? ⟨b, j, none⟩ = some (.int .i64 x)
def i64s (l : List Int) : List Value := l.map fun x => Value.int .i64 x
theorem ints_new (w : World) (B : Nat) (hB : B ≤ w.heap.size) (l : List Int) (vs : Array Value) (t : TypeId) (hv : vs.toList = i64s l) (hl : l.length ≤ 100) : IntsIn (w.alloc (.cells vs t)) B (.slice (some ⟨w.heap.size, 0, none⟩) l.length l.length) l :=
  ⟨w.heap.size, l.length, rfl, hB, by simp, Nat.le_refl _, by unfold maxLen; omega, fun j x hj => by
    rw [cell_of_row _ _ j vs t (0, 0) (heap_alloc_last w _), ← Array.getElem?_toList, hv, i64s, List.getElem?_map, hj]
    rfl⟩
theorem ints_new4 (w : World) (A B C : Obj) (l : List Int) (vs : Array Value) (t : TypeId) (hv : vs.toList = i64s l) (hl : l.length ≤ 100) : IntsIn ((((w.alloc A).alloc B).alloc C).alloc (.cells vs t)) w.heap.size (.slice (some ⟨w.heap.size + 1 + 1 + 1, 0, none⟩) l.length l.length) l := by
  have := ints_new (((w.alloc A).alloc B).alloc C) w.heap.size (by simp; omega) l vs t hv hl
  simpa using this
theorem ints_own (w : World) (B : Nat) (l : List Int) (hB : B ≤ w.heap.size) (hl : l.length ≤ 100) : (w.alloc (.cells (i64s l).toArray 3)).ownsRow B 3 1 (.slice (some ⟨w.heap.size, 0, none⟩) l.length l.length) l.length (i64s l) :=
  ⟨by simp [i64s], .inr ⟨w.heap.size, l.length, (i64s l).toArray, rfl, hB, heap_alloc_last _ _, Nat.le_refl _, by unfold maxLen; omega, by simp [i64s], by rw [List.take_of_length_le (by simp [i64s])]⟩⟩
theorem ints_row {w : World} {B : Nat} {v : Value} {n : Nat} {l : List Int} (h : w.ownsRow B 3 1 v n (i64s l)) (hl : 0 < l.length) : IntsIn w B v l := by
  have hn : n = l.length := by have := h.1; simp [i64s] at this; omega
  subst hn
  rcases h.2 with ⟨rfl, h0⟩ | ⟨g, cap, cur, rfl, hb, hg, hnc, hcm, hcs, htake⟩
  · omega
  · refine ⟨g, cap, rfl, hb, (Array.getElem?_eq_some_iff.1 hg).1, hnc, hcm, fun j x hj => ?_⟩
    have := h.cells (g := g) rfl j (.int .i64 x) (by rw [i64s, List.getElem?_map, hj]; rfl)
    cases j with
    | zero => simpa [Addr.add] using this
    | succ j => simpa [Addr.add] using this

set_option maxHeartbeats 4000000 in
set_option maxRecDepth 1000000 in
theorem numbers_1 (x0 x1 x2 x3 x4 x5 x6 x7 x8 x9 x10 x11 x12 x13 x14 x15 : Int) (t : ByteArray) (a : Option Addr) (m c : Nat) (w : World) :
    Calls Try.prog 37 #[.agg #[.int .i64 1, .int .i64 x0, .int .i64 x1, .int .i64 x2, .int .i64 x3, .int .i64 x4, .int .i64 x5, .int .i64 x6, .int .i64 x7, .int .i64 x8, .int .i64 x9, .int .i64 x10, .int .i64 x11, .int .i64 x12, .int .i64 x13, .int .i64 x14, .int .i64 x15, .string t, .slice a m c]] w fun e w' => ∃ v, e = .returned v ∧ IntsIn w' w.heap.size v [x0, x1] ∧ Below w.heap.size w w' := by
  go_enter Try.func37, Try.ntmps37
  go_wp2_with fail
  go_ret
  exact ⟨_, rfl, ints_new4 _ _ _ _ [x0, x1] _ _ rfl (by simp), below_al4 _ _ _ _ _⟩

set_option maxHeartbeats 4000000 in
set_option maxRecDepth 1000000 in
theorem numbers_4 (x0 x1 x2 x3 x4 x5 x6 x7 x8 x9 x10 x11 x12 x13 x14 x15 : Int) (t : ByteArray) (a : Option Addr) (m c : Nat) (w : World) :
    Calls Try.prog 37 #[.agg #[.int .i64 4, .int .i64 x0, .int .i64 x1, .int .i64 x2, .int .i64 x3, .int .i64 x4, .int .i64 x5, .int .i64 x6, .int .i64 x7, .int .i64 x8, .int .i64 x9, .int .i64 x10, .int .i64 x11, .int .i64 x12, .int .i64 x13, .int .i64 x14, .int .i64 x15, .string t, .slice a m c]] w fun e w' => ∃ v, e = .returned v ∧ IntsIn w' w.heap.size v [x2] ∧ Below w.heap.size w w' := by
  go_enter Try.func37, Try.ntmps37
  go_wp2_with fail
  go_ret
  exact ⟨_, rfl, ints_new4 _ _ _ _ [x2] _ _ rfl (by simp), below_al4 _ _ _ _ _⟩
end Go.Proofs.Ytbgldkjjdmacaaa
