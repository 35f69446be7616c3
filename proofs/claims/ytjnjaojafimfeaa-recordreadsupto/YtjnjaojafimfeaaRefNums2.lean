/-
  RefNums, RefNums2.
-/
import Derived.Test.YtjnjaojafimfeaaRefCheckW
namespace Go.Proofs.Ytjnjaojafimfeaa
open Go.RowKit

theorem hideN {p : Prop} (h : p) : Hid p := h
theorem below_al4 (w : World) (A N S C : Obj) : Below w.heap.size w ((((w.alloc A).alloc N).alloc S).alloc C) :=
  ((((Below.refl _ w).alloc (Nat.le_refl _) _).alloc (by simp) _).alloc (by simp; omega) _).alloc (by simp; omega) _
/-- Numbers in a row. -/
def IntsIn (w : World) (B : Nat) (v : Value) (l : List Int) : Prop := ∃ b c, v = .slice (some ⟨b, 0, none⟩) l.length c ∧ B ≤ b ∧ b < w.heap.size ∧ l.length ≤ c ∧ c ≤ maxLen ∧ ∀ (j : Nat) x, l[j]? = some x → w.cell? ⟨b, j, none⟩ = some (.int .i64 x)
def i64s (l : List Int) : List Value := l.map fun x => Value.int .i64 x
theorem ints_new (w : World) (B : Nat) (hB : B ≤ w.heap.size) (l : List Int) (vs : Array Value) (t : TypeId) (hv : vs.toList = i64s l) (hl : l.length ≤ 100) : IntsIn (w.alloc (.cells vs t)) B (.slice (some ⟨w.heap.size, 0, none⟩) l.length l.length) l :=
  ⟨w.heap.size, l.length, rfl, hB, by simp, Nat.le_refl _, by unfold maxLen; omega, fun j x hj => by
    rw [cell_of_row _ _ j vs t (0, 0) (heap_alloc_last w _), ← Array.getElem?_toList, hv, i64s, List.getElem?_map, hj]
    rfl⟩
theorem ints_new4 (w : World) (A B C : Obj) (l : List Int) (vs : Array Value) (t : TypeId) (hv : vs.toList = i64s l) (hl : l.length ≤ 100) : IntsIn ((((w.alloc A).alloc B).alloc C).alloc (.cells vs t)) w.heap.size (.slice (some ⟨w.heap.size + 1 + 1 + 1, 0, none⟩) l.length l.length) l := by
  have := ints_new (((w.alloc A).alloc B).alloc C) w.heap.size (by simp; omega) l vs t hv hl
  simpa using this
theorem ints_own (w : World) (B : Nat) (l : List Int) (hB : B ≤ w.heap.size) (hl : l.length ≤ 100) : (w.alloc (.cells (i64s l).toArray 3)).ownsRow B 3 1 (.slice (some ⟨w.heap.size, 0, none⟩) l.length l.length) l.length (i64s l) :=
  ⟨by simp [i64s], .inr ⟨w.heap.size, l.length, (i64s l).toArray, rfl, hB, heap_alloc_last _ _, Nat.le_refl _, by unfold maxLen; omega, by simp [i64s], by rw [List.take_of_length_le (by simp [i64s])]⟩⟩
theorem ints_row {w : World} {B : Nat} {v : Value} {n : Nat} {l : List Int} (h : w.ownsRow B 3 1 v n (i64s l)) (hl : 0 < l.length) : IntsIn w B v l := by
  have hn : n = l.length := by have := h.1; simp [i64s] at this; omega
  subst hn
  rcases h.2 with ⟨rfl, h0⟩ | ⟨g, cap, cur, rfl, hb, hg, hnc, hcm, hcs, htake⟩
  · omega
  · refine ⟨g, cap, rfl, hb, (Array.getElem?_eq_some_iff.1 hg).1, hnc, hcm, fun j x hj => ?_⟩
    have := h.cells (g := g) rfl j (.int .i64 x) (by rw [i64s, List.getElem?_map, hj]; rfl)
    cases j with
    | zero => simpa [Addr.add] using this
    | succ j => simpa [Addr.add] using this

set_option maxHeartbeats 4000000 in
set_option maxRecDepth 1000000 in
theorem numbers_1 (x0 x1 x2 x3 x4 x5 x6 x7 x8 x9 x10 x11 x12 x13 x14 x15 : Int) (t : ByteArray) (a : Option Addr) (m c : Nat) (w : World) :
    Calls Try.prog 37 #[.agg #[.int .i64 1, .int .i64 x0, .int .i64 x1, .int .i64 x2, .int .i64 x3, .int .i64 x4, .int .i64 x5, .int .i64 x6, .int .i64 x7, .int .i64 x8, .int .i64 x9, .int .i64 x10, .int .i64 x11, .int .i64 x12, .int .i64 x13, .int .i64 x14, .int .i64 x15, .string t, .slice a m c]] w fun e w' => ∃ v, e = .returned v ∧ IntsIn w' w.heap.size v [x0, x1] ∧ Below w.heap.size w w' := by
  go_enter Try.func37, Try.ntmps37
  go_wp2_with fail
  go_ret
  exact ⟨_, rfl, ints_new4 _ _ _ _ [x0, x1] _ _ rfl (by simp), below_al4 _ _ _ _ _⟩

set_option maxHeartbeats 4000000 in
set_option maxRecDepth 1000000 in
theorem numbers_4 (x0 x1 x2 x3 x4 x5 x6 x7 x8 x9 x10 x11 x12 x13 x14 x15 : Int) (t : ByteArray) (a : Option Addr) (m c : Nat) (w : World) :
    Calls Try.prog 37 #[.agg #[.int .i64 4, .int .i64 x0, .int .i64 x1, .int .i64 x2, .int .i64 x3, .int .i64 x4, .int .i64 x5, .int .i64 x6, .int .i64 x7, .int .i64 x8, .int .i64 x9, .int .i64 x10, .int .i64 x11, .int .i64 x12, .int .i64 x13, .int .i64 x14, .int .i64 x15, .string t, .slice a m c]] w fun e w' => ∃ v, e = .returned v ∧ IntsIn w' w.heap.size v [x2] ∧ Below w.heap.size w w' := by
  go_enter Try.func37, Try.ntmps37
  go_wp2_with fail
  go_ret
  exact ⟨_, rfl, ints_new4 _ _ _ _ [x2] _ _ rfl (by simp), below_al4 _ _ _ _ _⟩
end Go.Proofs.Ytjnjaojafimfeaa

namespace Go.Proofs.Ytjnjaojafimfeaa
open Go.RowKit

theorem ints_at (w : World) (l : List Int) : ∀ j u, (i64s l)[j]? = some u → ∀ g : Nat, w.heap[g]? = some (.cells (i64s l).toArray 3 (0, 0)) → w.cell? ((⟨g, 0, none⟩ : Addr).add j) = some u := fun j u hj g hg => by
  rw [Addr.add_mid, Nat.zero_add, cell_of_row _ _ j _ _ (0, 0) hg]
  simpa using hj

set_option maxHeartbeats 4000000 in
set_option maxRecDepth 1000000 in
theorem numbers_2 (x0 x1 x2 x3 x4 x5 x6 x7 x8 x9 x10 x11 x12 x13 x14 x15 : Int) (t : ByteArray) (a : Option Addr) (m c : Nat) (w : World) :
    Calls Try.prog 37 #[.agg #[.int .i64 2, .int .i64 x0, .int .i64 x1, .int .i64 x2, .int .i64 x3, .int .i64 x4, .int .i64 x5, .int .i64 x6, .int .i64 x7, .int .i64 x8, .int .i64 x9, .int .i64 x10, .int .i64 x11, .int .i64 x12, .int .i64 x13, .int .i64 x14, .int .i64 x15, .string t, .slice a m c]] w fun e w' => ∃ v, e = .returned v ∧ IntsIn w' w.heap.size v [x3, x4, x5, x6, x7, x8, x9, x10, x11, x12, x13, x14, x15] ∧ Below w.heap.size w w' := by
  obtain ⟨i, hi, hz0, hz1, hz2⟩ := info_parts info_int
  obtain ⟨wx, hwx⟩ : ∃ wx, wx = ((w.alloc (.cells #[.int .i64 2, .int .i64 x0, .int .i64 x1, .int .i64 x2, .int .i64 x3, .int .i64 x4, .int .i64 x5, .int .i64 x6, .int .i64 x7, .int .i64 x8, .int .i64 x9, .int .i64 x10, .int .i64 x11, .int .i64 x12, .int .i64 x13, .int .i64 x14, .int .i64 x15, .string t, .slice a m c] 34)).alloc (.cells #[.int .i64 x3, .int .i64 x4, .int .i64 x5, .int .i64 x6, .int .i64 x7, .int .i64 x8, .int .i64 x9, .int .i64 x10, .int .i64 x11, .int .i64 x12, .int .i64 x13, .int .i64 x14, .int .i64 x15, .string t, .slice a m c] 32)).alloc (.cells #[.int .i64 x11, .int .i64 x12, .int .i64 x13, .int .i64 x14, .int .i64 x15] 3) := ⟨_, rfl⟩
  have hB : Below w.heap.size w wx := by rw [hwx]; exact (((Below.refl _ w).alloc (Nat.le_refl _) _).alloc (by simp) _).alloc (by simp; omega) _
  have hb1 : wx.heap[w.heap.size + 1]? = some (.cells #[.int .i64 x3, .int .i64 x4, .int .i64 x5, .int .i64 x6, .int .i64 x7, .int .i64 x8, .int .i64 x9, .int .i64 x10, .int .i64 x11, .int .i64 x12, .int .i64 x13, .int .i64 x14, .int .i64 x15, .string t, .slice a m c] 32 (0, 0)) := by
    rw [hwx, heap_alloc_old _ _ (by simp)]
    have := heap_alloc_last (w.alloc (.cells #[.int .i64 2, .int .i64 x0, .int .i64 x1, .int .i64 x2, .int .i64 x3, .int .i64 x4, .int .i64 x5, .int .i64 x6, .int .i64 x7, .int .i64 x8, .int .i64 x9, .int .i64 x10, .int .i64 x11, .int .i64 x12, .int .i64 x13, .int .i64 x14, .int .i64 x15, .string t, .slice a m c] 34)) (.cells #[.int .i64 x3, .int .i64 x4, .int .i64 x5, .int .i64 x6, .int .i64 x7, .int .i64 x8, .int .i64 x9, .int .i64 x10, .int .i64 x11, .int .i64 x12, .int .i64 x13, .int .i64 x14, .int .i64 x15, .string t, .slice a m c] 32)
    rwa [World.size_alloc] at this
  have hb2 : wx.heap[w.heap.size + 1 + 1]? = some (.cells (i64s [x11, x12, x13, x14, x15]).toArray 3 (0, 0)) := by
    have := heap_alloc_last ((w.alloc (.cells #[.int .i64 2, .int .i64 x0, .int .i64 x1, .int .i64 x2, .int .i64 x3, .int .i64 x4, .int .i64 x5, .int .i64 x6, .int .i64 x7, .int .i64 x8, .int .i64 x9, .int .i64 x10, .int .i64 x11, .int .i64 x12, .int .i64 x13, .int .i64 x14, .int .i64 x15, .string t, .slice a m c] 34)).alloc (.cells #[.int .i64 x3, .int .i64 x4, .int .i64 x5, .int .i64 x6, .int .i64 x7, .int .i64 x8, .int .i64 x9, .int .i64 x10, .int .i64 x11, .int .i64 x12, .int .i64 x13, .int .i64 x14, .int .i64 x15, .string t, .slice a m c] 32)) (.cells #[.int .i64 x11, .int .i64 x12, .int .i64 x13, .int .i64 x14, .int .i64 x15] 3)
    rw [World.size_alloc, World.size_alloc, ← hwx] at this
    exact this
  have c0 : wx.cell? ⟨w.heap.size + 1, 0, none⟩ = some (.int .i64 x3) := by simp [World.cell?, hb1]
  have c1 : wx.cell? ⟨w.heap.size + 1, 1, none⟩ = some (.int .i64 x4) := by simp [World.cell?, hb1]
  have c2 : wx.cell? ⟨w.heap.size + 1, 2, none⟩ = some (.int .i64 x5) := by simp [World.cell?, hb1]
  have c3 : wx.cell? ⟨w.heap.size + 1, 3, none⟩ = some (.int .i64 x6) := by simp [World.cell?, hb1]
  have c4 : wx.cell? ⟨w.heap.size + 1, 4, none⟩ = some (.int .i64 x7) := by simp [World.cell?, hb1]
  have c5 : wx.cell? ⟨w.heap.size + 1, 5, none⟩ = some (.int .i64 x8) := by simp [World.cell?, hb1]
  have c6 : wx.cell? ⟨w.heap.size + 1, 6, none⟩ = some (.int .i64 x9) := by simp [World.cell?, hb1]
  have c7 : wx.cell? ⟨w.heap.size + 1, 7, none⟩ = some (.int .i64 x10) := by simp [World.cell?, hb1]
  have HX := hideN (And.intro hB hb2)
  have HWX := hideN hwx
  have OWN : Hid ((wx.alloc (.cells #[.int .i64 x3, .int .i64 x4, .int .i64 x5, .int .i64 x6, .int .i64 x7, .int .i64 x8, .int .i64 x9, .int .i64 x10] 3)).ownsRow w.heap.size 3 1 (.slice (some ⟨wx.heap.size, 0, none⟩) 8 8) 8 (i64s [x3, x4, x5, x6, x7, x8, x9, x10])) := ints_own wx w.heap.size [x3, x4, x5, x6, x7, x8, x9, x10] hB.size (by simp)
  have SRC : Hid (∀ j u, (i64s [x11, x12, x13, x14, x15])[j]? = some u → (wx.alloc (.cells #[.int .i64 x3, .int .i64 x4, .int .i64 x5, .int .i64 x6, .int .i64 x7, .int .i64 x8, .int .i64 x9, .int .i64 x10] 3)).cell? ((⟨w.heap.size + 1 + 1, 0, none⟩ : Addr).add j) = some u) := fun j u hj => ints_at _ _ j u hj _ (by
    rw [heap_alloc_old _ _ (Array.getElem?_eq_some_iff.1 hb2).1]
    exact hb2)
  have hs := hB.size
  clear hB hb1 hb2 hwx
  go_enter Try.func37, Try.ntmps37
  go_upto_region 7 with fail
  rw [← HWX.out]
  go_wp2_with (at_builtin; refine wpList_append_keeps (w := wx.alloc (.cells #[.int .i64 x3, .int .i64 x4, .int .i64 x5, .int .i64 x6, .int .i64 x7, .int .i64 x8, .int .i64 x9, .int .i64 x10] 3)) rfl (.tmp 50) (.tmp 51) 58 rfl w.heap.size 3 i (.int .i64 0) Try.underlying58 hi hz0 hz1 rfl (.slice (some ⟨wx.heap.size, 0, none⟩) 8 8) 8 (i64s [x3, x4, x5, x6, x7, x8, x9, x10]) (by rfl) OWN.out (some ⟨w.heap.size + 1 + 1, 0, none⟩) 5 5 (i64s [x11, x12, x13, x14, x15]) (by rfl) (by rfl) (.inr ⟨_, rfl, SRC.out⟩) (by simp [i64s, Value.oneCell']) (by unfold maxLen; omega) (by rw [hz2]; omega) (by simp; omega) ?_; intro v2 w2 own2 gr2 g1 g2 g3; clear g1 g2 g3; have H2 := hideN (And.intro own2 gr2); clear own2 gr2)
  go_ret
  refine ⟨_, rfl, ints_row (l := [x3, x4, x5, x6, x7, x8, x9, x10, x11, x12, x13, x14, x15]) H2.out.1 (by simp), ?_⟩
  exact (HX.out.1.alloc hs _).grown H2.out.2 (by simp; omega) (fun g hg => by simp [Value.ownBlock] at hg; omega)

set_option maxHeartbeats 4000000 in
set_option maxRecDepth 1000000 in
theorem numbers_3 (x0 x1 x2 x3 x4 x5 x6 x7 x8 x9 x10 x11 x12 x13 x14 x15 : Int) (t : ByteArray) (a : Option Addr) (m c : Nat) (w : World) :
    Calls Try.prog 37 #[.agg #[.int .i64 3, .int .i64 x0, .int .i64 x1, .int .i64 x2, .int .i64 x3, .int .i64 x4, .int .i64 x5, .int .i64 x6, .int .i64 x7, .int .i64 x8, .int .i64 x9, .int .i64 x10, .int .i64 x11, .int .i64 x12, .int .i64 x13, .int .i64 x14, .int .i64 x15, .string t, .slice a m c]] w fun e w' => ∃ v, e = .returned v ∧ IntsIn w' w.heap.size v [x3, x4, x5, x8, x9, x10, x11, x12, x13, x14, x15] ∧ Below w.heap.size w w' := by
  obtain ⟨i, hi, hz0, hz1, hz2⟩ := info_parts info_int
  obtain ⟨wx, hwx⟩ : ∃ wx, wx = ((w.alloc (.cells #[.int .i64 3, .int .i64 x0, .int .i64 x1, .int .i64 x2, .int .i64 x3, .int .i64 x4, .int .i64 x5, .int .i64 x6, .int .i64 x7, .int .i64 x8, .int .i64 x9, .int .i64 x10, .int .i64 x11, .int .i64 x12, .int .i64 x13, .int .i64 x14, .int .i64 x15, .string t, .slice a m c] 34)).alloc (.cells #[.int .i64 x3, .int .i64 x4, .int .i64 x5, .int .i64 x6, .int .i64 x7, .int .i64 x8, .int .i64 x9, .int .i64 x10, .int .i64 x11, .int .i64 x12, .int .i64 x13, .int .i64 x14, .int .i64 x15, .string t, .slice a m c] 32)).alloc (.cells #[.int .i64 x11, .int .i64 x12, .int .i64 x13, .int .i64 x14, .int .i64 x15] 3) := ⟨_, rfl⟩
  have hB : Below w.heap.size w wx := by rw [hwx]; exact (((Below.refl _ w).alloc (Nat.le_refl _) _).alloc (by simp) _).alloc (by simp; omega) _
  have hb1 : wx.heap[w.heap.size + 1]? = some (.cells #[.int .i64 x3, .int .i64 x4, .int .i64 x5, .int .i64 x6, .int .i64 x7, .int .i64 x8, .int .i64 x9, .int .i64 x10, .int .i64 x11, .int .i64 x12, .int .i64 x13, .int .i64 x14, .int .i64 x15, .string t, .slice a m c] 32 (0, 0)) := by
    rw [hwx, heap_alloc_old _ _ (by simp)]
    have := heap_alloc_last (w.alloc (.cells #[.int .i64 3, .int .i64 x0, .int .i64 x1, .int .i64 x2, .int .i64 x3, .int .i64 x4, .int .i64 x5, .int .i64 x6, .int .i64 x7, .int .i64 x8, .int .i64 x9, .int .i64 x10, .int .i64 x11, .int .i64 x12, .int .i64 x13, .int .i64 x14, .int .i64 x15, .string t, .slice a m c] 34)) (.cells #[.int .i64 x3, .int .i64 x4, .int .i64 x5, .int .i64 x6, .int .i64 x7, .int .i64 x8, .int .i64 x9, .int .i64 x10, .int .i64 x11, .int .i64 x12, .int .i64 x13, .int .i64 x14, .int .i64 x15, .string t, .slice a m c] 32)
    rwa [World.size_alloc] at this
  have hb2 : wx.heap[w.heap.size + 1 + 1]? = some (.cells (i64s [x11, x12, x13, x14, x15]).toArray 3 (0, 0)) := by
    have := heap_alloc_last ((w.alloc (.cells #[.int .i64 3, .int .i64 x0, .int .i64 x1, .int .i64 x2, .int .i64 x3, .int .i64 x4, .int .i64 x5, .int .i64 x6, .int .i64 x7, .int .i64 x8, .int .i64 x9, .int .i64 x10, .int .i64 x11, .int .i64 x12, .int .i64 x13, .int .i64 x14, .int .i64 x15, .string t, .slice a m c] 34)).alloc (.cells #[.int .i64 x3, .int .i64 x4, .int .i64 x5, .int .i64 x6, .int .i64 x7, .int .i64 x8, .int .i64 x9, .int .i64 x10, .int .i64 x11, .int .i64 x12, .int .i64 x13, .int .i64 x14, .int .i64 x15, .string t, .slice a m c] 32)) (.cells #[.int .i64 x11, .int .i64 x12, .int .i64 x13, .int .i64 x14, .int .i64 x15] 3)
    rw [World.size_alloc, World.size_alloc, ← hwx] at this
    exact this
  have c0 : wx.cell? ⟨w.heap.size + 1, 0, none⟩ = some (.int .i64 x3) := by simp [World.cell?, hb1]
  have c1 : wx.cell? ⟨w.heap.size + 1, 1, none⟩ = some (.int .i64 x4) := by simp [World.cell?, hb1]
  have c2 : wx.cell? ⟨w.heap.size + 1, 2, none⟩ = some (.int .i64 x5) := by simp [World.cell?, hb1]
  have c5 : wx.cell? ⟨w.heap.size + 1, 5, none⟩ = some (.int .i64 x8) := by simp [World.cell?, hb1]
  have c6 : wx.cell? ⟨w.heap.size + 1, 6, none⟩ = some (.int .i64 x9) := by simp [World.cell?, hb1]
  have c7 : wx.cell? ⟨w.heap.size + 1, 7, none⟩ = some (.int .i64 x10) := by simp [World.cell?, hb1]
  have HX := hideN (And.intro hB hb2)
  have HWX := hideN hwx
  have OWN : Hid ((wx.alloc (.cells #[.int .i64 x3, .int .i64 x4, .int .i64 x5, .int .i64 x8, .int .i64 x9, .int .i64 x10] 3)).ownsRow w.heap.size 3 1 (.slice (some ⟨wx.heap.size, 0, none⟩) 6 6) 6 (i64s [x3, x4, x5, x8, x9, x10])) := ints_own wx w.heap.size [x3, x4, x5, x8, x9, x10] hB.size (by simp)
  have SRC : Hid (∀ j u, (i64s [x11, x12, x13, x14, x15])[j]? = some u → (wx.alloc (.cells #[.int .i64 x3, .int .i64 x4, .int .i64 x5, .int .i64 x8, .int .i64 x9, .int .i64 x10] 3)).cell? ((⟨w.heap.size + 1 + 1, 0, none⟩ : Addr).add j) = some u) := fun j u hj => ints_at _ _ j u hj _ (by
    rw [heap_alloc_old _ _ (Array.getElem?_eq_some_iff.1 hb2).1]
    exact hb2)
  have hs := hB.size
  clear hB hb1 hb2 hwx
  go_enter Try.func37, Try.ntmps37
  go_upto_region 9 with fail
  rw [← HWX.out]
  go_wp2_with (at_builtin; refine wpList_append_keeps (w := wx.alloc (.cells #[.int .i64 x3, .int .i64 x4, .int .i64 x5, .int .i64 x8, .int .i64 x9, .int .i64 x10] 3)) rfl (.tmp 67) (.tmp 68) 58 rfl w.heap.size 3 i (.int .i64 0) Try.underlying58 hi hz0 hz1 rfl (.slice (some ⟨wx.heap.size, 0, none⟩) 6 6) 6 (i64s [x3, x4, x5, x8, x9, x10]) (by rfl) OWN.out (some ⟨w.heap.size + 1 + 1, 0, none⟩) 5 5 (i64s [x11, x12, x13, x14, x15]) (by rfl) (by rfl) (.inr ⟨_, rfl, SRC.out⟩) (by simp [i64s, Value.oneCell']) (by unfold maxLen; omega) (by rw [hz2]; omega) (by simp; omega) ?_; intro v2 w2 own2 gr2 g1 g2 g3; clear g1 g2 g3; have H2 := hideN (And.intro own2 gr2); clear own2 gr2)
  go_ret
  refine ⟨_, rfl, ints_row (l := [x3, x4, x5, x8, x9, x10, x11, x12, x13, x14, x15]) H2.out.1 (by simp), ?_⟩
  exact (HX.out.1.alloc hs _).grown H2.out.2 (by simp; omega) (fun g hg => by simp [Value.ownBlock] at hg; omega)

theorem numbers_any (r : Rec) (a : Option Addr) (m c : Nat) (w : World) (h : withinB r.kind 1 4 = true) :
    Calls Try.prog 37 #[.agg (recA r (.slice a m c))] w fun e w' => ∃ v, e = .returned v ∧ IntsIn w' w.heap.size v ((fieldsL r.kind).map r.num) ∧ Below w.heap.size w w' := by
  obtain ⟨k, n, t⟩ := r
  have h1 := within_iff.1 h
  simp only [] at h1
  have h2 : k = 1 ∨ k = 2 ∨ k = 3 ∨ k = 4 := by omega
  rcases h2 with rfl | rfl | rfl | rfl
  · exact numbers_1 (n 0) (n 1) (n 2) (n 3) (n 4) (n 5) (n 6) (n 7) (n 8) (n 9) (n 10) (n 11) (n 12) (n 13) (n 14) (n 15) ⟨t.toArray⟩ a m c w
  · exact numbers_2 (n 0) (n 1) (n 2) (n 3) (n 4) (n 5) (n 6) (n 7) (n 8) (n 9) (n 10) (n 11) (n 12) (n 13) (n 14) (n 15) ⟨t.toArray⟩ a m c w
  · exact numbers_3 (n 0) (n 1) (n 2) (n 3) (n 4) (n 5) (n 6) (n 7) (n 8) (n 9) (n 10) (n 11) (n 12) (n 13) (n 14) (n 15) ⟨t.toArray⟩ a m c w
  · exact numbers_4 (n 0) (n 1) (n 2) (n 3) (n 4) (n 5) (n 6) (n 7) (n 8) (n 9) (n 10) (n 11) (n 12) (n 13) (n 14) (n 15) ⟨t.toArray⟩ a m c w
end Go.Proofs.Ytjnjaojafimfeaa
