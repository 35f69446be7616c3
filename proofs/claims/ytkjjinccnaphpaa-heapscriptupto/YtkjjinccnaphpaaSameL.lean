/-
  Lists of numbers, and 'same'.
-/
import Derived.Test.YtkjjinccnaphpaaKit
import Derived.Maps.AppendAt
namespace Go.Proofs.Ytkjjinccnaphpaa
open Go.RowKit

theorem info_int : (Try.prog.info? 3).map (fun i => (i.zero, i.size, i.bytes)) = some (some (.int .i64 0), 1, 8) := by kernel_rfl
def ints (l : List Int) : List Value := l.map (Value.int .i64)
theorem ints_length (l : List Int) : (ints l).length = l.length := by simp [ints]
theorem ints_append (a b : List Int) : ints (a ++ b) = ints a ++ ints b := by simp [ints]
abbrev Nums (W : World) (B : Nat) (v : Value) (l : List Int) : Prop := W.ownsRow B 3 1 v l.length (ints l)
theorem Nums.form {W : World} {B : Nat} {v : Value} {l : List Int} (h : Nums W B v l) : ∃ a c, v = .slice a l.length c := by
  rcases h.2 with ⟨rfl, h0⟩ | ⟨g, cap, cur, rfl, _⟩
  · exact ⟨none, 0, by rw [h0]⟩
  · exact ⟨_, _, rfl⟩
theorem Nums.cell {W : World} {B : Nat} {a : Option Addr} {n c : Nat} {l : List Int} (h : Nums W B (.slice a n c) l) {i : Nat} {x : Int} (hx : l[i]? = some x) : ∃ g, a = some ⟨g, 0, none⟩ ∧ W.cell? ⟨g, i, none⟩ = some (.int .i64 x) := by
  have hil := (List.getElem?_eq_some_iff.1 hx).1
  rcases h.2 with ⟨_, h0⟩ | ⟨g, cap, cur, hv, _, hg, h1, h2, h3, h4⟩
  · omega
  · simp only [Value.slice.injEq] at hv
    refine ⟨g, hv.1, ?_⟩
    have h5 : (ints l)[i]? = some (.int .i64 x) := by simp [ints, hx]
    rw [← h4, List.getElem?_take_of_lt (by omega)] at h5
    simpa [World.cell?, hg] using h5
theorem Nums.block {W : World} {B : Nat} {v : Value} {l : List Int} (h : Nums W B v l) {g : Nat} (hg : v.ownBlock = some g) : ∃ cur, W.heap[g]? = some (.cells cur 3 (0, 0)) ∧ B ≤ g := by
  rcases h.2 with ⟨rfl, _⟩ | ⟨g', cap, cur, rfl, hB, hc, _⟩
  · cases hg
  · cases hg; exact ⟨cur, hc, hB⟩

theorem Nums.below {W W' : World} {B : Nat} {v : Value} {l : List Int} (h : Nums W B v l) (hb : Below W.heap.size W W') : Nums W' B v l := (Kept.ofBelow (P := fun _ => False) hb).own h (fun _ _ h => h)
set_option maxHeartbeats 4000000 in
set_option maxRecDepth 1000000 in
theorem same_any (B B' : Nat) (v v' : Value) (l : List Int) (w : World) (h : Nums w B v l) (h' : Nums w B' v' l) (hl : l.length ≤ 1073741823) :
    Calls Try.prog 33 #[v, v'] w fun e w' => e = .returned (.bool true) ∧ Below w.heap.size w w' := by
  obtain ⟨a, c, rfl⟩ := h.form
  obtain ⟨a', c', rfl⟩ := h'.form
  have HR : Hid (Nums w B (.slice a l.length c) l) := h
  have HR' : Hid (Nums w B' (.slice a' l.length c') l) := h'
  clear h h'
  go_enter Try.func33, Try.ntmps33
  go_wp2_with fail
  go_loopg [13] l.length (fun gk s13 wr => ∃ i : Nat, s13 = .int .i64 (i : Int) ∧ i ≤ l.length ∧ l.length - i ≤ gk ∧ Hid (Below w.heap.size w wr))
  case atStart => exact ⟨0, rfl, Nat.zero_le _, Nat.le_refl _, Below.refl _ _⟩
  case round =>
    obtain ⟨i, rfl, hil, hgk, HB⟩ := hrel
    by_cases hlt : i < l.length
    · have t1 : (i : Int) < (l.length : Int) := by omega
      obtain ⟨x, hx⟩ : ∃ x, l[i]? = some x := ⟨_, List.getElem?_eq_getElem hlt⟩
      obtain ⟨g, rfl, cx⟩ := HR.out.cell hx
      obtain ⟨g', rfl, cx'⟩ := HR'.out.cell hx
      have cx2 : wr.cell? ⟨g, i, none⟩ = some (.int .i64 x) := (HB.out.cell (p := ⟨g, i, none⟩) (cell_lt cx)).trans cx
      have cx3 : wr.cell? ⟨g', i, none⟩ = some (.int .i64 x) := (HB.out.cell (p := ⟨g', i, none⟩) (cell_lt cx')).trans cx'
      clear cx cx' hx
      go_wp2_with fail
      go_quiet (fail)
      generalize hWd : wr.drewN _ = Wd
      have HB2 : Hid (Below w.heap.size w Wd) := HB.out.trans (by rw [← hWd]; exact ⟨rfl, rfl, rfl, Nat.le_refl _, fun _ _ => rfl⟩)
      clear hWd
      go_wp2_with fail
      go_roundg (l.length - (i + 1))
      case measure => omega
      case rel => exact ⟨i + 1, by go_num, by omega, Nat.le_refl _, HB2⟩
    · have t1 : ¬ (i : Int) < (l.length : Int) := by omega
      go_wp2_with fail
      go_ret
      exact ⟨rfl, HB.out⟩
end Go.Proofs.Ytkjjinccnaphpaa
