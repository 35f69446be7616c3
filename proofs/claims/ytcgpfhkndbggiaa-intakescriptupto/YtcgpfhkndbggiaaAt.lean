/-
  An intake in memory; letGoLine, letGoBig, letGo.
-/
import Derived.Test.YtcgpfhkndbggiaaBytesKit
import Derived.Lib.SlBytesConst
import Derived.Deep.WholeRow
namespace Go.Proofs.Ytcgpfhkndbggiaa
open Go.RowKit

/-- The intake's own block. -/
def BoxAt (w : World) (ib : Nat) (m : Int) (st nd : Nat) (v : Value) (g : Nat) : Prop :=
  w.heap[ib]? = some (.cells #[.int .i64 m, .int .i64 st, .int .i64 nd, v, .int .i64 g] 76 (0, 0))
theorem BoxAt.lt {w : World} {ib : Nat} {m : Int} {st nd : Nat} {v : Value} {g : Nat} (h : BoxAt w ib m st nd v g) : ib < w.heap.size := (Array.getElem?_eq_some_iff.1 h).1
theorem BoxAt.cell {w : World} {ib : Nat} {m : Int} {st nd : Nat} {v : Value} {g : Nat} (h : BoxAt w ib m st nd v g) :
    w.cell? ⟨ib, 0, none⟩ = some (.int .i64 m) ∧ w.cell? ⟨ib, 1, none⟩ = some (.int .i64 st) ∧ w.cell? ⟨ib, 2, none⟩ = some (.int .i64 nd) ∧ w.cell? ⟨ib, 3, none⟩ = some v ∧ w.cell? ⟨ib, 4, none⟩ = some (.int .i64 g) := by
  unfold BoxAt at h
  simp [World.cell?, h]
theorem BoxAt.free {w : World} {ib : Nat} {m : Int} {st nd : Nat} {v : Value} {g : Nat} (h : BoxAt w ib m st nd v g) (j : Nat) : w.frozen? ⟨ib, j, none⟩ = false := by
  unfold BoxAt at h
  simp [World.frozen?, h]
theorem BoxAt.below {w w' : World} {ib B : Nat} {m : Int} {st nd : Nat} {v : Value} {g : Nat} (h : BoxAt w ib m st nd v g) (hb : Below B w w') (hB : ib < B) : BoxAt w' ib m st nd v g := (hb.block ib hB).trans h
theorem BoxAt.kept {P : Nat → Prop} {w w' : World} {ib : Nat} {m : Int} {st nd : Nat} {v : Value} {g : Nat} (h : BoxAt w ib m st nd v g) (hb : Kept P w w') (hB : ¬ P ib) : BoxAt w' ib m st nd v g := (hb.block ib h.lt hB).trans h
theorem BoxAt.apart {w : World} {ib : Nat} {m : Int} {st nd : Nat} {v : Value} {g : Nat} (h : BoxAt w ib m st nd v g) (hv : ∃ a n c, v = .slice a n c) {b o : Nat} {x : Int} (hc : w.cell? ⟨b, o, none⟩ = some (.int .u8 x)) : b ≠ ib := by
  rintro rfl
  obtain ⟨a, n, c, rfl⟩ := hv
  unfold BoxAt at h
  simp only [World.cell?, h] at hc
  match o, hc with
  | 0, hc => simp at hc
  | 1, hc => simp at hc
  | 2, hc => simp at hc
  | 3, hc => simp at hc
  | 4, hc => simp at hc
  | o + 5, hc => simp at hc
theorem BoxAt.setNeed {w : World} {ib : Nat} {m : Int} {st nd : Nat} {v : Value} {g : Nat} (h : BoxAt w ib m st nd v g) (n : Nat) :
    BoxAt (w.setCell ⟨ib, 2, none⟩ (.int .i64 n)) ib m st n v g ∧ Kept (fun k => k = ib) w (w.setCell ⟨ib, 2, none⟩ (.int .i64 n)) := by
  obtain ⟨c1, c2⟩ := set_cells h 2 (.int .i64 (n : Int))
  exact ⟨by unfold BoxAt; rw [c1]; simp, Kept.setCell _ w ib 2 _ rfl⟩
theorem IsBytes.get {w : World} {a : Option Addr} {c : Nat} {l : List UInt8} (h : IsBytes w a c l) (hl : l ≠ []) : ∃ b o, a = some ⟨b, o, none⟩ ∧ b < w.heap.size ∧ ∀ (j : Nat) x, l[j]? = some x → w.cell? ⟨b, o + j, none⟩ = some (.int .u8 (x.toNat : Int)) := by
  rcases h.2.2 with h | h
  · exact absurd h hl
  · exact h
/-- The two bytes of an end, in a block of their own. -/
def endRow : Obj := .cells #[.int .u8 13, .int .u8 10] 5 (2, 3)
theorem ends (w : World) : IsBytes (w.alloc (.cells #[.int .u8 13, .int .u8 10] 5 (2, 3))) (some ⟨w.heap.size, 0, none⟩) 2 [13, 10] := by
  have h := heap_alloc_last w (.cells #[.int .u8 13, .int .u8 10] 5 (2, 3))
  refine ⟨by decide, by unfold maxLen; decide, .inr ⟨_, 0, rfl, by simp, fun j x hj => ?_⟩⟩
  match j, hj with
  | 0, hj => cases hj; unfold World.cell?; rw [h]; rfl
  | 1, hj => cases hj; unfold World.cell?; rw [h]; rfl
  | j + 2, hj => simp at hj
theorem MaxAt.below {w w' : World} {B : Nat} (h : MaxAt w) (hb : Below B w w') (hB : 0 < B) : MaxAt w' := by
  obtain ⟨m, hm⟩ := h
  exact ⟨m, (World.cell?_of_block (hb.block 0 hB)).trans hm⟩
theorem MaxAt.kept {P : Nat → Prop} {w w' : World} (h : MaxAt w) (hb : Kept P w w') (hP : ¬ P 0) : MaxAt w' := by
  obtain ⟨m, hm⟩ := h
  exact ⟨m, hb.cell hP hm⟩
theorem MaxAt.lt {w : World} (h : MaxAt w) : 0 < w.heap.size := by
  obtain ⟨m, hm⟩ := h
  exact cell_lt hm
theorem MaxAt.alloc {w : World} (h : MaxAt w) (o : Obj) : MaxAt (w.alloc o) := h.below ((Below.refl w.heap.size w).alloc (Nat.le_refl _) o) h.lt

theorem byte_eq {x y : UInt8} : ((x.toNat : Int) = (y.toNat : Int)) ↔ x = y := ⟨fun h => UInt8.toNat_inj.1 (by omega), fun h => by rw [h]⟩

set_option maxHeartbeats 2000000 in
set_option maxRecDepth 1000000 in
theorem letGoLine_any (w : World) (ib : Nat) (m : Int) (st nd : Nat) (v : Value) (g : Nat) (a : Option Addr) (c : Nat) (b : List UInt8) (hbox : BoxAt w ib m st nd v g) (hb : IsBytes w a c b) (hv : ∃ a n c, v = .slice a n c) (hlen : b.length < 4294967281) (hm : MaxAt w) :
    Calls Try.prog 49 #[.pointer (some ⟨ib, 0, none⟩), .slice a b.length c] w fun e w' => e = .returned (.int .i64 (letGoLine nd b).1) ∧ BoxAt w' ib m st (letGoLine nd b).2 v g ∧ Kept (fun k => k = ib) w w' := by
  have k2 : w.cell? ⟨ib, 2, none⟩ = some (.int .i64 nd) := hbox.cell.2.2.1
  have f2 : w.frozen? ⟨ib, 2, none⟩ = false := hbox.free 2
  have hlt := hbox.lt
  have HB : Hid (IsBytes w a c b) := hb
  have HX : Hid (BoxAt w ib m st nd v g) := hbox
  have HM : Hid (MaxAt w) := hm
  clear hb hbox hm
  by_cases h0 : nd = 0
  · subst h0
    have hz : decide (((0 : Nat) : Int) = 0) = true := rfl
    go_enter Try.func49, Try.ntmps49
    go_wp2
    go_ret
    exact ⟨by simp [letGoLine], by simpa [letGoLine] using HX.out, Kept.refl _ _⟩
  have e0 : ((nd : Int) == 0) = false := by simp; omega
  by_cases hnil : b = []
  · subst hnil
    go_enter Try.func49, Try.ntmps49
    go_wp2
    go_ret
    exact ⟨by simp [letGoLine], by simpa [letGoLine] using HX.out, Kept.refl _ _⟩
  obtain ⟨bb, oo, rfl, hbb, hcell⟩ := HB.out.get hnil
  obtain ⟨x, r, rfl⟩ : ∃ x r, b = x :: r := by cases b with | nil => exact absurd rfl hnil | cons x r => exact ⟨x, r, rfl⟩
  have c0 : w.cell? ⟨bb, oo, none⟩ = some (.int .u8 (x.toNat : Int)) := hcell 0 x rfl
  have hne : bb ≠ ib := HX.out.apart hv c0
  by_cases h1 : nd = 1 ∧ x = 10
  · obtain ⟨rfl, rfl⟩ := h1
    have c0' : w.cell? ⟨bb, oo, none⟩ = some (.int .u8 10) := c0
    clear c0 hcell
    go_enter Try.func49, Try.ntmps49
    go_wp2
    go_ret
    obtain ⟨q1, q2⟩ := HX.out.setNeed 0
    exact ⟨by simp [letGoLine], by simpa [letGoLine] using q1, q2⟩
  have HN : Hid (letGoLine nd (x :: r) = lineEnd (x :: r)) := by
    show letGoLine nd (x :: r) = _
    unfold letGoLine
    rw [if_neg (by simp [h0]), if_neg (by simpa using h1)]
  obtain ⟨y, hy⟩ : ∃ y, (x :: r).getLast? = some y := ⟨_, List.getLast?_eq_some_getLast (by simp)⟩
  have cl : w.cell? ⟨bb, oo + r.length, none⟩ = some (.int .u8 (y.toNat : Int)) := hcell r.length y (by rw [List.getLast?_eq_getElem?] at hy; simpa using hy)
  have HC : Hid (w.cell? ⟨bb, oo + r.length, none⟩ = some (.int .u8 (y.toNat : Int))) := cl
  have HY : Hid ((x :: r).getLast? = some y) := hy
  have hpick : (((nd : Int) == 1) = true ∧ ((x.toNat : Int) == 10) = false) ∨ ((nd : Int) == 1) = false := by
    by_cases hn : nd = 1
    · refine .inl ⟨by simp [hn], ?_⟩
      have : x ≠ 10 := fun e => h1 ⟨hn, e⟩
      have h2 : ¬ (x.toNat : Int) = ((10 : UInt8).toNat : Int) := fun e => this (byte_eq.1 e)
      simpa using h2
    · exact .inr (by simp; omega)
  clear hcell hy cl
  have kc := fun (w : World) (C : Array Value) (n c : Nat) => Lib.run_convert_bytes_const (P := Try.prog) w 30 5 C n c Try.underlying30 Try.underlying5
  have hr0 : ((r.length : Int) + 1 == 0) = false := by simp; omega
  have hlen' : r.length + 1 < 4294967281 := hlen
  rcases hpick with ⟨p1, p2⟩ | p1
  all_goals (
    go_enter Try.func49, Try.ntmps49
    go_wp2_with fail
    refine (index_any (some ⟨bb, oo, none⟩) (some ⟨w.heap.size, 0, none⟩) c 2 (x :: r) _ (HB.out.below ((Below.refl _ w).alloc (Nat.le_refl _) _)) (fun h => by cases h) (ends w) hlen (HM.out.alloc _)).mono ?_
    rintro e w1 ⟨rfl, B1⟩
    have B0 : Below w.heap.size w w1 := ((Below.refl _ w).alloc (Nat.le_refl _) _).trans (B1.mono (by simp))
    have bx1 := HX.out.below B0 hlt
    have k2' : w1.cell? ⟨ib, 2, none⟩ = some (.int .i64 nd) := bx1.cell.2.2.1
    have f2' : w1.frozen? ⟨ib, 2, none⟩ = false := bx1.free 2
    have hlt1 := bx1.lt
    have hl1 : w1.cell? ⟨bb, oo + r.length, none⟩ = some (.int .u8 (y.toNat : Int)) := (B0.cell (p := ⟨bb, oo + r.length, none⟩) hbb).trans HC.out
    have HX1 : Hid (BoxAt w1 ib m st nd v g) := bx1
    have HB0 : Hid (Kept (fun k => k = ib) w w1) := Kept.ofBelow B0
    clear B1 B0 bx1 k2 f2 c0
    cases hf : find (x :: r) with
    | some k =>
      have hk := find_room hf
      have hk' : (k : Int) + 2 ≤ 4294967281 := by omega
      have HF : Hid (find (x :: r) = some k) := hf
      clear hf
      simp only [Option.elim_some]
      go_wp2
      go_ret
      obtain ⟨q1, q2⟩ := HX1.out.setNeed 0
      exact ⟨by rw [HN.out, lineEnd_some HF.out]; simp, by rw [HN.out, lineEnd_some HF.out]; exact q1, HB0.out.trans q2⟩
    | none =>
      have HF : Hid (find (x :: r) = none) := hf
      clear hf
      simp only [Option.elim_none]
      by_cases hy : y = 13
      · subst hy
        have hl2 : w1.cell? ⟨bb, oo + r.length, none⟩ = some (.int .u8 13) := hl1
        clear hl1
        go_wp2
        go_ret
        obtain ⟨q1, q2⟩ := HX1.out.setNeed 2
        obtain ⟨q3, q4⟩ := q1.setNeed 1
        exact ⟨by rw [HN.out, lineEnd_none HF.out]; simp, by rw [HN.out, lineEnd_none HF.out, HY.out]; simpa using q3, (HB0.out.trans q2).trans q4⟩
      · have hy2 : ¬ (y.toNat : Int) = ((13 : UInt8).toNat : Int) := fun e => hy (byte_eq.1 e)
        have hy3 : ((y.toNat : Int) == 13) = false := by simpa using hy2
        go_wp2
        go_ret
        obtain ⟨q1, q2⟩ := HX1.out.setNeed 2
        exact ⟨by rw [HN.out, lineEnd_none HF.out]; simp, by rw [HN.out, lineEnd_none HF.out, HY.out]; simpa [hy] using q1, HB0.out.trans q2⟩)
end Go.Proofs.Ytcgpfhkndbggiaa
