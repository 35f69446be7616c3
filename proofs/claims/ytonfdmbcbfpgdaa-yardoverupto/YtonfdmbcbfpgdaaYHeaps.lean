/-
  The heaps in which a job stands.
-/
import Derived.Test.YtonfdmbcbfpgdaaYSteps
namespace Go.Proofs.Ytonfdmbcbfpgdaa
open Go.RowKit
theorem wp_still {P : Program} {id : Nat} {Q : Exit → Act → World → Prop} {a : Act} {w : World} {l : List Oper} (hm : P.follows .mixedOrders = true) (hB : Region.lexB .any l.toArray = true)
    (h : wpStill P l.toArray w.drew (fun a' => Q .normal a' w.drew) l a) : (Code.region id l.toArray true).wp P Q a w := wp_region_still_lit hm hB h
def ksOf (j : Jb) : List HK := if j.st = 1 then [hkT 0 j.nm] else if j.st = 2 then [hkT 1 j.nm, hkD] else if j.st = 3 then [hkH j.ho, hkR] else [hkT 2 j.nm]
theorem zero_ptr (w : World) : (zeroValue 52).run Try.prog w = .ok (.pointer none) w := by kernel_rfl
theorem zero_hptr (w : World) : (zeroValue 57).run Try.prog w = .ok (.pointer none) w := by kernel_rfl
/-- What the yard's box says. -/
theorem YAt.cells {w : World} {lab : Nat → HK} {yb : Nat} {Y : Yd} (h : YAt w lab yb Y) {d r : HM} (hd : Y.hp hkD = some d) (hr : Y.hp hkR = some r) :
    w.cell? ⟨yb, 0, none⟩ = some (.map (some Y.jm)) ∧ w.cell? ⟨yb, 1, none⟩ = some (.map (some Y.tm)) ∧ w.cell? ⟨yb, 2, none⟩ = some (.map (some Y.hm)) ∧ w.cell? ⟨yb, 3, none⟩ = some (ptrV d.hb) ∧ w.cell? ⟨yb, 4, none⟩ = some (ptrV r.hb) := by
  obtain ⟨d', r', hd', hr', hb⟩ := h.box
  rw [hd] at hd'
  rw [hr] at hr'
  cases hd'
  cases hr'
  refine ⟨?_, ?_, ?_, ?_, ?_⟩ <;> simp [World.cell?, hb]
theorem YAt.two {w : World} {lab : Nat → HK} {yb : Nat} {Y : Yd} (h : YAt w lab yb Y) : ∃ d r, Y.hp hkD = some d ∧ Y.hp hkR = some r := by
  obtain ⟨d, r, hd, hr, _⟩ := h.box
  exact ⟨d, r, hd, hr⟩
theorem YAt.tubeCells {w : World} {lab : Nat → HK} {yb : Nat} {Y : Yd} (h : YAt w lab yb Y) {t : ByteArray} {b : Nat} (ht : Y.tb t = some b) : ∃ h0 h1 h2, Y.hp (hkT 0 t) = some h0 ∧ Y.hp (hkT 1 t) = some h1 ∧ Y.hp (hkT 2 t) = some h2 ∧ b < w.heap.size ∧
    w.cell? ⟨b, 0, none⟩ = some (ptrV h0.hb) ∧ w.cell? ⟨b, 1, none⟩ = some (ptrV h1.hb) ∧ w.cell? ⟨b, 2, none⟩ = some (ptrV h2.hb) := by
  obtain ⟨_, h0, h1, h2, e0, e1, e2, hb⟩ := h.tube t b ht
  refine ⟨h0, h1, h2, e0, e1, e2, (Array.getElem?_eq_some_iff.1 hb).1, ?_, ?_, ?_⟩ <;> simp [World.cell?, hb]
/-- A job in a box. -/
def JobBox (w : World) (b : Nat) (j : Jb) (bv : Value) : Prop := w.heap[b]? = some (.cells (j.cells bv) 41 (0, 0))
theorem JobBox.lt {w : World} {b : Nat} {j : Jb} {bv : Value} (h : JobBox w b j bv) : b < w.heap.size := (Array.getElem?_eq_some_iff.1 (show w.heap[b]? = _ from h)).1
theorem JobBox.at {w : World} {b : Nat} {j : Jb} {bv : Value} (h : JobBox w b j bv) : w.cell? ⟨b, 0, none⟩ = some (.int .i64 j.id) ∧ w.cell? ⟨b, 5, none⟩ = some (.int .i64 j.st) ∧ w.cell? ⟨b, 8, none⟩ = some (.int .i64 j.ho) ∧ w.cell? ⟨b, 14, none⟩ = some (.string j.nm) ∧ w.cell? ⟨b, 15, none⟩ = some bv := by
  have h := job_cells (show w.heap[b]? = _ from h)
  exact ⟨h.1 0 _ rfl, h.1 5 _ rfl, h.1 8 _ rfl, h.1 14 _ rfl, h.1 15 _ rfl⟩
theorem JobBox.new (w : World) (j : Jb) (bv : Value) : JobBox (w.alloc (.cells (j.cells bv) 41)) w.heap.size j bv := heap_alloc_new w _
theorem JobBox.later {w w' : World} {b : Nat} {j : Jb} {bv : Value} (h : JobBox w b j bv) (hb : Below w.heap.size w w') : JobBox w' b j bv := (hb.block b h.lt).trans h

set_option maxHeartbeats 4000000 in
set_option maxRecDepth 1000000 in
theorem heapsOf_any (j : Jb) (bv : Value) (w : World) (lab : Nat → HK) (yb : Nat) (Y : Yd) (h : YAt w lab yb Y) (hj : j.ok) (b : Nat) (hb : Y.tb j.nm = some b) (hh : j.st = 3 → (Y.hp (hkH j.ho)).isSome = true) :
    Calls Try.prog 63 #[ptrV yb, .agg (j.cells bv)] w fun e w' => ∃ g c, e = .returned (.slice (some ⟨g, 0, none⟩) (ksOf j).length c) ∧ (∀ (i : Nat) K x, (ksOf j)[i]? = some K → Y.hp K = some x → w'.cell? ⟨g, i, none⟩ = some (ptrV x.hb)) ∧ w.heap.size ≤ g ∧ g < w'.heap.size ∧ Below w.heap.size w w' := by
  obtain ⟨w1, hw1⟩ : ∃ w1, w1 = w.alloc (.cells (j.cells bv) 41) := ⟨_, rfl⟩
  obtain ⟨jb, hjb⟩ : ∃ jb, jb = w.heap.size := ⟨_, rfl⟩
  have B1 : Below w.heap.size w w1 := by rw [hw1]; exact (Below.refl _ w).alloc (Nat.le_refl _) _
  have J1 : JobBox w1 jb j bv := by rw [hw1, hjb]; exact JobBox.new w j bv
  have A1 : YAt w1 lab yb Y := h.below B1 (fun _ _ => rfl)
  obtain ⟨d, r, hd, hr⟩ := A1.two
  obtain ⟨y0, y1, y2, y3, y4⟩ := A1.cells hd hr
  obtain ⟨h0, h1, h2, e0, e1, e2, tlt, t0, t1, t2⟩ := A1.tubeCells hb
  obtain ⟨q0, q5, q8, q14, q15⟩ := J1.at
  have jlt := J1.lt
  have ylt := A1.yb_lt
  have hlk : (Instr.lookup 55 (.map (some Y.tm)) (.string j.nm) false).run Try.prog w1.drew = .ok (ptrV b) w1.drew := by
    have := (A1.tubs.later (Below.refl _ w1).drew).look_run (w := w1.drew) Try.underlying55 (zero_ptr _) j.nm hj.2.2.2.2.2.2.2.2.2.2.2.2.2.2
    rw [hb] at this
    exact this
  have hlh : ∀ x, Y.hp (hkH j.ho) = some x → (Instr.lookup 56 (.map (some Y.hm)) (.int .i64 j.ho) false).run Try.prog w1.drew.drew = .ok (ptrV x.hb) w1.drew.drew := fun x hx => by
    have := (A1.hels.later ((Below.refl _ w1).drew.drew)).look_run (w := w1.drew.drew) Try.underlying56 (zero_hptr _) j.ho hj.2.2.2.2.2.2.2.2.1
    rw [hx] at this
    exact this
  have BB : Hid (Below w.heap.size w w1) := B1
  have HW1 : Hid (w1 = w.alloc (.cells (j.cells bv) 41)) := hw1
  have HJB : Hid (jb = w.heap.size) := hjb
  have HS : Hid (w1.heap.size = jb + 1) := by
    have z : w1.heap.size = jb + 1 := by rw [hw1, hjb]; simp
    exact z
  clear hw1 hjb B1 J1 A1 y0 q0 q15
  go_enter Try.func63, Try.ntmps63
  go_upto_region 1 with fail
  rw [← HW1.out, ← HJB.out]
  refine wp_still mixed (by kernel_rfl) ?_
  repeat still_step
  refine wpStill_nil ?_
  by_cases s1 : j.st = 1
  · go_wp2_with fail
    go_ret
    have e9 : ksOf j = [hkT 0 j.nm] := by unfold ksOf; rw [if_pos s1]
    rw [e9]
    refine ⟨w1.heap.size, _, rfl, fun i K x hi hx => ?_, by have := HS.out; have := HJB.out; omega, by simp, ?_⟩
    · match i, hi with
      | 0, hi =>
        obtain rfl : hkT 0 j.nm = K := by simpa using hi
        rw [e0] at hx
        cases hx
        simp [go_sem]
    · exact BB.out.trans (Below.mono (B := w1.heap.size) ((Below.refl _ w1).drew.alloc (Nat.le_refl _) _) (by have := HS.out; have := HJB.out; omega))
  by_cases s2 : j.st = 2
  · go_wp2_with fail
    refine wp_tail 8 mixed (by kernel_rfl) ?_
    simp only [List.take_succ_cons, List.take_zero, List.drop_succ_cons, List.drop_zero]
    repeat still_step
    refine wpStill_nil ?_
    go_wp2_with fail
    go_ret
    have e9 : ksOf j = [hkT 1 j.nm, hkD] := by unfold ksOf; rw [if_neg s1, if_pos s2]
    rw [e9]
    refine ⟨w1.heap.size, _, rfl, fun i K x hi hx => ?_, by have := HS.out; have := HJB.out; omega, by simp, ?_⟩
    · match i, hi with
      | 0, hi =>
        obtain rfl : hkT 1 j.nm = K := by simpa using hi
        rw [e1] at hx
        cases hx
        simp [go_sem]
      | 1, hi =>
        obtain rfl : hkD = K := by simpa using hi
        rw [hd] at hx
        cases hx
        simp [go_sem]
    · exact BB.out.trans (Below.mono (B := w1.heap.size) ((Below.refl _ w1).drew.drew.alloc (Nat.le_refl _) _) (by have := HS.out; have := HJB.out; omega))
  by_cases s3 : j.st = 3
  · obtain ⟨x3, hx3⟩ := Option.isSome_iff_exists.1 (hh s3)
    have hl3 := hlh x3 hx3
    go_wp2_with fail
    refine wp_tail 11 mixed (by kernel_rfl) ?_
    simp only [List.take_succ_cons, List.take_zero, List.drop_succ_cons, List.drop_zero]
    repeat still_step
    refine wpStill_nil ?_
    go_wp2_with fail
    go_ret
    have e9 : ksOf j = [hkH j.ho, hkR] := by unfold ksOf; rw [if_neg s1, if_neg s2, if_pos s3]
    rw [e9]
    refine ⟨w1.heap.size, _, rfl, fun i K x hi hx => ?_, by have := HS.out; have := HJB.out; omega, by simp, ?_⟩
    · match i, hi with
      | 0, hi =>
        obtain rfl : hkH j.ho = K := by simpa using hi
        rw [hx3] at hx
        cases hx
        simp [go_sem]
      | 1, hi =>
        obtain rfl : hkR = K := by simpa using hi
        rw [hr] at hx
        cases hx
        simp [go_sem]
    · exact BB.out.trans (Below.mono (B := w1.heap.size) ((Below.refl _ w1).drew.drew.alloc (Nat.le_refl _) _) (by have := HS.out; have := HJB.out; omega))
  · go_wp2_with fail
    go_ret
    have e9 : ksOf j = [hkT 2 j.nm] := by unfold ksOf; rw [if_neg s1, if_neg s2, if_neg s3]
    rw [e9]
    refine ⟨w1.heap.size, _, rfl, fun i K x hi hx => ?_, by have := HS.out; have := HJB.out; omega, by simp, ?_⟩
    · match i, hi with
      | 0, hi =>
        obtain rfl : hkT 2 j.nm = K := by simpa using hi
        rw [e2] at hx
        cases hx
        simp [go_sem]
    · exact BB.out.trans (Below.mono (B := w1.heap.size) ((Below.refl _ w1).drew.alloc (Nat.le_refl _) _) (by have := HS.out; have := HJB.out; omega))
end Go.Proofs.Ytonfdmbcbfpgdaa
