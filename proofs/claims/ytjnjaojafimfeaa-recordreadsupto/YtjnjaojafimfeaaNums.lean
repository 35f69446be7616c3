/-
  The walks of hasOther, mayBe.
-/
import Derived.Test.YtjnjaojafimfeaaSmall
namespace Go.Proofs.Ytjnjaojafimfeaa
open Go.RowKit

/-- The numbers lie in a block. -/
def NumsAt (w : World) (b : Nat) (n : Nat → Int) : Prop := w.heap[b]? = some (.cells (numsA n) 53 (0, 0))
theorem NumsAt.cell {w : World} {b : Nat} {n : Nat → Int} (h : NumsAt w b n) (f : Nat) (hf : f < 16) : w.cell? ⟨b, f, none⟩ = some (.int .i64 (n f)) := by
  rw [cell_of_row w b f _ _ (0, 0) h, numsA_get n f hf]
theorem NumsAt.frozen {w : World} {b : Nat} {n : Nat → Int} (h : NumsAt w b n) (f : Nat) : w.frozen? ⟨b, f, none⟩ = false := frozen_of_row w b f _ _ h
theorem NumsAt.lt {w : World} {b : Nat} {n : Nat → Int} (h : NumsAt w b n) : b < w.heap.size := (Array.getElem?_eq_some_iff.1 (show w.heap[b]? = _ from h)).1
theorem NumsAt.set {w : World} {b : Nat} {n : Nat → Int} (h : NumsAt w b n) (f : Nat) (x : Int) : NumsAt (w.setCell ⟨b, f, none⟩ (.int .i64 x)) b (upd n f x) := by
  unfold NumsAt
  rw [heap_setCell_same w b f _ _ _ h, numsA_set]
theorem NumsAt.below {w w' : World} {b : Nat} {n : Nat → Int} (h : NumsAt w b n) (hb : Below w.heap.size w w') : NumsAt w' b n := (hb.block b h.lt).trans h
theorem clr_step {k j f : Nat} (l : List Nat) (n : Nat → Int) (h : l[j]? = some f) (_hk : k = j) : upd (clr (l.take j) n) f 0 = clr (l.take (j + 1)) n := by
  have hj := (List.getElem?_eq_some_iff.1 h).1
  have e : l.take (j + 1) = l.take j ++ [f] := by
    rw [List.take_succ_eq_append_getElem hj]
    congr 2
    exact (List.getElem?_eq_some_iff.1 h).2
  funext g
  unfold upd clr
  rw [e]
  by_cases h1 : g = f
  · simp [h1]
  · simp [h1]
theorem field_at {l : List Nat} {j : Nat} (h : j < l.length) : ∃ f, l[j]? = some f ∧ f ∈ l := ⟨l[j], List.getElem?_eq_getElem h, List.getElem_mem h⟩

set_option maxHeartbeats 1000000 in
set_option maxRecDepth 1000000 in
theorem hasOther_any (n : Nat → Int) (k : Int) (w : World) :
    Calls Try.prog 28 #[.agg (numsA n), .int .i64 k] w fun e w' => e = .returned (.bool (!zeroB (clr (fieldsL k) n))) ∧ Below w.heap.size w w' := by
  have hlen := fields_len k
  obtain ⟨C, hC⟩ : ∃ C, C = numsA n := ⟨_, rfl⟩
  have hsz : C.size = 16 := by rw [hC]; rfl
  have HC : Hid (C = numsA n) := hC
  rw [← hC]
  clear hC
  go_enter Try.func28, Try.ntmps28
  go_wp2_with (first
    | (go_at_call 45; refine (fieldsOf_any _ _).mono ?_; rintro e w1 ⟨fa, rfl, B1, hfa⟩))
  obtain ⟨fb, hfb⟩ : ∃ fb, fb = (w.alloc (.cells C 53)).heap.size := ⟨_, rfl⟩
  have hne : fb ≠ w.heap.size := by rw [hfb]; simp
  have B2 : Below w.heap.size w w1 := ((Below.refl _ w).alloc (Nat.le_refl _) _).trans (B1.mono (by simp))
  have N1 : NumsAt w1 w.heap.size n := (B1.block _ (by simp)).trans (by rw [HC.out]; exact heap_alloc_last _ _)
  rw [← hfb] at hfa
  have HFA : Hid ((fieldsL k).length = 0 ∨ fa = some ⟨fb, 0, none⟩ ∧ FieldsAt w1 fb (fieldsL k) ∧ fb < w1.heap.size) := hfa
  clear hfa B1 hfb
  have HI : Hid (Kept (fun q => q = w.heap.size) w1 w1 ∧ NumsAt w1 w.heap.size (clr ((fieldsL k).take 0) n)) := ⟨Kept.refl _ _, by rw [show clr ((fieldsL k).take 0) n = n from by funext g; simp [clr]]; exact N1⟩
  go_loopg [10] (fieldsL k).length (fun gk i wr => ∃ j : Nat, i = .int .i64 j ∧ j ≤ (fieldsL k).length ∧ (fieldsL k).length - j ≤ gk ∧ Hid (Kept (fun q => q = w.heap.size) w1 wr ∧ NumsAt wr w.heap.size (clr ((fieldsL k).take j) n)))
  case atStart => exact ⟨0, rfl, Nat.zero_le _, Nat.le_refl _, HI⟩
  case round =>
    obtain ⟨j, rfl, hj, hgk, HK⟩ := hrel
    by_cases hlt : j < (fieldsL k).length
    · obtain ⟨f, hf, hfm⟩ := field_at hlt
      have hf16 := fields_lt hfm
      rcases HFA.out with h0 | ⟨rfl, hF, _⟩
      · omega
      have hF2 := hF.kept HK.out.1 (by omega)
      have hc1 := hF2 j f hf
      have hc2 := HK.out.2.cell f hf16
      have hc3 := HK.out.2.frozen f
      have i1 : (0 : Int) ≤ (f : Int) := by omega
      have i2 : (f : Int) < 16 := by omega
      have HX : Hid ((fieldsL k)[j]? = some f) := hf
      clear hF2 hf
      go_wp2_with fail
      go_roundg ((fieldsL k).length - (j + 1))
      case measure => omega
      case rel => exact ⟨j + 1, by go_num, by omega, Nat.le_refl _, HK.out.1.trans (Kept.setCell _ _ _ _ _ rfl), by rw [← clr_step _ _ HX.out rfl]; exact HK.out.2.set f 0⟩
    · obtain rfl : j = (fieldsL k).length := by omega
      have hz := equal_zero (clr (fieldsL k) n) wr
      have HN : Hid (NumsAt wr w.heap.size (clr (fieldsL k) n)) := by
        have := HK.out.2
        rw [List.take_length] at this
        exact this
      have HB : Hid (Below w.heap.size w wr) := B2.trans (HK.out.1.below B2.size (fun q hq => by omega))
      go_wp2_with (refine wpList_load_row rfl 53 (.tmp 2) rfl w.heap.size rfl 53 (numsA (clr (fieldsL k) n)) (0, 0) _ HN.out Try.underlying53 rfl info_nums ?_)
      go_ret
      exact ⟨rfl, HB.out⟩

theorem may_no (k : Int) (n : Nat → Int) (f : Nat) (hf : f ∈ fieldsL k) (h : withinB (n f) (bndL f (n 8)) (bndH f (n 8)) = false) : mayBeB k n = false := by
  unfold mayBeB
  rw [show (fieldsL k).all (fun f => withinB (n f) (bndL f (n 8)) (bndH f (n 8))) = false from List.all_eq_false.2 ⟨f, hf, by simp [h]⟩]
  rfl
theorem may_step {j f : Nat} (l : List Nat) (p : Nat → Bool) (_n : Nat) (h : l[j]? = some f) (ha : (l.take j).all p = true) (hp : p f = true) : (l.take (j + 1)).all p = true := by
  have hj := (List.getElem?_eq_some_iff.1 h).1
  have e : l[j] = f := (List.getElem?_eq_some_iff.1 h).2
  rw [List.take_succ_eq_append_getElem hj, List.all_append, ha, e]
  simp [hp]
set_option maxHeartbeats 1000000 in
set_option maxRecDepth 1000000 in
theorem mayBe_any (n : Nat → Int) (k : Int) (w : World) :
    Calls Try.prog 29 #[.agg (numsA n), .int .i64 k] w fun e w' => e = .returned (.bool (mayBeB k n)) ∧ Below w.heap.size w w' := by
  have hlen := fields_len k
  obtain ⟨C, hC⟩ : ∃ C, C = numsA n := ⟨_, rfl⟩
  have hsz : C.size = 16 := by rw [hC]; rfl
  have HC : Hid (C = numsA n) := hC
  rw [← hC]
  clear hC
  go_enter Try.func29, Try.ntmps29
  go_wp2_with (first
    | (go_at_call 45; refine (fieldsOf_any _ _).mono ?_; rintro e w1 ⟨fa, rfl, B1, hfa⟩))
  obtain ⟨fb, hfb⟩ : ∃ fb, fb = (w.alloc (.cells C 53)).heap.size := ⟨_, rfl⟩
  have B2 : Below w.heap.size w w1 := ((Below.refl _ w).alloc (Nat.le_refl _) _).trans (B1.mono (by simp))
  have N1 : NumsAt w1 w.heap.size n := (B1.block _ (by simp)).trans (by rw [HC.out]; exact heap_alloc_last _ _)
  rw [← hfb] at hfa
  have HFA : Hid ((fieldsL k).length = 0 ∨ fa = some ⟨fb, 0, none⟩ ∧ FieldsAt w1 fb (fieldsL k) ∧ fb < w1.heap.size) := hfa
  have HN1 : Hid (NumsAt w1 w.heap.size n) := N1
  have HB2 : Hid (Below w.heap.size w w1) := B2
  have hc8 := N1.cell 8 (by decide)
  clear hfa B1 hfb N1 B2
  go_loopg [12] (fieldsL k).length (fun gk i wr => ∃ j : Nat, i = .int .i64 j ∧ j ≤ (fieldsL k).length ∧ (fieldsL k).length - j ≤ gk ∧ wr = w1 ∧ Hid (((fieldsL k).take j).all (fun f => withinB (n f) (bndL f (n 8)) (bndH f (n 8))) = true))
  case atStart => exact ⟨0, rfl, Nat.zero_le _, Nat.le_refl _, rfl, by show _ = true; simp⟩
  case round =>
    obtain ⟨j, rfl, hj, hgk, hwr, HA⟩ := hrel
    subst hwr
    by_cases hlt : j < (fieldsL k).length
    · obtain ⟨f, hf, hfm⟩ := field_at hlt
      have hf16 := fields_lt hfm
      rcases HFA.out with h0 | ⟨rfl, hF, _⟩
      · omega
      have hc1 := hF j f hf
      have hc2 := HN1.out.cell f hf16
      have i1 : (0 : Int) ≤ (f : Int) := by omega
      have i2 : (f : Int) < 16 := by omega
      have HX : Hid ((fieldsL k)[j]? = some f) := hf
      clear hf hF
      obtain ⟨q, hq⟩ : ∃ q, q = withinB (n f) (bndL f (n 8)) (bndH f (n 8)) := ⟨_, rfl⟩
      have HQ : Hid (q = withinB (n f) (bndL f (n 8)) (bndH f (n 8))) := hq
      have hwc := within_any (n f) (bndL f (n 8)) (bndH f (n 8)) wr
      rw [← hq] at hwc
      have HWC : Hid (Calls Try.prog 25 #[.int .i64 (n f), .int .i64 (bndL f (n 8)), .int .i64 (bndH f (n 8))] wr fun e w' => e = .returned (.bool q) ∧ w' = wr) := hwc
      clear hq hwc
      go_wp2_with (first
        | (go_at_call 46; refine (bounds_any f hf16 _ _).mono ?_; rintro e w' ⟨rfl, hw'⟩; obtain rfl := hw'.symm)
        | (go_at_call 25; refine HWC.out.mono ?_; rintro e w' ⟨rfl, hw'⟩; obtain rfl := hw'.symm))
      · go_ret
        rename_i hq
        have hqf : q = false := by simpa using hq
        refine ⟨?_, HB2.out⟩
        rw [may_no k n f hfm (by rw [← HQ.out]; exact hqf)]
        rfl
      · rename_i hq
        have hqt : q = true := by simpa using hq
        go_roundg ((fieldsL k).length - (j + 1))
        case measure => omega
        case rel => exact ⟨j + 1, by go_num, by omega, Nat.le_refl _, rfl, may_step _ _ 0 HX.out HA.out (by rw [← HQ.out]; exact hqt)⟩
    · go_wp2_with fail
      go_ret
      refine ⟨?_, HB2.out⟩
      have : j = (fieldsL k).length := by omega
      have ha := HA.out
      rw [this, List.take_length] at ha
      unfold mayBeB
      rw [ha]
      rfl
end Go.Proofs.Ytjnjaojafimfeaa
