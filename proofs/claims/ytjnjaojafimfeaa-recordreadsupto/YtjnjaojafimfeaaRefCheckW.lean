/-
  The document's Check.
-/
import Derived.Test.YtjnjaojafimfeaaRefBlank
namespace Go.Proofs.Ytjnjaojafimfeaa
open Go.RowKit

set_option maxHeartbeats 4000000 in
set_option maxRecDepth 1000000 in
theorem refCheck_any (r : Rec) (a : Option Addr) (m c : Nat) (w : World) : Calls Try.prog 16 #[.agg (recA r (.slice a m c))] w fun e w' => e = .returned (.int .i64 (refE r m)) ∧ Below w.heap.size w w' := by
  have CB : Hid (∀ W, Calls Try.prog 32 #[.agg (jobA r (.slice a m c))] W fun e w' => e = .returned (.bool (blankB r m)) ∧ Below W.heap.size W w') := blank_any r a m c
  have CH : Hid (∀ W, Calls Try.prog 33 #[.agg (jobA r (.slice a m c))] W fun e w' => e = .returned (.bool (changesB r.num)) ∧ Below W.heap.size W w') := changes_any r a m c
  have CL : Hid (∀ W, Calls Try.prog 34 #[.agg (jobA r (.slice a m c))] W fun e w' => e = .returned (.bool (lastB r m)) ∧ Below W.heap.size W w') := lasting_any r a m c
  have CS : Hid (∀ W, Calls Try.prog 35 #[.agg (jobA r (.slice a m c))] W fun e w' => e = .returned (.bool (shortB r m)) ∧ Below W.heap.size W w') := short_any r a m c
  have R0 : Hid (RecAt (w.alloc (.cells (recA r (.slice a m c)) 34)) w.heap.size r (.slice a m c)) := RecAt.new _ _ _
  unfold jobA at CB CH CL CS
  unfold recA at R0 ⊢
  have B0 : Hid (∀ o, Below w.heap.size w (w.alloc o)) := fun o => (Below.refl _ w).alloc (Nat.le_refl _) _
  obtain ⟨bb, hbb⟩ : ∃ b, b = blankB r m := ⟨_, rfl⟩
  obtain ⟨hb, hhb⟩ : ∃ b, b = changesB r.num := ⟨_, rfl⟩
  obtain ⟨lb, hlb⟩ : ∃ b, b = lastB r m := ⟨_, rfl⟩
  obtain ⟨sb, hsb⟩ : ∃ b, b = shortB r m := ⟨_, rfl⟩
  rw [← hbb] at CB
  rw [← hhb] at CH
  rw [← hlb] at CL
  rw [← hsb] at CS
  have HE : Hid (refOk r m = if r.kind = 1 then withinB (r.num 0) 1 1099511627776 && withinB (r.num 1) 1 1099511627777 && (r.num 2 == 0) && bb
      else if r.kind = 2 then (r.num 0 == 0) && (r.num 1 == 0) && (r.num 2 == 0) && hb && lb
      else if r.kind = 3 then (r.num 0 == 0) && (r.num 1 == 0) && (r.num 2 == 0) && hb && sb
      else (r.num 0 == 0) && (r.num 1 == 0) && withinB (r.num 2) 1 1099511627776 && bb) := by show refOk r m = _; rw [hbb, hhb, hlb, hsb]; rfl
  have HF : Hid (refE r m = if withinB r.kind 1 4 = false then 100 else if refOk r m = false then 101 else 0) := by show refE r m = _; rfl
  rw [HE.out] at HF
  clear hbb hhb hlb hsb HE
  have hk : r.kind = 1 ∨ r.kind = 2 ∨ r.kind = 3 ∨ r.kind = 4 ∨ (¬ r.kind = 1 ∧ ¬ r.kind = 2 ∧ ¬ r.kind = 3 ∧ ¬ r.kind = 4) := by omega
  rcases hk with hk | hk | hk | hk | ⟨h1, h2, h3, h4⟩
  · go_enter Try.func16, Try.ntmps16
    go_wp2_with (first
      | (go_at_call 26; refine (refWithin_any _ _ _ _).mono ?_; rintro e w' ⟨rfl, hw'⟩; obtain rfl := hw'.symm)
      | (go_at_call 32
         refine (CB.out _).mono ?_
         rintro e w3 ⟨rfl, B3⟩
         have BX3 : Hid (Below w.heap.size w w3) := below_box B3
         clear B3)
      | (go_at_call 33
         refine (CH.out _).mono ?_
         rintro e w2 ⟨rfl, B2⟩
         have BX2 : Hid (Below w.heap.size w w2) := below_box B2
         have hj := (B2.block _ (by simp)).trans (heap_alloc_last _ _)
         have k4 : w2.cell? ⟨w.heap.size, 4, none⟩ = some (.int .i64 (r.num 3)) := cell_of_row _ _ 4 _ _ (0, 0) hj
         have k5 : w2.cell? ⟨w.heap.size, 5, none⟩ = some (.int .i64 (r.num 4)) := cell_of_row _ _ 5 _ _ (0, 0) hj
         have k6 : w2.cell? ⟨w.heap.size, 6, none⟩ = some (.int .i64 (r.num 5)) := cell_of_row _ _ 6 _ _ (0, 0) hj
         have k7 : w2.cell? ⟨w.heap.size, 7, none⟩ = some (.int .i64 (r.num 6)) := cell_of_row _ _ 7 _ _ (0, 0) hj
         have k8 : w2.cell? ⟨w.heap.size, 8, none⟩ = some (.int .i64 (r.num 7)) := cell_of_row _ _ 8 _ _ (0, 0) hj
         have k9 : w2.cell? ⟨w.heap.size, 9, none⟩ = some (.int .i64 (r.num 8)) := cell_of_row _ _ 9 _ _ (0, 0) hj
         have k10 : w2.cell? ⟨w.heap.size, 10, none⟩ = some (.int .i64 (r.num 9)) := cell_of_row _ _ 10 _ _ (0, 0) hj
         have k11 : w2.cell? ⟨w.heap.size, 11, none⟩ = some (.int .i64 (r.num 10)) := cell_of_row _ _ 11 _ _ (0, 0) hj
         have k12 : w2.cell? ⟨w.heap.size, 12, none⟩ = some (.int .i64 (r.num 11)) := cell_of_row _ _ 12 _ _ (0, 0) hj
         have k13 : w2.cell? ⟨w.heap.size, 13, none⟩ = some (.int .i64 (r.num 12)) := cell_of_row _ _ 13 _ _ (0, 0) hj
         have k14 : w2.cell? ⟨w.heap.size, 14, none⟩ = some (.int .i64 (r.num 13)) := cell_of_row _ _ 14 _ _ (0, 0) hj
         have k15 : w2.cell? ⟨w.heap.size, 15, none⟩ = some (.int .i64 (r.num 14)) := cell_of_row _ _ 15 _ _ (0, 0) hj
         have k16 : w2.cell? ⟨w.heap.size, 16, none⟩ = some (.int .i64 (r.num 15)) := cell_of_row _ _ 16 _ _ (0, 0) hj
         have k17 : w2.cell? ⟨w.heap.size, 17, none⟩ = some (.string ⟨r.tube.toArray⟩) := cell_of_row _ _ 17 _ _ (0, 0) hj
         have k18 : w2.cell? ⟨w.heap.size, 18, none⟩ = some (.slice a m c) := cell_of_row _ _ 18 _ _ (0, 0) hj
         clear B2 hj)
      | (go_at_call 34
         refine (CL.out _).mono ?_
         rintro e w3 ⟨rfl, B3⟩
         have BX3 : Hid (Below w.heap.size w w3) := BX2.out.trans (B3.mono BX2.out.size)
         clear B3)
      | (go_at_call 35
         refine (CS.out _).mono ?_
         rintro e w3 ⟨rfl, B3⟩
         have BX3 : Hid (Below w.heap.size w w3) := BX2.out.trans (B3.mono BX2.out.size)
         clear B3))
    all_goals go_ret
    all_goals refine ⟨?_, by first | exact BX3.out | exact BX2.out | exact B0.out _⟩
    all_goals rw [HF.out]
    all_goals simp_all [withinB]
    all_goals grind
  · go_enter Try.func16, Try.ntmps16
    go_wp2_with (first
      | (go_at_call 26; refine (refWithin_any _ _ _ _).mono ?_; rintro e w' ⟨rfl, hw'⟩; obtain rfl := hw'.symm)
      | (go_at_call 32
         refine (CB.out _).mono ?_
         rintro e w3 ⟨rfl, B3⟩
         have BX3 : Hid (Below w.heap.size w w3) := below_box B3
         clear B3)
      | (go_at_call 33
         refine (CH.out _).mono ?_
         rintro e w2 ⟨rfl, B2⟩
         have BX2 : Hid (Below w.heap.size w w2) := below_box B2
         have hj := (B2.block _ (by simp)).trans (heap_alloc_last _ _)
         have k4 : w2.cell? ⟨w.heap.size, 4, none⟩ = some (.int .i64 (r.num 3)) := cell_of_row _ _ 4 _ _ (0, 0) hj
         have k5 : w2.cell? ⟨w.heap.size, 5, none⟩ = some (.int .i64 (r.num 4)) := cell_of_row _ _ 5 _ _ (0, 0) hj
         have k6 : w2.cell? ⟨w.heap.size, 6, none⟩ = some (.int .i64 (r.num 5)) := cell_of_row _ _ 6 _ _ (0, 0) hj
         have k7 : w2.cell? ⟨w.heap.size, 7, none⟩ = some (.int .i64 (r.num 6)) := cell_of_row _ _ 7 _ _ (0, 0) hj
         have k8 : w2.cell? ⟨w.heap.size, 8, none⟩ = some (.int .i64 (r.num 7)) := cell_of_row _ _ 8 _ _ (0, 0) hj
         have k9 : w2.cell? ⟨w.heap.size, 9, none⟩ = some (.int .i64 (r.num 8)) := cell_of_row _ _ 9 _ _ (0, 0) hj
         have k10 : w2.cell? ⟨w.heap.size, 10, none⟩ = some (.int .i64 (r.num 9)) := cell_of_row _ _ 10 _ _ (0, 0) hj
         have k11 : w2.cell? ⟨w.heap.size, 11, none⟩ = some (.int .i64 (r.num 10)) := cell_of_row _ _ 11 _ _ (0, 0) hj
         have k12 : w2.cell? ⟨w.heap.size, 12, none⟩ = some (.int .i64 (r.num 11)) := cell_of_row _ _ 12 _ _ (0, 0) hj
         have k13 : w2.cell? ⟨w.heap.size, 13, none⟩ = some (.int .i64 (r.num 12)) := cell_of_row _ _ 13 _ _ (0, 0) hj
         have k14 : w2.cell? ⟨w.heap.size, 14, none⟩ = some (.int .i64 (r.num 13)) := cell_of_row _ _ 14 _ _ (0, 0) hj
         have k15 : w2.cell? ⟨w.heap.size, 15, none⟩ = some (.int .i64 (r.num 14)) := cell_of_row _ _ 15 _ _ (0, 0) hj
         have k16 : w2.cell? ⟨w.heap.size, 16, none⟩ = some (.int .i64 (r.num 15)) := cell_of_row _ _ 16 _ _ (0, 0) hj
         have k17 : w2.cell? ⟨w.heap.size, 17, none⟩ = some (.string ⟨r.tube.toArray⟩) := cell_of_row _ _ 17 _ _ (0, 0) hj
         have k18 : w2.cell? ⟨w.heap.size, 18, none⟩ = some (.slice a m c) := cell_of_row _ _ 18 _ _ (0, 0) hj
         clear B2 hj)
      | (go_at_call 34
         refine (CL.out _).mono ?_
         rintro e w3 ⟨rfl, B3⟩
         have BX3 : Hid (Below w.heap.size w w3) := BX2.out.trans (B3.mono BX2.out.size)
         clear B3)
      | (go_at_call 35
         refine (CS.out _).mono ?_
         rintro e w3 ⟨rfl, B3⟩
         have BX3 : Hid (Below w.heap.size w w3) := BX2.out.trans (B3.mono BX2.out.size)
         clear B3))
    all_goals go_ret
    all_goals refine ⟨?_, by first | exact BX3.out | exact BX2.out | exact B0.out _⟩
    all_goals rw [HF.out]
    all_goals simp_all [withinB]
    all_goals grind
  · go_enter Try.func16, Try.ntmps16
    go_wp2_with (first
      | (go_at_call 26; refine (refWithin_any _ _ _ _).mono ?_; rintro e w' ⟨rfl, hw'⟩; obtain rfl := hw'.symm)
      | (go_at_call 32
         refine (CB.out _).mono ?_
         rintro e w3 ⟨rfl, B3⟩
         have BX3 : Hid (Below w.heap.size w w3) := below_box B3
         clear B3)
      | (go_at_call 33
         refine (CH.out _).mono ?_
         rintro e w2 ⟨rfl, B2⟩
         have BX2 : Hid (Below w.heap.size w w2) := below_box B2
         have hj := (B2.block _ (by simp)).trans (heap_alloc_last _ _)
         have k4 : w2.cell? ⟨w.heap.size, 4, none⟩ = some (.int .i64 (r.num 3)) := cell_of_row _ _ 4 _ _ (0, 0) hj
         have k5 : w2.cell? ⟨w.heap.size, 5, none⟩ = some (.int .i64 (r.num 4)) := cell_of_row _ _ 5 _ _ (0, 0) hj
         have k6 : w2.cell? ⟨w.heap.size, 6, none⟩ = some (.int .i64 (r.num 5)) := cell_of_row _ _ 6 _ _ (0, 0) hj
         have k7 : w2.cell? ⟨w.heap.size, 7, none⟩ = some (.int .i64 (r.num 6)) := cell_of_row _ _ 7 _ _ (0, 0) hj
         have k8 : w2.cell? ⟨w.heap.size, 8, none⟩ = some (.int .i64 (r.num 7)) := cell_of_row _ _ 8 _ _ (0, 0) hj
         have k9 : w2.cell? ⟨w.heap.size, 9, none⟩ = some (.int .i64 (r.num 8)) := cell_of_row _ _ 9 _ _ (0, 0) hj
         have k10 : w2.cell? ⟨w.heap.size, 10, none⟩ = some (.int .i64 (r.num 9)) := cell_of_row _ _ 10 _ _ (0, 0) hj
         have k11 : w2.cell? ⟨w.heap.size, 11, none⟩ = some (.int .i64 (r.num 10)) := cell_of_row _ _ 11 _ _ (0, 0) hj
         have k12 : w2.cell? ⟨w.heap.size, 12, none⟩ = some (.int .i64 (r.num 11)) := cell_of_row _ _ 12 _ _ (0, 0) hj
         have k13 : w2.cell? ⟨w.heap.size, 13, none⟩ = some (.int .i64 (r.num 12)) := cell_of_row _ _ 13 _ _ (0, 0) hj
         have k14 : w2.cell? ⟨w.heap.size, 14, none⟩ = some (.int .i64 (r.num 13)) := cell_of_row _ _ 14 _ _ (0, 0) hj
         have k15 : w2.cell? ⟨w.heap.size, 15, none⟩ = some (.int .i64 (r.num 14)) := cell_of_row _ _ 15 _ _ (0, 0) hj
         have k16 : w2.cell? ⟨w.heap.size, 16, none⟩ = some (.int .i64 (r.num 15)) := cell_of_row _ _ 16 _ _ (0, 0) hj
         have k17 : w2.cell? ⟨w.heap.size, 17, none⟩ = some (.string ⟨r.tube.toArray⟩) := cell_of_row _ _ 17 _ _ (0, 0) hj
         have k18 : w2.cell? ⟨w.heap.size, 18, none⟩ = some (.slice a m c) := cell_of_row _ _ 18 _ _ (0, 0) hj
         clear B2 hj)
      | (go_at_call 34
         refine (CL.out _).mono ?_
         rintro e w3 ⟨rfl, B3⟩
         have BX3 : Hid (Below w.heap.size w w3) := BX2.out.trans (B3.mono BX2.out.size)
         clear B3)
      | (go_at_call 35
         refine (CS.out _).mono ?_
         rintro e w3 ⟨rfl, B3⟩
         have BX3 : Hid (Below w.heap.size w w3) := BX2.out.trans (B3.mono BX2.out.size)
         clear B3))
    all_goals go_ret
    all_goals refine ⟨?_, by first | exact BX3.out | exact BX2.out | exact B0.out _⟩
    all_goals rw [HF.out]
    all_goals simp_all [withinB]
    all_goals grind
  · go_enter Try.func16, Try.ntmps16
    go_wp2_with (first
      | (go_at_call 26; refine (refWithin_any _ _ _ _).mono ?_; rintro e w' ⟨rfl, hw'⟩; obtain rfl := hw'.symm)
      | (go_at_call 32
         refine (CB.out _).mono ?_
         rintro e w3 ⟨rfl, B3⟩
         have BX3 : Hid (Below w.heap.size w w3) := below_box B3
         clear B3)
      | (go_at_call 33
         refine (CH.out _).mono ?_
         rintro e w2 ⟨rfl, B2⟩
         have BX2 : Hid (Below w.heap.size w w2) := below_box B2
         have hj := (B2.block _ (by simp)).trans (heap_alloc_last _ _)
         have k4 : w2.cell? ⟨w.heap.size, 4, none⟩ = some (.int .i64 (r.num 3)) := cell_of_row _ _ 4 _ _ (0, 0) hj
         have k5 : w2.cell? ⟨w.heap.size, 5, none⟩ = some (.int .i64 (r.num 4)) := cell_of_row _ _ 5 _ _ (0, 0) hj
         have k6 : w2.cell? ⟨w.heap.size, 6, none⟩ = some (.int .i64 (r.num 5)) := cell_of_row _ _ 6 _ _ (0, 0) hj
         have k7 : w2.cell? ⟨w.heap.size, 7, none⟩ = some (.int .i64 (r.num 6)) := cell_of_row _ _ 7 _ _ (0, 0) hj
         have k8 : w2.cell? ⟨w.heap.size, 8, none⟩ = some (.int .i64 (r.num 7)) := cell_of_row _ _ 8 _ _ (0, 0) hj
         have k9 : w2.cell? ⟨w.heap.size, 9, none⟩ = some (.int .i64 (r.num 8)) := cell_of_row _ _ 9 _ _ (0, 0) hj
         have k10 : w2.cell? ⟨w.heap.size, 10, none⟩ = some (.int .i64 (r.num 9)) := cell_of_row _ _ 10 _ _ (0, 0) hj
         have k11 : w2.cell? ⟨w.heap.size, 11, none⟩ = some (.int .i64 (r.num 10)) := cell_of_row _ _ 11 _ _ (0, 0) hj
         have k12 : w2.cell? ⟨w.heap.size, 12, none⟩ = some (.int .i64 (r.num 11)) := cell_of_row _ _ 12 _ _ (0, 0) hj
         have k13 : w2.cell? ⟨w.heap.size, 13, none⟩ = some (.int .i64 (r.num 12)) := cell_of_row _ _ 13 _ _ (0, 0) hj
         have k14 : w2.cell? ⟨w.heap.size, 14, none⟩ = some (.int .i64 (r.num 13)) := cell_of_row _ _ 14 _ _ (0, 0) hj
         have k15 : w2.cell? ⟨w.heap.size, 15, none⟩ = some (.int .i64 (r.num 14)) := cell_of_row _ _ 15 _ _ (0, 0) hj
         have k16 : w2.cell? ⟨w.heap.size, 16, none⟩ = some (.int .i64 (r.num 15)) := cell_of_row _ _ 16 _ _ (0, 0) hj
         have k17 : w2.cell? ⟨w.heap.size, 17, none⟩ = some (.string ⟨r.tube.toArray⟩) := cell_of_row _ _ 17 _ _ (0, 0) hj
         have k18 : w2.cell? ⟨w.heap.size, 18, none⟩ = some (.slice a m c) := cell_of_row _ _ 18 _ _ (0, 0) hj
         clear B2 hj)
      | (go_at_call 34
         refine (CL.out _).mono ?_
         rintro e w3 ⟨rfl, B3⟩
         have BX3 : Hid (Below w.heap.size w w3) := BX2.out.trans (B3.mono BX2.out.size)
         clear B3)
      | (go_at_call 35
         refine (CS.out _).mono ?_
         rintro e w3 ⟨rfl, B3⟩
         have BX3 : Hid (Below w.heap.size w w3) := BX2.out.trans (B3.mono BX2.out.size)
         clear B3))
    all_goals go_ret
    all_goals refine ⟨?_, by first | exact BX3.out | exact BX2.out | exact B0.out _⟩
    all_goals rw [HF.out]
    all_goals simp_all [withinB]
    all_goals grind
  · go_enter Try.func16, Try.ntmps16
    go_wp2_with (first
      | (go_at_call 26; refine (refWithin_any _ _ _ _).mono ?_; rintro e w' ⟨rfl, hw'⟩; obtain rfl := hw'.symm)
      | (go_at_call 32
         refine (CB.out _).mono ?_
         rintro e w3 ⟨rfl, B3⟩
         have BX3 : Hid (Below w.heap.size w w3) := below_box B3
         clear B3)
      | (go_at_call 33
         refine (CH.out _).mono ?_
         rintro e w2 ⟨rfl, B2⟩
         have BX2 : Hid (Below w.heap.size w w2) := below_box B2
         have hj := (B2.block _ (by simp)).trans (heap_alloc_last _ _)
         have k4 : w2.cell? ⟨w.heap.size, 4, none⟩ = some (.int .i64 (r.num 3)) := cell_of_row _ _ 4 _ _ (0, 0) hj
         have k5 : w2.cell? ⟨w.heap.size, 5, none⟩ = some (.int .i64 (r.num 4)) := cell_of_row _ _ 5 _ _ (0, 0) hj
         have k6 : w2.cell? ⟨w.heap.size, 6, none⟩ = some (.int .i64 (r.num 5)) := cell_of_row _ _ 6 _ _ (0, 0) hj
         have k7 : w2.cell? ⟨w.heap.size, 7, none⟩ = some (.int .i64 (r.num 6)) := cell_of_row _ _ 7 _ _ (0, 0) hj
         have k8 : w2.cell? ⟨w.heap.size, 8, none⟩ = some (.int .i64 (r.num 7)) := cell_of_row _ _ 8 _ _ (0, 0) hj
         have k9 : w2.cell? ⟨w.heap.size, 9, none⟩ = some (.int .i64 (r.num 8)) := cell_of_row _ _ 9 _ _ (0, 0) hj
         have k10 : w2.cell? ⟨w.heap.size, 10, none⟩ = some (.int .i64 (r.num 9)) := cell_of_row _ _ 10 _ _ (0, 0) hj
         have k11 : w2.cell? ⟨w.heap.size, 11, none⟩ = some (.int .i64 (r.num 10)) := cell_of_row _ _ 11 _ _ (0, 0) hj
         have k12 : w2.cell? ⟨w.heap.size, 12, none⟩ = some (.int .i64 (r.num 11)) := cell_of_row _ _ 12 _ _ (0, 0) hj
         have k13 : w2.cell? ⟨w.heap.size, 13, none⟩ = some (.int .i64 (r.num 12)) := cell_of_row _ _ 13 _ _ (0, 0) hj
         have k14 : w2.cell? ⟨w.heap.size, 14, none⟩ = some (.int .i64 (r.num 13)) := cell_of_row _ _ 14 _ _ (0, 0) hj
         have k15 : w2.cell? ⟨w.heap.size, 15, none⟩ = some (.int .i64 (r.num 14)) := cell_of_row _ _ 15 _ _ (0, 0) hj
         have k16 : w2.cell? ⟨w.heap.size, 16, none⟩ = some (.int .i64 (r.num 15)) := cell_of_row _ _ 16 _ _ (0, 0) hj
         have k17 : w2.cell? ⟨w.heap.size, 17, none⟩ = some (.string ⟨r.tube.toArray⟩) := cell_of_row _ _ 17 _ _ (0, 0) hj
         have k18 : w2.cell? ⟨w.heap.size, 18, none⟩ = some (.slice a m c) := cell_of_row _ _ 18 _ _ (0, 0) hj
         clear B2 hj)
      | (go_at_call 34
         refine (CL.out _).mono ?_
         rintro e w3 ⟨rfl, B3⟩
         have BX3 : Hid (Below w.heap.size w w3) := BX2.out.trans (B3.mono BX2.out.size)
         clear B3)
      | (go_at_call 35
         refine (CS.out _).mono ?_
         rintro e w3 ⟨rfl, B3⟩
         have BX3 : Hid (Below w.heap.size w w3) := BX2.out.trans (B3.mono BX2.out.size)
         clear B3))
    all_goals go_ret
    all_goals refine ⟨?_, by first | exact BX3.out | exact BX2.out | exact B0.out _⟩
    all_goals rw [HF.out]
    all_goals simp_all [withinB]
    all_goals grind
end Go.Proofs.Ytjnjaojafimfeaa
