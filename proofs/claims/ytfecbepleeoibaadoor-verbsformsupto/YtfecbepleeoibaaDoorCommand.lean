/-
  The walk of command.
-/
import Derived.Test.YtfecbepleeoibaaDoorPlainFits
import Derived.Test.YtfecbepleeoibaaDoorShelf
import Derived.Deep.RegionHeld
namespace Go.Proofs.YtfecbepleeoibaaDoor
open Go.RowKit Go.Lib

theorem text_any (s : ByteArray) (w : World) (hs : s.size ≤ 281474976710656) : Calls Tryd.prog 61 #[.string s] w fun e w' => e = .returned (.string s) ∧ Below w.heap.size w w' := by
  go_enter Tryd.func61, Tryd.ntmps61
  go_wp2_with fail
  refine (Tryd.stringslite_Clone s _ hs).mono ?_
  rintro e w' ⟨rfl, hb⟩
  go_wp2
  go_ret
  exact ⟨rfl, hb⟩

theorem alloc_at (w : World) (o : Obj) {w3 : World} (h : Below (w.alloc o).drew.heap.size (w.alloc o).drew w3) : w3.heap[w.heap.size]? = some o :=
  (h.block w.heap.size (by show _ < (w.heap.push o).size; simp)).trans (heap_alloc_new w o)
set_option maxHeartbeats 2000000 in
set_option maxRecDepth 1000000 in
theorem command_any (k : Nat) (v : Nat → Int) (t : List UInt8) (w : World) (ht : t.length ≤ 281474976710656) :
    Calls Tryd.prog 45 #[.int .i64 k, numsV v, .string ⟨t.toArray⟩] w fun e w' => e = .returned (cmdV (mkC k v t) (.slice none 0 0)) ∧ Below w.heap.size w w' := by
  have hs : (⟨t.toArray⟩ : ByteArray).size ≤ 281474976710656 := by simpa [ByteArray.size] using ht
  have HS := hide hs
  clear hs ht
  obtain ⟨w2, hw2⟩ : ∃ w2, w2 = (w.alloc (.cells (numsA v) 58)).alloc (.cells #[.int .i64 0, .int .i64 0, .int .i64 0, .int .i64 0, .int .i64 0, .int .i64 0, .string ⟨#[]⟩, .slice none 0 0] 27) := ⟨_, rfl⟩
  have ba : w2.heap[w.heap.size]? = some (.cells (numsA v) 58 (0, 0)) := by rw [hw2]; exact two_a _ _ _
  have br : w2.heap[w.heap.size + 1]? = some (.cells #[.int .i64 0, .int .i64 0, .int .i64 0, .int .i64 0, .int .i64 0, .int .i64 0, .string ⟨#[]⟩, .slice none 0 0] 27 (0, 0)) := by rw [hw2]; exact heap_alloc2_new _ _ _
  have B2 : Below w.heap.size w w2 := by rw [hw2]; exact ((Below.refl _ w).alloc (Nat.le_refl _) _).alloc (by simp) _
  have z2 : w2.heap.size = w.heap.size + 2 := by rw [hw2]; simp
  have s1 : w2.cell? ⟨w.heap.size, 1, none⟩ = some (.int .i64 (v 1)) := cells_at ba (numsA_at v 1 (by decide))
  have s2 : w2.cell? ⟨w.heap.size, 2, none⟩ = some (.int .i64 (v 2)) := cells_at ba (numsA_at v 2 (by decide))
  have s3 : w2.cell? ⟨w.heap.size, 3, none⟩ = some (.int .i64 (v 3)) := cells_at ba (numsA_at v 3 (by decide))
  have s4 : w2.cell? ⟨w.heap.size, 4, none⟩ = some (.int .i64 (v 4)) := cells_at ba (numsA_at v 4 (by decide))
  have s5 : w2.cell? ⟨w.heap.size, 5, none⟩ = some (.int .i64 (v 5)) := cells_at ba (numsA_at v 5 (by decide))
  unfold numsA at hw2
  have HW2 := hide hw2
  have HBR := hide br
  have HB2 := hide B2
  clear hw2 ba br B2
  unfold numsV
  go_enter Tryd.func45, Tryd.ntmps45
  go_wp2_with fail
  rw [← HW2.out]
  clear HW2
  obtain ⟨vb, hvb⟩ : ∃ vb, vb = w.heap.size := ⟨_, rfl⟩
  rw [← hvb] at s1 s2 s3 s4 s5 z2 ⊢
  have hlt : vb < w2.heap.size := by omega
  have hne2 : w2.heap.size ≠ vb := by omega
  have HVB := hide hvb
  have HZ2 := hide z2
  clear hvb z2
  go_region_held (fun w' => w'.cell? ⟨vb, 1, none⟩ = some (.int .i64 (v 1)) ∧ w'.cell? ⟨vb, 2, none⟩ = some (.int .i64 (v 2)) ∧ w'.cell? ⟨vb, 3, none⟩ = some (.int .i64 (v 3)) ∧ w'.cell? ⟨vb, 4, none⟩ = some (.int .i64 (v 4)) ∧ w'.cell? ⟨vb, 5, none⟩ = some (.int .i64 (v 5)))
    (first | (simp only [World.cell?_setCell_far, ne_eq, hne2, not_false_eq_true]; exact hS3) | assumption | exact ⟨s1, s2, s3, s4, s5⟩ | go_keep)
    (first
      | (go_at_call 61
         refine (text_any _ _ HS.out).mono ?_
         rintro e w3 ⟨rfl, B3⟩
         have hS3 : w3.cell? ⟨vb, 1, none⟩ = some (.int .i64 (v 1)) ∧ w3.cell? ⟨vb, 2, none⟩ = some (.int .i64 (v 2)) ∧ w3.cell? ⟨vb, 3, none⟩ = some (.int .i64 (v 3)) ∧ w3.cell? ⟨vb, 4, none⟩ = some (.int .i64 (v 4)) ∧ w3.cell? ⟨vb, 5, none⟩ = some (.int .i64 (v 5)) := by
           refine ⟨(B3.cell (p := ⟨vb, 1, none⟩) ?_).trans ?_, (B3.cell (p := ⟨vb, 2, none⟩) ?_).trans ?_, (B3.cell (p := ⟨vb, 3, none⟩) ?_).trans ?_, (B3.cell (p := ⟨vb, 4, none⟩) ?_).trans ?_, (B3.cell (p := ⟨vb, 5, none⟩) ?_).trans ?_⟩ <;> first | exact hlt | (simp; omega) | exact s1 | exact s2 | exact s3 | exact s4 | exact s5 | go_keep
         have HB3 := hide B3
         have hz3 : w3.heap.size ≠ vb := by have := B3.size; simp at this; omega
         first
           | (have bc := alloc_at w2 _ B3
              obtain ⟨c0, c1, c2, c3, c4, c5, c6, c7, fz⟩ := zero8 bc
              have f0 := fz 0; have f1 := fz 1; have f2 := fz 2; have f3 := fz 3; have f4 := fz 4; have f5 := fz 5; have f6 := fz 6; have f7 := fz 7
              have HBC := hide bc
              clear bc fz)
           | skip
         clear B3))
  · obtain ⟨wc, hwc⟩ : ∃ wc, wc = w3.alloc (.cells #[.int .i64 k, .int .i64 (v 1), .int .i64 (v 2), .int .i64 (v 3), .int .i64 (v 4), .int .i64 (v 5), .string ⟨t.toArray⟩, .slice none 0 0] 27) := ⟨_, rfl⟩
    have B3 := HB3.out
    have hz := HZ2.out
    have hv := HVB.out
    have hs3 : w2.heap.size ≤ w3.heap.size := B3.size
    have Q1 : wc.heap[w3.heap.size]? = some (.cells #[.int .i64 k, .int .i64 (v 1), .int .i64 (v 2), .int .i64 (v 3), .int .i64 (v 4), .int .i64 (v 5), .string ⟨t.toArray⟩, .slice none 0 0] 27 (0, 0)) := by rw [hwc]; exact heap_alloc_new _ _
    have Q2 : Below w.heap.size w wc := by
      rw [hwc]
      exact (HB2.out.trans (⟨B3.os, B3.tape, B3.output, B3.size, fun j hj => B3.block j (show j < w2.heap.size by omega)⟩ : Below w.heap.size w2 w3)).alloc (by omega) _
    have Q3 : wc.heap[vb + 1]? = some (.cells #[.int .i64 0, .int .i64 0, .int .i64 0, .int .i64 0, .int .i64 0, .int .i64 0, .string ⟨#[]⟩, .slice none 0 0] 27 (0, 0)) := by
      rw [hwc]
      refine (show (w3.heap.push _)[vb + 1]? = _ by rw [Array.getElem?_push, if_neg (by omega)]; exact (B3.block (vb + 1) (show vb + 1 < w2.heap.size by omega)).trans (by rw [hv]; exact HBR.out))
    rw [← hwc]
    clear B3 hv
    have x0 : wc.cell? ⟨w3.heap.size, 0, none⟩ = some (.int .i64 k) := cells_at Q1 rfl
    have x1 : wc.cell? ⟨w3.heap.size, 1, none⟩ = some (.int .i64 (v 1)) := cells_at Q1 rfl
    have x2 : wc.cell? ⟨w3.heap.size, 2, none⟩ = some (.int .i64 (v 2)) := cells_at Q1 rfl
    have x3 : wc.cell? ⟨w3.heap.size, 3, none⟩ = some (.int .i64 (v 3)) := cells_at Q1 rfl
    have x4 : wc.cell? ⟨w3.heap.size, 4, none⟩ = some (.int .i64 (v 4)) := cells_at Q1 rfl
    have x5 : wc.cell? ⟨w3.heap.size, 5, none⟩ = some (.int .i64 (v 5)) := cells_at Q1 rfl
    have x6 : wc.cell? ⟨w3.heap.size, 6, none⟩ = some (.string ⟨t.toArray⟩) := cells_at Q1 rfl
    have x7 : wc.cell? ⟨w3.heap.size, 7, none⟩ = some (.slice none 0 0) := cells_at Q1 rfl
    have y4 : wc.frozen? ⟨w3.heap.size, 4, none⟩ = false := by simp [World.frozen?, Q1]
    obtain ⟨c0, c1, c2, c3, c4, c5, c6, c7, fz⟩ := zero8 Q3
    have f0 := fz 0; have f1 := fz 1; have f2 := fz 2; have f3 := fz 3; have f4 := fz 4; have f5 := fz 5; have f6 := fz 6; have f7 := fz 7
    have n1 : ¬ w3.heap.size = vb + 1 := by omega
    have HCB : Hid (vb ≤ w3.heap.size) := (by omega : vb ≤ w3.heap.size)
    have n2 : ¬ vb + 1 = w3.heap.size := by omega
    have HQ1 := hide Q1
    have HQ2 := hide Q2
    have HQ3 := hide Q3
    clear Q1 Q2 Q3 hwc fz hz hs3
    by_cases hk1 : k = 1
    · subst hk1
      go_wp2_with fail
      have a4 := set_cells HQ1.out 4 (.int .i64 (max (v 4) 1))
      have q3 := (a4.2.block (vb + 1) (cell_block c0) (fun e => n2 (by have := Option.some.inj e; omega))).trans HQ3.out
      obtain ⟨g1, g2⟩ := set8 q3 (.int .i64 ((1 : Nat) : Int)) (.int .i64 (v 1)) (.int .i64 (v 2)) (.int .i64 (v 3)) (.int .i64 (max (v 4) 1)) (.int .i64 (v 5)) (.string ⟨t.toArray⟩) (.slice none 0 0)
      refine bodyPost_ret (results_cell_row rfl _ _ (vb + 1) 27 _ (0, 0) _ rfl g1 Tryd.underlying27 rfl (by kernel_rfl)) rfl ⟨rfl, ?_⟩
      have hv := HVB.out
      have hcb := HCB.out
      exact grown_below (grown_below HQ2.out a4.2 (by omega) (Nat.le_refl _)) g2 (by omega) (Nat.le_refl _)
    · have hkb : ((k : Int) == 1) = false := by rw [beq_eq_false_iff_ne]; omega
      go_wp2_with fail
      obtain ⟨g1, g2⟩ := set8 HQ3.out (.int .i64 k) (.int .i64 (v 1)) (.int .i64 (v 2)) (.int .i64 (v 3)) (.int .i64 (v 4)) (.int .i64 (v 5)) (.string ⟨t.toArray⟩) (.slice none 0 0)
      refine bodyPost_ret (results_cell_row rfl _ _ (vb + 1) 27 _ (0, 0) _ rfl g1 Tryd.underlying27 rfl (by kernel_rfl)) rfl ⟨?_, ?_⟩
      · have : mkC k v t = ⟨k, v 1, v 2, v 3, v 4, v 5, t⟩ := by unfold mkC; rw [if_neg hk1]
        rw [this]
        rfl
      · have hv := HVB.out
        exact grown_below HQ2.out g2 (by omega) (Nat.le_refl _)
  · obtain ⟨wc, hwc⟩ : ∃ wc, wc = ((((((((w3.setCell ⟨w2.heap.size, 0, none⟩ (.int .i64 k)).setCell ⟨w2.heap.size, 1, none⟩ (.int .i64 (v 1))).setCell ⟨w2.heap.size, 2, none⟩ (.int .i64 (v 2))).setCell ⟨w2.heap.size, 3, none⟩ (.int .i64 (v 3))).setCell ⟨w2.heap.size, 4, none⟩ (.int .i64 (v 4))).setCell ⟨w2.heap.size, 5, none⟩ (.int .i64 (v 5))).setCell ⟨w2.heap.size, 6, none⟩ (.string ⟨t.toArray⟩)).setCell ⟨w2.heap.size, 7, none⟩ (.slice none 0 0)) := ⟨_, rfl⟩
    obtain ⟨Q1, qg⟩ := set8 HBC.out (.int .i64 k) (.int .i64 (v 1)) (.int .i64 (v 2)) (.int .i64 (v 3)) (.int .i64 (v 4)) (.int .i64 (v 5)) (.string ⟨t.toArray⟩) (.slice none 0 0)
    rw [← hwc] at Q1 qg
    have B3 := HB3.out
    have hz := HZ2.out
    have hv := HVB.out
    have hs3 : w2.heap.size + 1 ≤ w3.heap.size := by simpa using B3.size
    have b3 : ∀ j, j < w2.heap.size → w3.heap[j]? = w2.heap[j]? := fun j hj => (B3.block j (by simp; omega)).trans (show (w2.heap.push _)[j]? = _ by rw [Array.getElem?_push, if_neg (by omega)])
    have Q2 : Below w.heap.size w wc := grown_below (HB2.out.trans (⟨B3.os, B3.tape, B3.output, by omega, fun j hj => b3 j (by omega)⟩ : Below w.heap.size w2 w3)) qg (by omega) (Nat.le_refl _)
    have Q3 : wc.heap[vb + 1]? = some (.cells #[.int .i64 0, .int .i64 0, .int .i64 0, .int .i64 0, .int .i64 0, .int .i64 0, .string ⟨#[]⟩, .slice none 0 0] 27 (0, 0)) :=
      (qg.block (vb + 1) (by omega) (fun e => by have := Option.some.inj e; omega)).trans ((b3 (vb + 1) (by omega)).trans (by rw [hv]; exact HBR.out))
    rw [← hwc]
    clear c0 c1 c2 c3 c4 c5 c6 c7 f0 f1 f2 f3 f4 f5 f6 f7 B3 hv
    have x0 : wc.cell? ⟨w2.heap.size, 0, none⟩ = some (.int .i64 k) := cells_at Q1 rfl
    have x1 : wc.cell? ⟨w2.heap.size, 1, none⟩ = some (.int .i64 (v 1)) := cells_at Q1 rfl
    have x2 : wc.cell? ⟨w2.heap.size, 2, none⟩ = some (.int .i64 (v 2)) := cells_at Q1 rfl
    have x3 : wc.cell? ⟨w2.heap.size, 3, none⟩ = some (.int .i64 (v 3)) := cells_at Q1 rfl
    have x4 : wc.cell? ⟨w2.heap.size, 4, none⟩ = some (.int .i64 (v 4)) := cells_at Q1 rfl
    have x5 : wc.cell? ⟨w2.heap.size, 5, none⟩ = some (.int .i64 (v 5)) := cells_at Q1 rfl
    have x6 : wc.cell? ⟨w2.heap.size, 6, none⟩ = some (.string ⟨t.toArray⟩) := cells_at Q1 rfl
    have x7 : wc.cell? ⟨w2.heap.size, 7, none⟩ = some (.slice none 0 0) := cells_at Q1 rfl
    have y4 : wc.frozen? ⟨w2.heap.size, 4, none⟩ = false := by simp [World.frozen?, Q1]
    obtain ⟨c0, c1, c2, c3, c4, c5, c6, c7, fz⟩ := zero8 Q3
    have f0 := fz 0; have f1 := fz 1; have f2 := fz 2; have f3 := fz 3; have f4 := fz 4; have f5 := fz 5; have f6 := fz 6; have f7 := fz 7
    have n1 : ¬ w2.heap.size = vb + 1 := by omega
    have HCB : Hid (vb ≤ w2.heap.size) := (by omega : vb ≤ w2.heap.size)
    have n2 : ¬ vb + 1 = w2.heap.size := by omega
    have HQ1 := hide Q1
    have HQ2 := hide Q2
    have HQ3 := hide Q3
    clear Q1 Q2 Q3 hwc fz hz hs3
    by_cases hk1 : k = 1
    · subst hk1
      go_wp2_with fail
      have a4 := set_cells HQ1.out 4 (.int .i64 (max (v 4) 1))
      have q3 := (a4.2.block (vb + 1) (cell_block c0) (fun e => n2 (by have := Option.some.inj e; omega))).trans HQ3.out
      obtain ⟨g1, g2⟩ := set8 q3 (.int .i64 ((1 : Nat) : Int)) (.int .i64 (v 1)) (.int .i64 (v 2)) (.int .i64 (v 3)) (.int .i64 (max (v 4) 1)) (.int .i64 (v 5)) (.string ⟨t.toArray⟩) (.slice none 0 0)
      refine bodyPost_ret (results_cell_row rfl _ _ (vb + 1) 27 _ (0, 0) _ rfl g1 Tryd.underlying27 rfl (by kernel_rfl)) rfl ⟨rfl, ?_⟩
      have hv := HVB.out
      have hcb := HCB.out
      exact grown_below (grown_below HQ2.out a4.2 (by omega) (Nat.le_refl _)) g2 (by omega) (Nat.le_refl _)
    · have hkb : ((k : Int) == 1) = false := by rw [beq_eq_false_iff_ne]; omega
      go_wp2_with fail
      obtain ⟨g1, g2⟩ := set8 HQ3.out (.int .i64 k) (.int .i64 (v 1)) (.int .i64 (v 2)) (.int .i64 (v 3)) (.int .i64 (v 4)) (.int .i64 (v 5)) (.string ⟨t.toArray⟩) (.slice none 0 0)
      refine bodyPost_ret (results_cell_row rfl _ _ (vb + 1) 27 _ (0, 0) _ rfl g1 Tryd.underlying27 rfl (by kernel_rfl)) rfl ⟨?_, ?_⟩
      · have : mkC k v t = ⟨k, v 1, v 2, v 3, v 4, v 5, t⟩ := by unfold mkC; rw [if_neg hk1]
        rw [this]
        rfl
      · have hv := HVB.out
        exact grown_below HQ2.out g2 (by omega) (Nat.le_refl _)
end Go.Proofs.YtfecbepleeoibaaDoor
