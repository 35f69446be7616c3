/-
  The walk of RecordConfigs.
-/
import Derived.Test.YtgpfomidecihdaaShown
import Derived.Test.YtgpfomidecihdaaRefConf
import Derived.Deep.RegionHeld
namespace Go.Proofs.Ytgpfomidecihdaa.recordConfigs
open Go.RowKit
set_option maxHeartbeats 1000000 in
set_option maxRecDepth 1000000 in
theorem walk (j s q : Int) (w : World) : Calls Try.prog 3 #[.agg #[.int .i64 j, .int .i64 s, .int .i64 q]] w fun e w' => e = .returned (.bool true) ∧ Below w.heap.size w w' := by
  obtain ⟨z, hz⟩ : ∃ z, z = configE j s q := ⟨_, rfl⟩
  have C1 : Hid (∀ W, Calls Try.prog 10 #[.agg #[.int .i64 j, .int .i64 s, .int .i64 q]] W fun e w' => e = .returned (.int .i64 z) ∧ Below W.heap.size W w') := by rw [hz]; exact checkConfig_any j s q
  have C2 : Hid (∀ W, Calls Try.prog 11 #[.agg #[.int .i64 j, .int .i64 s, .int .i64 q]] W fun e w' => e = .returned (.int .i64 z) ∧ Below W.heap.size W w') := by rw [hz]; exact refConfig_any j s q
  clear hz
  go_enter Try.func3, Try.ntmps3
  go_wp2_with (go_at_call 9; refine (shown_any _).mono ?_; rintro e w1 ⟨rfl, B1⟩
               have HB : Hid (Below w.heap.size w w1) := below_box B1
               have HR : Hid (w1.heap[w.heap.size]? = some (.cells #[.int .i64 j, .int .i64 s, .int .i64 q] 23 (0, 0))) := (B1.block _ (by simp)).trans (heap_alloc_last _ _)
               clear B1)
  have key : Hid (∀ W W' : World, (W.cell? ⟨w.heap.size, 0, none⟩ = some (.int .i64 j) ∧ W.cell? ⟨w.heap.size, 1, none⟩ = some (.int .i64 s) ∧ W.cell? ⟨w.heap.size, 2, none⟩ = some (.int .i64 q)) → Below W.heap.size W W' → (W'.cell? ⟨w.heap.size, 0, none⟩ = some (.int .i64 j) ∧ W'.cell? ⟨w.heap.size, 1, none⟩ = some (.int .i64 s) ∧ W'.cell? ⟨w.heap.size, 2, none⟩ = some (.int .i64 q))) := fun W W' h hB => ⟨(World.cell?_of_block (hB.block _ (cell_lt h.1))).trans h.1, (World.cell?_of_block (hB.block _ (cell_lt h.2.1))).trans h.2.1, (World.cell?_of_block (hB.block _ (cell_lt h.2.2))).trans h.2.2⟩
  have s1 : w1.cell? ⟨w.heap.size, 0, none⟩ = some (.int .i64 j) ∧ w1.cell? ⟨w.heap.size, 1, none⟩ = some (.int .i64 s) ∧ w1.cell? ⟨w.heap.size, 2, none⟩ = some (.int .i64 q) := ⟨cell_of_row _ _ 0 _ _ (0, 0) HR.out, cell_of_row _ _ 1 _ _ (0, 0) HR.out, cell_of_row _ _ 2 _ _ (0, 0) HR.out⟩
  have s1d : w1.drew.cell? ⟨w.heap.size, 0, none⟩ = some (.int .i64 j) ∧ w1.drew.cell? ⟨w.heap.size, 1, none⟩ = some (.int .i64 s) ∧ w1.drew.cell? ⟨w.heap.size, 2, none⟩ = some (.int .i64 q) := s1
  have B1d : Below w.heap.size w w1.drew := HB.out.drew
  have HB1 : Hid (Below w.heap.size w w1.drew) := B1d
  have HS1 : Hid (w1.drew.cell? ⟨w.heap.size, 0, none⟩ = some (.int .i64 j) ∧ w1.drew.cell? ⟨w.heap.size, 1, none⟩ = some (.int .i64 s) ∧ w1.drew.cell? ⟨w.heap.size, 2, none⟩ = some (.int .i64 q)) := s1d
  clear s1d B1d HR
  go_region_held (fun w' => w'.cell? ⟨w.heap.size, 0, none⟩ = some (.int .i64 j) ∧ w'.cell? ⟨w.heap.size, 1, none⟩ = some (.int .i64 s) ∧ w'.cell? ⟨w.heap.size, 2, none⟩ = some (.int .i64 q)) (first | exact HS1.out | exact HS2.out | exact HS3.out | assumption)
    (first
      | (go_at_call 10
         refine (C1.out _).mono ?_
         rintro e w2 ⟨rfl, B2⟩
         have HB2 : Hid (Below w.heap.size w w2) := (by first | exact HB3.out.trans (B2.mono HB3.out.size) | exact HB1.out.trans (B2.mono HB1.out.size))
         have HS2 : Hid (w2.cell? ⟨w.heap.size, 0, none⟩ = some (.int .i64 j) ∧ w2.cell? ⟨w.heap.size, 1, none⟩ = some (.int .i64 s) ∧ w2.cell? ⟨w.heap.size, 2, none⟩ = some (.int .i64 q)) := (by first | exact key.out _ _ HS3.out B2 | exact key.out _ _ HS1.out B2)
         clear B2)
      | (go_at_call 11
         refine (C2.out _).mono ?_
         rintro e w3 ⟨rfl, B3⟩
         have HB3 : Hid (Below w.heap.size w w3) := (by first | exact HB2.out.trans (B3.mono HB2.out.size) | exact HB1.out.trans (B3.mono HB1.out.size))
         have HS3 : Hid (w3.cell? ⟨w.heap.size, 0, none⟩ = some (.int .i64 j) ∧ w3.cell? ⟨w.heap.size, 1, none⟩ = some (.int .i64 s) ∧ w3.cell? ⟨w.heap.size, 2, none⟩ = some (.int .i64 q)) := (by first | exact key.out _ _ HS2.out B3 | exact key.out _ _ HS1.out B3)
         clear B3))
  all_goals go_wp2_with fail
  all_goals go_ret
  all_goals exact ⟨rfl, by first | exact HB3.out | exact HB2.out⟩
end Go.Proofs.Ytgpfomidecihdaa.recordConfigs
