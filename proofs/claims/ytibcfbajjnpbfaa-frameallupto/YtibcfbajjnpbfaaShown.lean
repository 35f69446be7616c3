/-
  The walk of 'shown', the document's examples.
-/
import Derived.Test.YtibcfbajjnpbfaaTake
namespace Go.Proofs.Ytibcfbajjnpbfaa
open Go.RowKit

theorem ex1 : Crc.sum [49, 50, 51, 52, 53, 54, 55, 56, 57] = 3421780262 := by decide +kernel
theorem ex2 : makeE 1 0 [97] = 0 ∧ makeL 1 0 [97] = [1, 0, 0, 0, 48, 107, 252, 116, 97] := by decide +kernel
theorem ex3 : takeE 1 0 [1, 0, 0] = 21 ∧ takeN 1 0 [1, 0, 0] = 0 ∧ takeL 1 0 [1, 0, 0] = [] := by decide +kernel

set_option maxHeartbeats 1000000 in
set_option maxRecDepth 1000000 in
theorem shown_any (w : World) : Calls Try.prog 9 #[] w fun e w' => e = .returned (.bool true) ∧ Below w.heap.size w w' := by
  go_enter Try.func9, Try.ntmps9
  go_wp2_with fail
  refine (sum_any (some ⟨w.heap.size, 0, none⟩) 9 [49, 50, 51, 52, 53, 54, 55, 56, 57] _ ((show ByteRow _ 5 _ [49, 50, 51, 52, 53, 54, 55, 56, 57] from heap_alloc_last _ _).is 0 9 _ (fun j x hj => by rw [Nat.zero_add]; exact hj) (by decide) (by unfold maxLen; decide))).mono ?_
  rintro e w1 ⟨rfl, B1⟩
  rw [ex1]
  have HB1 : Hid (Below w.heap.size w w1) := ((Below.refl _ w).alloc (Nat.le_refl _) _).trans (B1.mono (by simp))
  clear B1
  go_wp2_with fail
  refine (make_any 1 0 (some ⟨w1.heap.size, 0, none⟩) 1 [97] _ ((show ByteRow _ 5 _ [97] from heap_alloc_last _ _).is 0 1 _ (fun j x hj => by rw [Nat.zero_add]; exact hj) (by decide) (by unfold maxLen; decide))).mono ?_
  rintro e w2 ⟨v2, rfl, own2, B2⟩
  rw [ex2.2] at own2
  rw [ex2.1]
  obtain ⟨a2, c2, rfl, is2⟩ := own2.shape
  have HB2 : Hid (Below w.heap.size w w2) := (HB1.out.alloc HB1.out.size _).trans (B2.mono (by have := HB1.out.size; simp; omega))
  have IS2 : Hid (IsBytes w2 a2 c2 [1, 0, 0, 0, 48, 107, 252, 116, 97]) := is2
  clear B2 own2 is2
  go_wp2_with fail
  refine (take_any 1 0 (some ⟨w2.heap.size, 0, none⟩) 3 [1, 0, 0] _ ((show ByteRow _ 5 _ [1, 0, 0] from heap_alloc_last _ _).is 0 3 _ (fun j x hj => by rw [Nat.zero_add]; exact hj) (by decide) (by unfold maxLen; decide))).mono ?_
  rintro e w3 ⟨v3, rfl, own3, B3⟩
  rw [ex3.2.2] at own3
  rw [ex3.1, ex3.2.1]
  obtain ⟨a3, c3, rfl, _⟩ := own3.shape
  have hz2 := HB2.out.size
  have HB3 : Hid (Below w.heap.size w w3) := (HB2.out.alloc hz2 _).trans (B3.mono (by simp; omega))
  have is3 : IsBytes w3 a2 c2 [1, 0, 0, 0, 48, 107, 252, 116, 97] := (IS2.out.below ((Below.refl _ w2).alloc (Nat.le_refl _) _)).below B3
  rcases is3.2.2 with h | ⟨g, o, rfl, hg, hcell⟩
  · cases h
  have k0 : w3.cell? ⟨g, o, none⟩ = some (.int .u8 1) := hcell 0 1 rfl
  have k8 : w3.cell? ⟨g, o + 8, none⟩ = some (.int .u8 97) := hcell 8 97 rfl
  clear is3 IS2 hcell own3 B3
  go_wp2
  go_ret
  exact ⟨rfl, HB3.out⟩
end Go.Proofs.Ytibcfbajjnpbfaa
