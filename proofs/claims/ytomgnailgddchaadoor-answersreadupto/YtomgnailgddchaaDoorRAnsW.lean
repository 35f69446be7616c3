/-
  The walk of the document's word.
-/
import Derived.Test.YtomgnailgddchaaDoorJB
import Derived.Test.YtomgnailgddchaaDoorJA
namespace Go.Proofs.YtomgnailgddchaaDoor
open Go.RowKit Go.Sort

def wrdR (k : Int) : List UInt8 := if 1 ≤ k ∧ k ≤ 23 then wordOf k.toNat else []
set_option maxHeartbeats 4000000 in
set_option maxRecDepth 1000000 in
theorem refWord_any (k : Int) (w : World) : Calls Tryd.prog 55 #[.int .i64 k] w fun e w' => e = .returned (.string ⟨(wrdR k).toArray⟩) ∧ Below w.heap.size w w' := by
  by_cases hk : 1 ≤ k ∧ k ≤ 23
  · have h : k = 1 ∨ k = 2 ∨ k = 3 ∨ k = 4 ∨ k = 5 ∨ k = 6 ∨ k = 7 ∨ k = 8 ∨ k = 9 ∨ k = 10 ∨ k = 11 ∨ k = 12 ∨ k = 13 ∨ k = 14 ∨ k = 15 ∨ k = 16 ∨ k = 17 ∨ k = 18 ∨ k = 19 ∨ k = 20 ∨ k = 21 ∨ k = 22 ∨ k = 23 := by omega
    clear hk
    rcases h with rfl | rfl | rfl | rfl | rfl | rfl | rfl | rfl | rfl | rfl | rfl | rfl | rfl | rfl | rfl | rfl | rfl | rfl | rfl | rfl | rfl | rfl | rfl
    all_goals go_enter Tryd.func55, Tryd.ntmps55
    all_goals go_wp2_with fail
    all_goals go_ret
    all_goals exact ⟨by kernel_rfl, (Below.refl _ w).alloc (Nat.le_refl _) _⟩
  · have HE : Hid (wrdR k = []) := by
      show wrdR k = []
      rw [wrdR, if_neg hk]
    by_cases h1 : k < 1
    · clear hk
      go_enter Tryd.func55, Tryd.ntmps55
      go_wp2_with fail
      all_goals go_ret
      all_goals exact ⟨by rw [HE.out]; rfl, (Below.refl _ w).alloc (Nat.le_refl _) _⟩
    · have h2 : 23 < k := by omega
      clear hk
      go_enter Tryd.func55, Tryd.ntmps55
      go_wp2_with fail
      all_goals go_ret
      all_goals exact ⟨by rw [HE.out]; rfl, (Below.refl _ w).alloc (Nat.le_refl _) _⟩
end Go.Proofs.YtomgnailgddchaaDoor
