/-
  The walk of mark.
-/
import Derived.Test.YthjaehibndmehaaBytes
import Derived.Test.YthjaehibndmehaaTAppend
namespace Go.Proofs.Ythjaehibndmehaa
open Go.RowKit

/-- The text of a number. -/
def markS (n : Nat) : ByteArray := ⟨#[109, 97, 114, 107, 32, UInt8.ofNat (97 + n / 676 % 26), UInt8.ofNat (97 + n / 26 % 26), UInt8.ofNat (97 + n % 26)]⟩
theorem three_bytes (w : World) (x y z : UInt8) : (w.alloc (.cells #[.int .u8 (x.toNat : Int), .int .u8 (y.toNat : Int), .int .u8 (z.toNat : Int)] 5)).ownsRow w.heap.size 5 1 (.slice (some ⟨w.heap.size, 0, none⟩) 3 3) [x, y, z].length (u8s [x, y, z]) :=
  ⟨by simp [u8s], .inr ⟨w.heap.size, 3, #[.int .u8 (x.toNat : Int), .int .u8 (y.toNat : Int), .int .u8 (z.toNat : Int)], rfl, Nat.le_refl _, heap_alloc_last _ _, by simp, by simp [maxLen], by simp, by simp [u8s]⟩⟩

set_option maxHeartbeats 1000000 in
set_option maxRecDepth 1000000 in
theorem mark_any (n : Nat) (w : World) (hn : n ≤ 1152921504606846976) :
    Calls Try.prog 35 #[.int .i64 n] w fun e w' => e = .returned (.string (markS n)) ∧ Below w.heap.size w w' := by
  obtain ⟨x, hx⟩ : ∃ x, x = UInt8.ofNat (97 + n / 676 % 26) := ⟨_, rfl⟩
  obtain ⟨y, hy⟩ : ∃ y, y = UInt8.ofNat (97 + n / 26 % 26) := ⟨_, rfl⟩
  obtain ⟨z, hz⟩ : ∃ z, z = UInt8.ofNat (97 + n % 26) := ⟨_, rfl⟩
  have hxm : (x.toNat : Int) = 97 + (n : Int) / 676 % 26 := by rw [hx, UInt8.toNat_ofNat']; omega
  have hym : (y.toNat : Int) = 97 + (n : Int) / 26 % 26 := by rw [hy, UInt8.toNat_ofNat']; omega
  have hzm : (z.toNat : Int) = 97 + (n : Int) % 26 := by rw [hz, UInt8.toNat_ofNat']; omega
  have HM : Hid (markS n = ⟨#[109, 97, 114, 107, 32, x, y, z]⟩) := by rw [hx, hy, hz]; rfl
  have hcv := conv_own [x, y, z] (three_bytes w x y z)
  rw [hxm, hym, hzm] at hcv
  clear hx hy hz hxm hym hzm
  go_enter Try.func35, Try.ntmps35
  go_wp2
  go_ret
  exact ⟨by rw [HM.out]; rfl, (Below.refl _ w).alloc (Nat.le_refl _) _⟩
end Go.Proofs.Ythjaehibndmehaa
