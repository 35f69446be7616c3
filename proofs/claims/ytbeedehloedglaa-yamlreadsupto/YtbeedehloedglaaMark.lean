/-
  The walk of mark.
-/
import Derived.Test.YtbeedehloedglaaReadL
namespace Go.Proofs.Ytbeedehloedglaa
open Go.RowKit

def mkT (i : Nat) : ByteArray := ⟨#[42, UInt8.ofNat (97 + i)]⟩
theorem mk_conv (w : World) (i : Nat) (hi : i < 3) : (convert 31 9 (.slice (some ⟨w.heap.size, 0, none⟩) 2 2)).run Try.prog (w.alloc (.cells #[.int .u8 42, .int .u8 (97 + (i : Int))] 5)) = .ok (.string (mkT i)) (w.alloc (.cells #[.int .u8 42, .int .u8 (97 + (i : Int))] 5)) := by
  have h : IsBytes (w.alloc (.cells #[.int .u8 42, .int .u8 (97 + (i : Int))] 5)) (some ⟨w.heap.size, 0, none⟩) 2 [42, UInt8.ofNat (97 + i)] := by
    refine const_is (x := (0, 0)) [42, UInt8.ofNat (97 + i)] ?_ (by simp)
    rw [heap_alloc_new]
    simp [u8s]
    omega
  exact conv_is h rfl
set_option maxHeartbeats 1000000 in
set_option maxRecDepth 1000000 in
theorem mark_any (i : Nat) (hi : i < 3) (w : World) :
    Calls Try.prog 42 #[.int .i64 i] w fun e w' => e = .returned (.string (mkT i)) ∧ Below w.heap.size w w' := by
  have kt := mk_conv w i hi
  have hw : IntKind.u8.wrap (97 + (i : Int)) = 97 + (i : Int) := by rw [IntKind.wrap_u8]; omega
  go_enter Try.func42, Try.ntmps42
  go_wp2_with fail
  go_ret
  exact ⟨rfl, (Below.refl _ w).alloc (Nat.le_refl _) _⟩
theorem mk_inj {i j : Nat} (hi : i < 3) (hj : j < 3) (h : mkT i = mkT j) : i = j := by
  unfold mkT at h
  simp only [ByteArray.mk.injEq] at h
  have h2 : UInt8.ofNat (97 + i) = UInt8.ofNat (97 + j) := by simpa using h
  have := congrArg UInt8.toNat h2
  rw [UInt8.toNat_ofNat', UInt8.toNat_ofNat'] at this
  omega
end Go.Proofs.Ytbeedehloedglaa
