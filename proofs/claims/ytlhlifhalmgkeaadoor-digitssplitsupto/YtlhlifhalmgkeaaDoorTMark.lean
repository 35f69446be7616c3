/-
  The walk of mark.
-/
import Derived.Test.YtlhlifhalmgkeaaDoorBytes
import Derived.Test.YtlhlifhalmgkeaaDoorTAppend
namespace Go.Proofs.YtlhlifhalmgkeaaDoor
open Go.RowKit

/-- The letters of a number, behind a text. -/
def markL : Nat → Nat → ByteArray → ByteArray
  | 0, _, s => s
  | f + 1, i, s => if i = 0 then s else markL f (i / 26) (s ++ ⟨#[UInt8.ofNat (97 + i % 26)]⟩)
def markS (n : Nat) : ByteArray := markL 64 (n + 1) ⟨#[109, 97, 114, 107, 32]⟩
theorem markL_zero (f : Nat) (s : ByteArray) : markL f 0 s = s := by cases f <;> simp [markL]

theorem one_byte (w : World) (x : UInt8) : (w.alloc (.cells #[.int .u8 (x.toNat : Int)] 5)).ownsRow w.heap.size 5 1 (.slice (some ⟨w.heap.size, 0, none⟩) 1 1) [x].length (u8s [x]) :=
  ⟨by simp [u8s], .inr ⟨w.heap.size, 1, #[.int .u8 (x.toNat : Int)], rfl, Nat.le_refl _, heap_alloc_last _ _, by simp, by simp [maxLen], by simp, by simp [u8s]⟩⟩

set_option maxHeartbeats 1000000 in
set_option maxRecDepth 1000000 in
theorem mark_any (n : Nat) (w : World) (hn : n ≤ 1152921504606846976) :
    Calls Tryd.prog 16 #[.int .i64 n] w fun e w' => e = .returned (.string (markS n)) ∧ Below w.heap.size w w' := by
  go_enter Tryd.func16, Tryd.ntmps16
  go_wp2
  go_loopw [3, 4] (fun t q wr => ∃ (i f : Nat) (s : ByteArray), t = .string s ∧ q = .int .i64 i ∧ markL f i s = markS n ∧ i < 2 ^ f ∧ f ≤ 64 ∧ i ≤ n + 1 ∧ s.size + f ≤ 100 ∧ Below w.heap.size w wr) (fun _ q _ => (intOf q).toNat)
  case atStart => exact ⟨n + 1, 64, _, rfl, by go_num, rfl, by omega, by omega, by omega, by decide, Below.refl _ _⟩
  case round =>
    obtain ⟨i, f, s, rfl, rfl, hm, hif, hf, hin, hs, B⟩ := hrel
    have HM : Hid (markL f i s = markS n) := hm
    have HB : Hid (Below w.heap.size w wr) := B
    have hz := B.size
    clear hm B
    by_cases h0 : 0 < i
    · obtain ⟨f', rfl⟩ : ∃ f', f = f' + 1 := by
        cases f with
        | zero => simp at hif; omega
        | succ f' => exact ⟨f', rfl⟩
      obtain ⟨x, hx⟩ : ∃ x, x = UInt8.ofNat (97 + i % 26) := ⟨_, rfl⟩
      have hxw : IntKind.u8.wrap (97 + (i : Int) % 26) = (x.toNat : Int) := by rw [IntKind.wrap_u8, hx, UInt8.toNat_ofNat']; omega
      have hxm : (97 + (i : Int) % 26) % 256 = (x.toNat : Int) := by rw [hx, UInt8.toNat_ofNat']; omega
      have hcv := conv_own [x] (one_byte wr x)
      have hstep : markL f' (i / 26) (s ++ ⟨#[x]⟩) = markS n := by
        have := HM.out
        rw [markL, if_neg (by omega), ← hx] at this
        exact this
      have HST : Hid (markL f' (i / 26) (s ++ ⟨#[x]⟩) = markS n) := hstep
      have hi2 : i / 26 < 2 ^ f' := by rw [Nat.pow_succ] at hif; omega
      have HI2 : Hid (i / 26 < 2 ^ f') := hi2
      clear hx hstep hi2 hif
      go_wp2
      go_roundw
      case rel => exact ⟨i / 26, f', s ++ ⟨#[x]⟩, rfl, by go_num, HST.out, HI2.out, by omega, by omega, by rw [ByteArray.size_append, show (⟨#[x]⟩ : ByteArray).size = 1 from rfl]; omega, HB.out.alloc hz _⟩
      case measure => simp [intOf]; omega
    · obtain rfl : i = 0 := by omega
      have hms : s = markS n := by have := HM.out; rwa [markL_zero] at this
      go_wp2
      go_ret
      exact ⟨by rw [hms]; rfl, HB.out⟩
end Go.Proofs.YtlhlifhalmgkeaaDoor
