/-
  A byte of DATA is read.
-/
import Derived.Test.YteaccpolmmkclaaDoorShelf
import Derived.Test.YteaccpolmmkclaaDoorPanA
namespace Go.Proofs.YteaccpolmmkclaaDoor
open Go.RowKit

def hexL : List UInt8 := [48, 49, 50, 51, 52, 53, 54, 55, 56, 57, 97, 98, 99, 100, 101, 102]
theorem hex_all : ∀ n, n < 256 → Lib.indexByte hexL (UInt8.ofNat n) = (match hexP (UInt8.ofNat n) with | some v => (v.toNat : Int) | none => -1) ∧ (∀ v, hexP (UInt8.ofNat n) = some v → v.toNat < 16) := by
  intro n hn
  have h1 : ∀ n, n < 256 → (Lib.indexByte hexL (UInt8.ofNat n) == (match hexP (UInt8.ofNat n) with | some v => (v.toNat : Int) | none => -1)) = true ∧ (match hexP (UInt8.ofNat n) with | some v => decide (v.toNat < 16) | none => true) = true := by decide +kernel
  obtain ⟨a, b⟩ := h1 n hn
  refine ⟨by simpa using a, fun v hv => ?_⟩
  rw [hv] at b
  simpa using b
theorem ofNat_self (c : UInt8) : UInt8.ofNat c.toNat = c := by simp
theorem hex_index (c : UInt8) : Lib.indexByte hexL c = (match hexP c with | some v => (v.toNat : Int) | none => -1) := by
  have := (hex_all c.toNat c.toNat_lt).1
  rwa [ofNat_self] at this
theorem hex_lt {c v : UInt8} (h : hexP c = some v) : v.toNat < 16 := by
  have := (hex_all c.toNat c.toNat_lt).2 v
  rw [ofNat_self] at this
  exact this h

set_option maxHeartbeats 1000000 in
set_option maxRecDepth 1000000 in
theorem hex_yes (c v : UInt8) (w : World) (h : hexP c = some v) :
    Calls Tryd.prog 72 #[.int .u8 (c.toNat : Int)] w fun e w' => e = .returned (.int .u8 (v.toNat : Int)) ∧ w' = w := by
  have hl := hex_lt h
  have hi := hex_index c
  rw [h] at hi
  simp only [] at hi
  have CI := hide (Tryd.strings_IndexByte ⟨hexL.toArray⟩ (c.toNat : Int))
  have e1 : ((c.toNat : Int).toNat.toUInt8) = c := by simp
  rw [e1, show (⟨hexL.toArray⟩ : ByteArray).data.toList = hexL from rfl, hi] at CI
  unfold hexL at CI
  obtain ⟨m, hm⟩ : ∃ m : Nat, v.toNat = m := ⟨_, rfl⟩
  rw [hm] at CI hl ⊢
  have h0 : ¬ (m : Int) < 0 := by omega
  have h256 : (m : Int) % 256 = m := by omega
  clear e1 hi h hm
  go_enter Tryd.func72, Tryd.ntmps72
  go_wp2_with (go_at_call 75
               refine (CI.out _).mono ?_
               rintro e w1 ⟨rfl, rfl⟩)
  go_ret
  exact ⟨rfl, rfl⟩
set_option maxHeartbeats 1000000 in
set_option maxRecDepth 1000000 in
theorem hex_no (c : UInt8) (w : World) (h : hexP c = none) :
    Calls Tryd.prog 72 #[.int .u8 (c.toNat : Int)] w fun e w' => e = pan 192 ∧ w' = w := by
  have hi := hex_index c
  rw [h] at hi
  simp only [] at hi
  have CI := hide (Tryd.strings_IndexByte ⟨hexL.toArray⟩ (c.toNat : Int))
  have e1 : ((c.toNat : Int).toNat.toUInt8) = c := by simp
  rw [e1, show (⟨hexL.toArray⟩ : ByteArray).data.toList = hexL from rfl, hi] at CI
  unfold hexL at CI
  unfold pan
  clear e1 hi h
  go_enter Tryd.func72, Tryd.ntmps72
  go_wp2_with (go_at_call 75
               refine (CI.out _).mono ?_
               rintro e w1 ⟨rfl, rfl⟩)
  exact ⟨rfl, rfl, rfl⟩
end Go.Proofs.YteaccpolmmkclaaDoor
