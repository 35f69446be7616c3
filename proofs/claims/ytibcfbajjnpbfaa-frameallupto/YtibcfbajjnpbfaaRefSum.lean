/-
  The walk of the document's Sum.
-/
import Derived.Test.YtibcfbajjnpbfaaCrc
import Derived.Test.YtibcfbajjnpbfaaMem
namespace Go.Proofs.Ytibcfbajjnpbfaa
open Go.RowKit

theorem wraps63 (n : Int) (h₀ : 0 ≤ n) (h₁ : n < 2 ^ 63) : IntKind.i64.wrap n = n := by rw [IntKind.wrap_i64]; omega
theorem xor_i64 (a b : Nat) (ha : a < 4294967296) (hb : b < 4294967296) : bits .xor .i64 (a : Int) (b : Int) = ((a ^^^ b : Nat) : Int) := by
  have h : a ^^^ b < 4294967296 := Nat.xor_lt_two_pow (n := 32) ha hb
  have ha' : a % 2 ^ IntKind.i64.bits = a := Nat.mod_eq_of_lt (show a < 18446744073709551616 by omega)
  have hb' : b % 2 ^ IntKind.i64.bits = b := Nat.mod_eq_of_lt (show b < 18446744073709551616 by omega)
  simp only [bits, BitVec.ofInt_natCast, BitVec.toNat_xor, BitVec.toNat_ofNat, ha', hb']
  exact wraps63 _ (by omega) (by omega)
theorem and1_i64 (a : Nat) (ha : a < 4294967296) : bits .and .i64 (a : Int) 1 = ((a % 2 : Nat) : Int) := by
  have := bits_mask .i64 63 (by decide) wraps63 1 (by decide) (a : Int) (by omega) (by omega)
  rw [show (1 : Int) = 2 ^ 1 - 1 from rfl, this]
  rfl
theorem ret_int' {k : IntKind} {a b : Int} (h : a = b) : Ending.returned (.int k a) = .returned (.int k b) := by rw [h]

set_option maxHeartbeats 1000000 in
set_option maxRecDepth 1000000 in
theorem refSum_any (a : Option Addr) (c : Nat) (l : List UInt8) (w : World) (hl : IsBytes w a c l) :
    Calls Try.prog 12 #[.slice a l.length c] w fun e w' => e = .returned (.int .i64 (Crc.sum l : Nat)) ∧ w' = w := by
  obtain ⟨hl1, hl2, hl3⟩ := hl
  unfold maxLen at hl2
  have HL : Hid (l = [] ∨ ∃ b o, a = some ⟨b, o, none⟩ ∧ b < w.heap.size ∧ ∀ (j : Nat) x, l[j]? = some x → w.cell? ⟨b, o + j, none⟩ = some (.int .u8 (x.toNat : Int))) := hl3
  clear hl3
  go_enter Try.func12, Try.ntmps12
  go_wp2
  go_loop [3, 4] (fun q i => ∃ (k v : Nat), k ≤ l.length ∧ i = .int .i64 k ∧ q = .int .i64 v ∧ v = Crc.reg 4294967295 (l.take k)) (fun _ i => l.length - (intOf i).toNat)
  case atStart => exact ⟨0, 4294967295, Nat.zero_le _, rfl, rfl, rfl⟩
  case round =>
    obtain ⟨k, v, hk, rfl, rfl, hv⟩ := hrel
    have HV : Hid (v = Crc.reg 4294967295 (l.take k)) := hv
    have hvb : v < 4294967296 := by rw [hv]; exact Crc.reg_lt _ _ (by decide)
    clear hv
    by_cases hlt : k < l.length
    · obtain ⟨x, hx⟩ : ∃ x, l[k]? = some x := ⟨_, List.getElem?_eq_getElem hlt⟩
      rcases HL.out with rfl | ⟨b, o, rfl, hb, hc⟩
      · simp at hlt
      have c1 : w.cell? ⟨b, o + k, none⟩ = some (.int .u8 (x.toNat : Int)) := hc k x hx
      have hxb := x.toNat_lt
      obtain ⟨y, hy⟩ : ∃ y, y = v ^^^ x.toNat := ⟨_, rfl⟩
      have hyb : y < 4294967296 := by rw [hy]; exact Nat.xor_lt_two_pow (n := 32) hvb (by omega)
      have e1 : bits .xor .i64 (v : Int) (x.toNat : Int) = (y : Int) := by rw [hy]; exact xor_i64 _ _ hvb (by omega)
      have HY : Hid (y = v ^^^ x.toNat) := hy
      have HX : Hid (l[k]? = some x) := hx
      have HYB : Hid (y < 4294967296) := hyb
      clear hy hx hc hyb
      go_wp2
      clear e1 c1
      go_loop [3, 5] (fun q i => ∃ (j z : Nat), j ≤ 8 ∧ i = .int .i64 j ∧ q = .int .i64 z ∧ z = Crc.It j y) (fun _ i => 8 - (intOf i).toNat)
      case atStart => exact ⟨0, y, Nat.zero_le _, rfl, rfl, rfl⟩
      case round =>
        obtain ⟨j, z, hj, rfl, rfl, hz⟩ := hrel
        have hzb : z < 4294967296 := by rw [hz]; exact Crc.it_lt _ _ HYB.out
        have HZ : Hid (z = Crc.It j y) := hz
        clear hz
        by_cases hj8 : j < 8
        · have hstep : Crc.It (j + 1) y = Crc.S z := by rw [HZ.out, Crc.it_add]; rfl
          have HST : Hid (Crc.It (j + 1) y = Crc.S z) := hstep
          clear hstep
          have ea : bits .and .i64 (z : Int) 1 = ((z % 2 : Nat) : Int) := and1_i64 _ hzb
          by_cases ho : z % 2 = 1
          · obtain ⟨u, hu⟩ : ∃ u, u = Crc.S z := ⟨_, rfl⟩
            have eu : bits .xor .i64 ((z : Int) / 2) 3988292384 = (u : Int) := by
              rw [hu, Crc.S, if_pos ho, show ((z : Int) / 2) = ((z / 2 : Nat) : Int) by omega]
              exact xor_i64 _ 3988292384 (by omega) (by decide)
            have HU : Hid (u = Crc.S z) := hu
            rw [ho] at ea
            clear hu
            go_wp2
            go_round
            case rel => exact ⟨j + 1, u, by omega, by go_num, rfl, by rw [HU.out, HST.out]⟩
            case measure => simp [intOf]; omega
          · have ho0 : z % 2 = 0 := by omega
            have HU : Hid (z / 2 = Crc.S z) := by show _ = _; rw [Crc.S, if_neg ho]; simp
            rw [ho0] at ea
            go_wp2
            go_round
            case rel => exact ⟨j + 1, z / 2, by omega, by go_num, by go_num, by rw [HU.out, HST.out]⟩
            case measure => simp [intOf]; omega
        · obtain rfl : j = 8 := by omega
          go_wp2
          go_round
          case rel =>
            refine ⟨k + 1, z, by omega, by go_num, rfl, ?_⟩
            rw [List.take_add_one, HX.out, Crc.reg_app, ← HV.out, HZ.out, HY.out]
            rfl
          case measure => simp [intOf]; omega
    · have hvl : v = Crc.reg 4294967295 l := by have := HV.out; rwa [List.take_of_length_le (by omega)] at this
      obtain ⟨s, hs⟩ : ∃ s, s = Crc.sum l := ⟨_, rfl⟩
      have es : bits .xor .i64 (v : Int) 4294967295 = (s : Int) := by
        rw [hs, Crc.sum, ← hvl]
        exact xor_i64 _ 4294967295 hvb (by decide)
      have HS : Hid (s = Crc.sum l) := hs
      clear hs hvl
      go_wp2
      go_ret
      exact ⟨ret_int' (by rw [HS.out]), rfl⟩
end Go.Proofs.Ytibcfbajjnpbfaa
