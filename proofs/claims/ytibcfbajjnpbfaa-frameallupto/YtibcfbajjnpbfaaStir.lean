/-
  The walk of stir.
-/
import Derived.Test.YtibcfbajjnpbfaaCrc
import Derived.Test.YtibcfbajjnpbfaaMem
namespace Go.Proofs.Ytibcfbajjnpbfaa
open Go.RowKit

theorem xor_u32 (a b : Nat) (ha : a < 4294967296) (hb : b < 4294967296) : bits .xor .u32 (a : Int) (b : Int) = ((a ^^^ b : Nat) : Int) := by
  have h : a ^^^ b < 4294967296 := Nat.xor_lt_two_pow (n := 32) ha hb
  have ha' : a % 2 ^ IntKind.u32.bits = a := Nat.mod_eq_of_lt ha
  have hb' : b % 2 ^ IntKind.u32.bits = b := Nat.mod_eq_of_lt hb
  simp only [bits, BitVec.ofInt_natCast, BitVec.toNat_xor, BitVec.toNat_ofNat, ha', hb']
  rw [IntKind.wrap_u32]
  omega
theorem and15_u32 (a : Nat) (ha : a < 4294967296) : bits .and .u32 (a : Int) 15 = ((a % 16 : Nat) : Int) := by
  have := bits_mask .u32 32 (by decide) (fun n h0 h1 => by rw [IntKind.wrap_u32]; omega) 4 (by decide) (a : Int) (by omega) (by omega)
  rw [show (15 : Int) = 2 ^ 4 - 1 from rfl, this]
  rfl

/-- The numbers of the table, in memory. -/
def tabV : Array Value := #[.int .u32 0, .int .u32 498536548, .int .u32 997073096, .int .u32 651767980, .int .u32 1994146192, .int .u32 1802195444, .int .u32 1303535960, .int .u32 1342533948, .int .u32 3988292384, .int .u32 4027552580, .int .u32 3604390888, .int .u32 3412177804, .int .u32 2607071920, .int .u32 2262029012, .int .u32 2685067896, .int .u32 3183342108]
theorem tabV_get : ∀ h : Fin 16, tabV[h.val]? = some (.int .u32 ((Crc.T.getD h.val 0 : Nat) : Int)) := by
  rintro ⟨h, hh⟩
  match h, hh with
  | 0, _ | 1, _ | 2, _ | 3, _ | 4, _ | 5, _ | 6, _ | 7, _ | 8, _ | 9, _ | 10, _ | 11, _ | 12, _ | 13, _ | 14, _ | 15, _ => rfl
  | n + 16, hh => omega
theorem ret_int {k : IntKind} {a b : Int} (h : a = b) : Ending.returned (.int k a) = .returned (.int k b) := by rw [h]

set_option maxHeartbeats 1000000 in
set_option maxRecDepth 1000000 in
theorem stir_any (r : Nat) (a : Option Addr) (c : Nat) (l : List UInt8) (w : World) (hr : r < 4294967296) (hl : IsBytes w a c l) :
    Calls Try.prog 28 #[.int .u32 r, .slice a l.length c] w fun e w' => e = .returned (.int .u32 (Crc.reg r l : Nat)) ∧ w' = w.alloc (.cells tabV 61) := by
  obtain ⟨hl1, hl2, hl3⟩ := hl
  unfold maxLen at hl2
  have HL : Hid (l = [] ∨ ∃ b o, a = some ⟨b, o, none⟩ ∧ b < w.heap.size ∧ ∀ (j : Nat) x, l[j]? = some x → w.cell? ⟨b, o + j, none⟩ = some (.int .u8 (x.toNat : Int))) := hl3
  clear hl3
  have htab : ∀ h : Nat, h < 16 → (w.alloc (.cells tabV 61)).cell? ⟨w.heap.size, h, none⟩ = some (.int .u32 ((Crc.T.getD h 0 : Nat) : Int)) := fun h hh => by
    rw [World.cell?_alloc_at _ _ _ _ rfl]; exact tabV_get ⟨h, hh⟩
  have hB : Below w.heap.size w (w.alloc (.cells tabV 61)) := (Below.refl _ w).alloc (Nat.le_refl _) _
  go_enter Try.func28, Try.ntmps28
  go_wp2
  change Code.wp _ _ _ _ (w.alloc (.cells tabV 61))
  generalize hW : w.alloc (.cells tabV 61) = W at *
  have HW : Hid (w.alloc (.cells tabV 61) = W) := hW
  have HTAB : Hid (∀ h : Nat, h < 16 → W.cell? ⟨w.heap.size, h, none⟩ = some (.int .u32 ((Crc.T.getD h 0 : Nat) : Int))) := htab
  have HB : Hid (Below w.heap.size w W) := hB
  clear hW htab hB
  go_loop [0, 11] (fun q i => ∃ (k v : Nat), k ≤ l.length ∧ i = .int .i64 k ∧ q = .int .u32 v ∧ v = Crc.reg r (l.take k)) (fun _ i => l.length - (intOf i).toNat)
  case atStart => exact ⟨0, r, Nat.zero_le _, rfl, rfl, rfl⟩
  case round =>
    obtain ⟨k, v, hk, rfl, rfl, hv⟩ := hrel
    have HV : Hid (v = Crc.reg r (l.take k)) := hv
    have hvb : v < 4294967296 := by rw [hv]; exact Crc.reg_lt _ _ hr
    clear hv
    by_cases hlt : k < l.length
    · obtain ⟨x, hx⟩ : ∃ x, l[k]? = some x := ⟨_, List.getElem?_eq_getElem hlt⟩
      rcases HL.out with rfl | ⟨b, o, rfl, hb, hc⟩
      · simp at hlt
      have c1 : W.cell? ⟨b, o + k, none⟩ = some (.int .u8 (x.toNat : Int)) := (HB.out.cell (p := ⟨b, o + k, none⟩) hb).trans (hc k x hx)
      have hxb := x.toNat_lt
      obtain ⟨y, hy⟩ : ∃ y, y = v ^^^ x.toNat := ⟨_, rfl⟩
      have hyb : y < 4294967296 := by rw [hy]; exact Nat.xor_lt_two_pow (n := 32) hvb (by omega)
      have e1 : bits .xor .u32 (v : Int) (x.toNat : Int) = (y : Int) := by rw [hy]; exact xor_u32 _ _ hvb (by omega)
      obtain ⟨h1, hh1⟩ : ∃ h, h = y % 16 := ⟨_, rfl⟩
      have h1b : h1 < 16 := by omega
      have e2 : bits .and .u32 (y : Int) 15 = (h1 : Int) := by rw [hh1]; exact and15_u32 _ hyb
      obtain ⟨t1, ht1⟩ : ∃ t, t = Crc.T.getD h1 0 := ⟨_, rfl⟩
      have c2 : W.cell? ⟨w.heap.size, h1, none⟩ = some (.int .u32 (t1 : Int)) := by rw [ht1]; exact HTAB.out h1 h1b
      obtain ⟨z, hz⟩ : ∃ z, z = Crc.It 4 y := ⟨_, rfl⟩
      have hzb : z < 4294967296 := by rw [hz]; exact Crc.it_lt 4 y hyb
      have e3 : bits .xor .u32 ((y : Int) / 16) (t1 : Int) = (z : Int) := by
        rw [hz, Crc.it4, ht1, hh1, show ((y : Int) / 16) = ((y / 16 : Nat) : Int) by omega]
        exact xor_u32 _ _ (by omega) (Crc.T_lt ⟨y % 16, by omega⟩)
      obtain ⟨h2, hh2⟩ : ∃ h, h = z % 16 := ⟨_, rfl⟩
      have h2b : h2 < 16 := by omega
      have e4 : bits .and .u32 (z : Int) 15 = (h2 : Int) := by rw [hh2]; exact and15_u32 _ hzb
      obtain ⟨t2, ht2⟩ : ∃ t, t = Crc.T.getD h2 0 := ⟨_, rfl⟩
      have c3 : W.cell? ⟨w.heap.size, h2, none⟩ = some (.int .u32 (t2 : Int)) := by rw [ht2]; exact HTAB.out h2 h2b
      obtain ⟨u, hu⟩ : ∃ u, u = Crc.It 4 z := ⟨_, rfl⟩
      have e5 : bits .xor .u32 ((z : Int) / 16) (t2 : Int) = (u : Int) := by
        rw [hu, Crc.it4, ht2, hh2, show ((z : Int) / 16) = ((z / 16 : Nat) : Int) by omega]
        exact xor_u32 _ _ (by omega) (Crc.T_lt ⟨z % 16, by omega⟩)
      have HU : Hid (u = Crc.reg r (l.take (k + 1))) := by
        show u = _
        rw [List.take_add_one, hx, Crc.reg_app, ← HV.out]
        show u = Crc.B v x
        rw [Crc.B_eq, hu, hz, hy]
      clear hu hz hy hh1 hh2 ht1 ht2 hc hx
      go_wp2
      go_round
      case rel => exact ⟨k + 1, u, by omega, by go_num, rfl, HU.out⟩
      case measure => simp [intOf]; omega
    · go_wp2
      go_ret
      have := HV.out
      rw [List.take_of_length_le (by omega)] at this
      exact ⟨ret_int (by rw [this]), HW.out.symm⟩
end Go.Proofs.Ytibcfbajjnpbfaa
