/-
  The walks of the document's Word, low, number, sum.
-/
import Derived.Test.YtibcfbajjnpbfaaSum
import Derived.Test.YtibcfbajjnpbfaaRefSum
import Derived.Test.YtibcfbajjnpbfaaCopied
namespace Go.Proofs.Ytibcfbajjnpbfaa
open Go.RowKit Go.Lib

set_option maxRecDepth 1000000 in
theorem refWord_any (n : Int) (w : World) : Calls Try.prog 33 #[.int .i64 n] w fun e w' => e = .returned (.bool (wordB n)) ∧ w' = w := by
  by_cases h1 : 0 ≤ n
  · by_cases h2 : n ≤ 4611686018427387903
    · go_enter Try.func33, Try.ntmps33
      go_wp2
      go_ret
      exact ⟨by simp [wordB, h1, h2], rfl⟩
    · go_enter Try.func33, Try.ntmps33
      go_wp2
      go_ret
      exact ⟨by simp [wordB, h2], rfl⟩
  · go_enter Try.func33, Try.ntmps33
    go_wp2
    go_ret
    exact ⟨by rw [show wordB n = false from decide_eq_false (by omega)]; rfl, rfl⟩

theorem and255_i64 (a : Nat) (ha : a < 9223372036854775808) : bits .and .i64 (a : Int) 255 = ((a % 256 : Nat) : Int) := by
  have := bits_mask .i64 63 (by decide) wraps63 8 (by decide) (a : Int) (by omega) (by omega)
  rw [show (255 : Int) = 2 ^ 8 - 1 from rfl, this]
  rfl

theorem Own.ofNew1 (w : World) (x : UInt8) : IsBytes (w.alloc (.cells #[.int .u8 (x.toNat : Int)] 5)) (some ⟨w.heap.size, 0, none⟩) 1 [x] :=
  ByteRow.is (show ByteRow _ 5 w.heap.size [x] from heap_alloc_last _ _) 0 1 [x] (fun j y hj => by rw [Nat.zero_add]; exact hj) (by simp) (by unfold maxLen; decide)

set_option maxHeartbeats 1000000 in
set_option maxRecDepth 1000000 in
theorem refLow_any (n many : Nat) (w : World) (hn : n < 9223372036854775808) (hm : many ≤ 16) :
    Calls Try.prog 34 #[.int .i64 n, .int .i64 many] w fun e w' => ∃ v, e = .returned v ∧ Own w' w.heap.size v (Crc.le many n) ∧ Below w.heap.size w w' := by
  go_enter Try.func34, Try.ntmps34
  go_wp2
  go_loopw [0, 5, 6] (fun q v i wr => ∃ (k z : Nat), k ≤ many ∧ i = .int .i64 k ∧ q = .int .i64 z ∧ z = n / 256 ^ k ∧ Own wr w.heap.size v (Crc.le k n) ∧ Below w.heap.size w wr) (fun _ _ i _ => many - (intOf i).toNat)
  case atStart => exact ⟨0, n, Nat.zero_le _, rfl, rfl, by simp, Own.lit w _ (Nat.le_refl _), (Below.refl _ w).alloc (Nat.le_refl _) _⟩
  case round =>
    obtain ⟨k, z, hk, rfl, rfl, hz, own, B⟩ := hrel
    have HZ : Hid (z = n / 256 ^ k) := hz
    have hzb : z < 9223372036854775808 := by rw [hz]; exact Nat.lt_of_le_of_lt (Nat.div_le_self _ _) hn
    have OWN : Hid (Own wr w.heap.size u5 (Crc.le k n)) := own
    have HB : Hid (Below w.heap.size w wr) := B
    have hsz := B.size
    clear hz own B
    by_cases hlt : k < many
    · obtain ⟨x, hx⟩ : ∃ x, x = UInt8.ofNat z := ⟨_, rfl⟩
      have e1 : bits .and .i64 (z : Int) 255 = ((z % 256 : Nat) : Int) := and255_i64 z hzb
      obtain ⟨y, hy⟩ : ∃ y, y = z % 256 := ⟨_, rfl⟩
      rw [← hy] at e1
      have hx8 : IntKind.u8.wrap (y : Int) = (x.toNat : Int) := by rw [IntKind.wrap_u8, hx, UInt8.toNat_ofNat', hy]; omega
      have hyx : (y : Int) % 256 = (x.toNat : Int) := by rw [hx, UInt8.toNat_ofNat', hy]; omega
      have HX : Hid (x = UInt8.ofNat z) := hx
      clear hx hy
      go_wp2_with (refine wpList_append8 rfl (.tmp 13) (.tmp 17) rfl w.heap.size u5 (Crc.le k n) rfl (OWN.out.below ((Below.refl _ wr).alloc (Nat.le_refl _) _)) (some ⟨wr.heap.size, 0, none⟩) 1 [x] rfl (Own.ofNew1 wr x) (by rw [Crc.le_length]; simp; omega) (by simp; omega) ?_; intro v2 w2 own2 gr2 _ _ _)
      go_roundw
      case rel => exact ⟨k + 1, z / 256, by omega, by go_num, by go_num, by rw [HZ.out, Nat.div_div_eq_div_mul, Nat.pow_succ], by rw [le_snoc, ← HZ.out, ← HX.out]; exact own2, (HB.out.alloc hsz _).grown gr2 (by simp; omega) (fun j hj => (OWN.out.lt j hj).1)⟩
      case measure => simp [intOf]; omega
    · obtain rfl : k = many := by omega
      go_wp2
      go_ret
      exact ⟨_, rfl, OWN.out, HB.out⟩

theorem or_low (a b : Nat) (ha : a < 4294967296) (hb : b < 256) : bits .or .i64 ((a : Int) * 256) (b : Int) = ((b + 256 * a : Nat) : Int) := by
  have e : ((a : Int) * 256) = ((256 * a : Nat) : Int) := by omega
  rw [e, (bits_nat .i64 63 (by decide) wraps63 _ b (by omega) (by omega)).2, show (256 : Nat) = 2 ^ 8 from rfl, ← Nat.two_pow_add_eq_or_of_lt hb, Nat.add_comm]

set_option maxHeartbeats 1000000 in
set_option maxRecDepth 1000000 in
theorem refNumber_any (a : Option Addr) (c : Nat) (l : List UInt8) (w : World) (hl : IsBytes w a c l) (h4 : l.length ≤ 4) :
    Calls Try.prog 38 #[.slice a l.length c] w fun e w' => e = .returned (.int .i64 (Crc.N l : Nat)) ∧ w' = w := by
  obtain ⟨hl1, hl2, hl3⟩ := hl
  unfold maxLen at hl2
  have HL : Hid (l = [] ∨ ∃ b o, a = some ⟨b, o, none⟩ ∧ b < w.heap.size ∧ ∀ (j : Nat) x, l[j]? = some x → w.cell? ⟨b, o + j, none⟩ = some (.int .u8 (x.toNat : Int))) := hl3
  clear hl3
  go_enter Try.func38, Try.ntmps38
  go_wp2
  go_loop [3, 4] (fun q i => ∃ (k v : Nat), k ≤ l.length ∧ i = .int .i64 ((k : Int) - 1) ∧ q = .int .i64 v ∧ v = Crc.N (l.drop k)) (fun _ i => (intOf i + 1).toNat)
  case atStart => exact ⟨l.length, 0, Nat.le_refl _, rfl, rfl, by simp [Crc.N]⟩
  case round =>
    obtain ⟨k, v, hk, rfl, rfl, hv⟩ := hrel
    have HV : Hid (v = Crc.N (l.drop k)) := hv
    have hvb : v < 4294967296 := by
      rw [hv]
      have := Crc.N_lt (l.drop k)
      have h2 : 256 ^ (l.drop k).length ≤ 256 ^ 4 := Nat.pow_le_pow_right (by decide) (by simp; omega)
      omega
    clear hv
    by_cases h0 : 0 < k
    · obtain ⟨j, rfl⟩ : ∃ j, k = j + 1 := ⟨k - 1, by omega⟩
      obtain ⟨x, hx⟩ : ∃ x, l[j]? = some x := ⟨_, List.getElem?_eq_getElem (by omega)⟩
      rcases HL.out with rfl | ⟨b, o, rfl, hb, hc⟩
      · simp at hx
      have c1 : w.cell? ⟨b, o + j, none⟩ = some (.int .u8 (x.toNat : Int)) := hc j x hx
      have hjl : j < l.length := by omega
      have hxb := x.toNat_lt
      have ej : ((j + 1 : Nat) : Int) - 1 = (j : Int) := by omega
      obtain ⟨y, hy⟩ : ∃ y, y = x.toNat + 256 * v := ⟨_, rfl⟩
      have eo : bits .or .i64 ((v : Int) * 256) (x.toNat : Int) = (y : Int) := by rw [hy]; exact or_low v _ hvb x.toNat_lt
      have HY : Hid (y = Crc.N (l.drop j)) := by
        show y = _
        rw [hy, HV.out, List.drop_eq_getElem_cons hjl, (List.getElem?_eq_some_iff.1 hx).2]
        rfl
      rw [ej]
      clear hy hx hc ej
      go_wp2
      go_round
      case rel => exact ⟨j, y, by omega, by go_num, rfl, HY.out⟩
      case measure => simp [intOf]
    · obtain rfl : k = 0 := by omega
      go_wp2
      go_ret
      exact ⟨ret_int (by rw [HV.out]; rfl), rfl⟩

set_option maxHeartbeats 1000000 in
set_option maxRecDepth 1000000 in
theorem refFsum_any (f p : Nat) (a : Option Addr) (c : Nat) (l : List UInt8) (w : World) (hf : f < 9223372036854775808) (hp : p < 9223372036854775808) (hl : IsBytes w a c l) (hb : l.length ≤ 70368744177664) :
    Calls Try.prog 35 #[.int .i64 f, .int .i64 p, .slice a l.length c] w fun e w' => ∃ v, e = .returned v ∧ Own w' w.heap.size v (Crc.le 4 (Crc.fsum f p l)) ∧ Below w.heap.size w w' := by
  have HL : Hid (IsBytes w a c l) := hl
  clear hl
  obtain ⟨s, hs⟩ : ∃ s, s = Crc.fsum f p l := ⟨_, rfl⟩
  have hsb : s < 4294967296 := by rw [hs]; exact Crc.fsum_lt _ _ _
  have HS : Hid (s = Crc.fsum f p l) := hs
  clear hs
  go_enter Try.func35, Try.ntmps35
  go_wp2_with fail
  refine (refLow_any f 8 w hf (by decide)).mono ?_
  rintro e w1 ⟨v1, rfl, own1, B1⟩
  have OWN1 : Hid (Own w1 w.heap.size v1 (Crc.le 8 f)) := own1
  have HB1 : Hid (Below w.heap.size w w1) := B1
  have hz1 := B1.size
  clear own1 B1
  go_wp2_with fail
  refine (refLow_any p 8 w1 hp (by decide)).mono ?_
  rintro e w2 ⟨v2, rfl, own2, B2⟩
  obtain ⟨a2, c2, hv2, is2⟩ := own2.shape
  rw [Crc.le_length] at hv2
  subst hv2
  have OWN2 : Hid (Own w2 w.heap.size v1 (Crc.le 8 f)) := OWN1.out.below B2
  have IS2 : Hid (IsBytes w2 a2 c2 (Crc.le 8 p)) := is2
  have HB2 : Hid (Below w.heap.size w w2) := HB1.out.trans (B2.mono hz1)
  have hz2 := HB2.out.size
  have hl8 : (Crc.le 8 p).length = 8 := Crc.le_length _ _
  clear own2 is2 B2
  go_wp2_with (first
    | (refine wpList_append8 rfl (.tmp 10) (.tmp 12) rfl w.heap.size v1 (Crc.le 8 f) rfl OWN2.out a2 c2 (Crc.le 8 p) (by rw [hl8]; rfl) IS2.out (by rw [Crc.le_length, Crc.le_length]; omega) hz2 ?_
       intro v3 w3 own3 gr3 _ _ _
       have HB3 : Hid (Below w.heap.size w w3) := HB2.out.grown gr3 hz2 (fun j hj => (OWN2.out.lt j hj).1)
       have OWN3 : Hid (Own w3 w.heap.size v3 (Crc.le 8 f ++ Crc.le 8 p)) := own3
       have hz3 := HB3.out.size
       clear own3 gr3)
    | (refine wpList_append8 rfl (.tmp 14) (.tmp 15) rfl w.heap.size v3 (Crc.le 8 f ++ Crc.le 8 p) rfl OWN3.out a c l rfl (HL.out.below HB3.out) (by rw [List.length_append, Crc.le_length, Crc.le_length]; omega) hz3 ?_
       intro v4 w4 own4 gr4 _ _ _
       have HB4 : Hid (Below w.heap.size w w4) := HB3.out.grown gr4 hz3 (fun j hj => (OWN3.out.lt j hj).1)
       have OWN4 : Hid (Own w4 w.heap.size v4 (Crc.le 8 f ++ Crc.le 8 p ++ l)) := own4
       have hz4 := HB4.out.size
       clear own4 gr4))
  obtain ⟨a4, c4, hv4, is4⟩ := OWN4.out.shape
  subst hv4
  refine (refSum_any a4 c4 _ w4 is4).mono ?_
  rintro e w5 ⟨rfl, hW⟩
  have hW := hW.symm
  subst hW
  rw [show Crc.sum (Crc.le 8 f ++ Crc.le 8 p ++ l) = s from HS.out.symm]
  go_wp2_with fail
  refine (refLow_any s 4 w4 (by omega) (by decide)).mono ?_
  rintro e w6 ⟨v6, rfl, own6, B6⟩
  have OWN6 : Hid (Own w6 w.heap.size v6 (Crc.le 4 (Crc.fsum f p l))) := by rw [← HS.out]; exact own6.mono hz4
  have HB6 : Hid (Below w.heap.size w w6) := HB4.out.trans (B6.mono hz4)
  clear own6 B6
  go_wp2
  go_ret
  exact ⟨_, rfl, OWN6.out, HB6.out⟩
end Go.Proofs.Ytibcfbajjnpbfaa
