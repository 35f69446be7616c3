/-
  The walk of the statement on sums.
-/
import Derived.Test.YtjbmolclagmecaaShown
import Derived.Test.YtjbmolclagmecaaLent
import Derived.Test.YtjbmolclagmecaaStore
import Derived.Test.YtjbmolclagmecaaRefSum
namespace Go.Proofs.Ytjbmolclagmecaa.frameSums
open Go.RowKit Go.Lib

set_option maxHeartbeats 2000000 in
set_option maxRecDepth 1000000 in
theorem walk (a : Option Addr) (c : Nat) (l : List UInt8) (a' : Option Addr) (c' : Nat) (r : List UInt8) (w : World)
    (h1 : IsBytes w a c l ∧ (a = none → c = 0)) (h2 : IsBytes w a' c' r ∧ (a' = none → c' = 0)) (hk1 : l.length ≤ 1048576) (_hk2 : r.length ≤ 1048576) :
    Calls Try.prog 3 #[.slice a l.length c, .slice a' r.length c'] w fun e w' => e = .returned (.bool true) ∧ Below w.heap.size w w' := by
  have H1 : Hid (IsBytes w a c l) := h1.1
  have H2 : Hid (IsBytes w a' c' r) := h2.1
  clear h1 h2
  obtain ⟨s, hs⟩ : ∃ s, s = Crc.sum l := ⟨_, rfl⟩
  obtain ⟨t, ht⟩ : ∃ t, t = Crc.sum r := ⟨_, rfl⟩
  have HS : Hid (s = Crc.sum l) := hs
  have HT : Hid (t = Crc.sum r) := ht
  clear hs ht
  go_enter Try.func3, Try.ntmps3
  go_wp2_with fail
  refine (shown_any _).mono ?_
  rintro e w1 ⟨rfl, B1⟩
  have HB1 : Hid (Below w.heap.size w w1) := B1
  clear B1
  go_wp2_with fail
  refine (lent_any a c l w1 (H1.out.below HB1.out) (by omega)).mono ?_
  rintro e w2 ⟨g, cap, rfl, own2, B2⟩
  have hz1 := HB1.out.size
  have HB2 : Hid (Below w.heap.size w w2) := HB1.out.trans (B2.mono hz1)
  have OWN2 : Hid (Own w2 w.heap.size (.slice (some ⟨g, 0, none⟩) (l.length + 8) cap) (l ++ marks 8)) := own2.mono hz1
  have hcap : l.length ≤ cap := by have := OWN2.out.is.1.1; simp at this; omega
  clear B2 own2
  go_wp2_with fail
  refine (sum_any (some ⟨g, 0, none⟩) cap l w2 OWN2.out.is.1.head).mono ?_
  rintro e w3 ⟨rfl, B3⟩
  rw [← HS.out]
  have hz2 := HB2.out.size
  have HB3 : Hid (Below w.heap.size w w3) := HB2.out.trans (B3.mono hz2)
  have OWN3 : Hid (Own w3 w.heap.size (.slice (some ⟨g, 0, none⟩) (l.length + 8) cap) (l ++ marks 8)) := OWN2.out.below B3
  clear B3
  go_wp2_with fail
  refine (sum_any a' c' r w3 (H2.out.below HB3.out)).mono ?_
  rintro e w4 ⟨rfl, B4⟩
  rw [← HT.out]
  have hz3 := HB3.out.size
  have HB4 : Hid (Below w.heap.size w w4) := HB3.out.trans (B4.mono hz3)
  have OWN4 : Hid (Own w4 w.heap.size (.slice (some ⟨g, 0, none⟩) (l.length + 8) cap) (l ++ marks 8)) := OWN3.out.below B4
  clear B4
  go_wp2_with fail
  refine (sum_any (some ⟨g, 0, none⟩) cap l w4 OWN4.out.is.1.head).mono ?_
  rintro e w5 ⟨rfl, B5⟩
  rw [← HS.out]
  have hz4 := HB4.out.size
  have HB5 : Hid (Below w.heap.size w w5) := HB4.out.trans (B5.mono hz4)
  have OWN5 : Hid (Own w5 w.heap.size (.slice (some ⟨g, 0, none⟩) (l.length + 8) cap) (l ++ marks 8)) := OWN4.out.below B5
  clear B5 OWN2 OWN3 OWN4 HB1 HB2 HB3 HB4 hz1 hz2 hz3 hz4
  go_wp2_with fail
  refine (refSum_any a c l w5 (H1.out.below HB5.out)).mono ?_
  rintro e w6 ⟨rfl, hW⟩
  have hW := hW.symm
  subst hW
  rw [← HS.out]
  go_wp2_with fail
  refine (refSum_any a' c' r w5 (H2.out.below HB5.out)).mono ?_
  rintro e w6 ⟨rfl, hW⟩
  have hW := hW.symm
  subst hW
  rw [← HT.out]
  go_wp2_with fail
  refine (still_any (some ⟨g, 0, none⟩) cap a c l w5 OWN5.out.is.1 (H1.out.below HB5.out)).mono ?_
  rintro e w6 ⟨rfl, n6, hW⟩
  have HB6 : Hid (Below w.heap.size w w6) := by rw [hW]; exact below_drewN HB5.out n6
  have OWN6 : Hid (Own w6 w.heap.size (.slice (some ⟨g, 0, none⟩) (l.length + 8) cap) (l ++ marks 8)) := OWN5.out.below (by rw [hW]; exact below_drewN (Below.refl _ w5) n6)
  clear hW OWN5 HB5
  go_wp2
  go_loopw [10] (fun i wr => ∃ k : Nat, k ≤ l.length ∧ i = .int .i64 k ∧ Own wr w.heap.size (.slice (some ⟨g, 0, none⟩) (l.length + 8) cap) (turned l k ++ marks 8) ∧ Below w.heap.size w wr) (fun i _ => l.length - (intOf i).toNat)
  case atStart => exact ⟨0, Nat.zero_le _, rfl, by rw [turned_zero]; exact OWN6.out, HB6.out⟩
  case round =>
    obtain ⟨k, hk, rfl, own, B⟩ := hrel
    have OWN : Hid (Own wr w.heap.size (.slice (some ⟨g, 0, none⟩) (l.length + 8) cap) (turned l k ++ marks 8)) := own
    have HB : Hid (Below w.heap.size w wr) := B
    clear own B OWN6 HB6
    by_cases hlt : k < l.length
    · obtain ⟨x, hx⟩ : ∃ x, l[k]? = some x := ⟨_, List.getElem?_eq_getElem hlt⟩
      have hc : wr.cell? ⟨g, k, none⟩ = some (.int .u8 (x.toNat : Int)) := OWN.out.cell k x (turned_get l _ k x hx)
      have hf : wr.frozen? ⟨g, k, none⟩ = false := OWN.out.frozen k
      obtain ⟨y, hy⟩ : ∃ y, y = x ^^^ 33 := ⟨_, rfl⟩
      have e33 : bits .xor .u8 (x.toNat : Int) 33 = (y.toNat : Int) := by rw [hy]; exact xor33 x
      have hset := OWN.out.set k y
      have HSET : Hid (Own (wr.setCell ⟨g, k, none⟩ (.int .u8 (y.toNat : Int))) w.heap.size (.slice (some ⟨g, 0, none⟩) (l.length + 8) cap) (turned l (k + 1) ++ marks 8)) := by
        show Own _ _ _ _
        rw [← turned_set l _ k x hx, ← hy]
        exact hset.1
      have HGR : Hid (Below w.heap.size w (wr.setCell ⟨g, k, none⟩ (.int .u8 (y.toNat : Int)))) := HB.out.setCell OWN.out.block.1 _
      clear hset hy hx
      go_wp2
      go_roundw
      case rel => exact ⟨k + 1, by omega, by go_num, HSET.out, HGR.out⟩
      case measure => simp [intOf]; omega
    · obtain rfl : k = l.length := by omega
      obtain ⟨m, hm⟩ : ∃ m, m = turned l l.length := ⟨_, rfl⟩
      have hml : m.length = l.length := by rw [hm]; exact turned_length _ _
      have OWM : Hid (Own wr w.heap.size (.slice (some ⟨g, 0, none⟩) (l.length + 8) cap) (m ++ marks 8)) := by rw [hm]; exact OWN.out
      obtain ⟨q, hq⟩ : ∃ q, q = Crc.sum m := ⟨_, rfl⟩
      have HQ : Hid (q = Crc.sum m) := hq
      clear hm hq OWN
      go_wp2_with fail
      have hsm := sum_any (some ⟨g, 0, none⟩) cap m wr OWM.out.is.1.head
      rw [hml, ← HQ.out] at hsm
      refine hsm.mono ?_
      clear hsm
      rintro e w7 ⟨rfl, B7⟩
      have hz := HB.out.size
      have HB7 : Hid (Below w.heap.size w w7) := HB.out.trans (B7.mono hz)
      have OWN7 : Hid (Own w7 w.heap.size (.slice (some ⟨g, 0, none⟩) (l.length + 8) cap) (m ++ marks 8)) := OWM.out.below B7
      clear B7
      go_wp2_with fail
      have hcp := copied_any (some ⟨g, 0, none⟩) cap m w7 OWN7.out.is.1.head (by omega)
      rw [hml] at hcp
      refine hcp.mono ?_
      clear hcp
      rintro e w8 ⟨v8, rfl, own8, B8, _⟩
      have hz7 := HB7.out.size
      have HB8 : Hid (Below w.heap.size w w8) := HB7.out.trans (B8.mono hz7)
      obtain ⟨a8, c8, rfl, is8⟩ := own8.shape
      have IS8 : Hid (IsBytes w8 a8 c8 m) := is8
      clear own8 is8 B8
      go_wp2_with fail
      have hrf := refSum_any a8 c8 m w8 IS8.out
      rw [hml, ← HQ.out] at hrf
      refine hrf.mono ?_
      clear hrf
      rintro e w9 ⟨rfl, hW⟩
      have hW := hW.symm
      subst hW
      go_wp2
      go_ret
      exact ⟨by simp, HB8.out⟩
end Go.Proofs.Ytjbmolclagmecaa.frameSums
