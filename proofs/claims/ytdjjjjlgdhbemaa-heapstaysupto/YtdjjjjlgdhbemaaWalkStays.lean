/-
  The walk of HeapStays.
-/
import Derived.Test.YtdjjjjlgdhbemaaStaysKit
import Derived.Test.YtdjjjjlgdhbemaaPairs
import Derived.Test.YtdjjjjlgdhbemaaAmong
namespace Go.Proofs.Ytdjjjjlgdhbemaa.heapStays
open Go.RowKit

theorem pairs_cell {w : World} {b : Option Addr} {c : Nat} {l : List PairI} (h : IsPairs w b c l) {k : Nat} {x : PairI} (hx : l[k]? = some x) : ∃ b' o, b = some ⟨b', o, none⟩ ∧ b' < w.heap.size ∧ w.cell? ⟨b', o + k * 2, none⟩ = some (.int .i64 x.1) ∧ w.cell? ⟨b', o + k * 2 + 1, none⟩ = some (.int .i64 x.2) := by
  rcases h.2.2.2 with rfl | ⟨b', o, h1, h2, h3⟩
  · simp at hx
  · exact ⟨b', o, h1, h2, h3 k x hx 0 _ rfl, h3 k x hx 1 _ rfl⟩
theorem acts_cell {w : World} {b : Option Addr} {c : Nat} {l : List ActI} (h : IsActs w b c l) {k : Nat} {x : ActI} (hx : l[k]? = some x) : actFits x ∧ ∃ b' o, b = some ⟨b', o, none⟩ ∧ b' < w.heap.size ∧ w.cell? ⟨b', o + k * 5, none⟩ = some (.int .i64 x.1) ∧ w.cell? ⟨b', o + k * 5 + 1, none⟩ = some (.int .i64 x.2.1) ∧ w.cell? ⟨b', o + k * 5 + 2, none⟩ = some (.int .i64 x.2.2.1) ∧ w.cell? ⟨b', o + k * 5 + 3, none⟩ = some (.int .i64 x.2.2.2.1) ∧ w.cell? ⟨b', o + k * 5 + 4, none⟩ = some (.int .i64 x.2.2.2.2) := by
  refine ⟨h.2.2.1 x (List.mem_of_getElem? hx), ?_⟩
  rcases h.2.2.2 with rfl | ⟨b', o, h1, h2, h3⟩
  · simp at hx
  · exact ⟨b', o, h1, h2, h3 k x hx 0 _ rfl, h3 k x hx 1 _ rfl, h3 k x hx 2 _ rfl, h3 k x hx 3 _ rfl, h3 k x hx 4 _ rfl⟩

set_option maxHeartbeats 8000000 in
set_option maxRecDepth 1000000 in
theorem walk (b : Option Addr) (capb : Nat) (xs : List PairI) (b2 : Option Addr) (cap2 : Nat) (ts : List ActI) (w : World) (hx : IsPairs w b capb xs ∧ (b = none → capb = 0)) (ht : IsActs w b2 cap2 ts ∧ (b2 = none → cap2 = 0)) (hm : xs.length ≤ 1048576) (hm2 : ts.length ≤ 1048576) :
    Calls Try.prog 4 #[.slice b xs.length capb, .slice b2 ts.length cap2] w fun e w' => e = .returned (.bool true) ∧ Below w.heap.size w w' := by
  have HX : Hid (IsPairs w b capb xs) := hx.1
  have HT : Hid (IsActs w b2 cap2 ts) := ht.1
  clear hx ht
  go_enter Try.func4, Try.ntmps4
  go_wp2_with fail
  refine (shown_any _).mono ?_
  rintro e w1 ⟨rfl, B1⟩
  have HB1 : Hid (Below w.heap.size w w1) := B1
  clear B1
  go_wp2_with fail
  refine (made0_any _).mono ?_
  rintro e w2 ⟨hb, mb, rfl, h2, B2, g1, g2⟩
  have HW2 : Hid (Way w w2 hb mb (.slice none 0 0) 0 []) := ⟨h2, fun k hk => by
    have := HB1.out.size
    rcases hk with rfl | hk | rfl
    · omega
    · cases hk
    · omega, HB1.out.trans (B2.mono HB1.out.size), (fun r hr => by cases hr)⟩
  clear h2 B2 g1 g2 HB1
  go_wp2_with fail
  go_loopg [23] xs.length (fun gk s23 wr => ∃ (k : Nat) (v : Value) (R : List RowI), s23 = .int .i64 (k : Int) ∧ k ≤ xs.length ∧ xs.length - k ≤ gk ∧ Hid (Way w wr hb mb v (k : Int) R) ∧ Hid (R.length = k))
  case atStart => exact ⟨0, _, [], rfl, Nat.zero_le _, Nat.le_refl _, HW2, rfl⟩
  case round =>
    clear HW2
    obtain ⟨k, v, R, rfl, hk, hgk, HW, HL⟩ := hrel
    by_cases hkn : k < xs.length
    · have t1 : (k : Int) < (xs.length : Int) := by omega
      obtain ⟨x, hx⟩ : ∃ x, xs[k]? = some x := ⟨_, List.getElem?_eq_getElem hkn⟩
      obtain ⟨b', o, rfl, hb', c0, c1⟩ := pairs_cell HX.out hx
      obtain ⟨x1, x2⟩ := x
      have d0 : wr.cell? ⟨b', o + k * 2, none⟩ = some (.int .i64 x1) := (HW.out.bel.cell (p := ⟨b', o + k * 2, none⟩) hb').trans c0
      have d1 : wr.cell? ⟨b', o + k * 2 + 1, none⟩ = some (.int .i64 x2) := (HW.out.bel.cell (p := ⟨b', o + k * 2 + 1, none⟩) hb').trans c1
      obtain ⟨W8, hW8⟩ : ∃ W8, W8 = wr.alloc (.cells #[.int .i64 x1, .int .i64 x2] 27) := ⟨_, rfl⟩
      have HW8 : Hid (W8 = wr.alloc (.cells #[.int .i64 x1, .int .i64 x2] 27)) := hW8
      have HM8 : Hid (Way w W8 hb mb v (k : Int) R) := HW.out.below (by rw [hW8]; exact (Below.refl _ wr).alloc (Nat.le_refl _) _)
      clear hW8 c0 c1 hx
      go_wp2_with fail
      rw [← HW8.out]
      refine (pushW HM8.out (x1, x2) (by rw [HL.out]; omega) (by omega)).mono ?_
      rintro e w3 ⟨rfl, v', R', h3, l3⟩
      have H3 : Hid (Way w w3 hb mb v' ((k : Int) + 1) R' ∧ R'.length = k + 1) := ⟨h3, by rw [l3, HL.out]⟩
      clear h3 l3
      go_wp2_with fail
      go_roundg (xs.length - (k + 1))
      case measure => omega
      case rel => exact ⟨k + 1, v', R', by go_num, by omega, Nat.le_refl _, (show Way _ _ _ _ _ _ _ by simpa using H3.out.1), H3.out.2⟩
    · have t1 : ¬ (k : Int) < (xs.length : Int) := by omega
      obtain rfl : k = xs.length := by omega
      go_wp2_with fail
      go_loopg [33] ts.length (fun gk s33 wr => ∃ (m : Nat) (v : Value) (R : List RowI), s33 = .int .i64 (m : Int) ∧ m ≤ ts.length ∧ ts.length - m ≤ gk ∧ Hid (Way w wr hb mb v (xs.length : Int) R) ∧ Hid (R.length ≤ xs.length))
      case atStart => exact ⟨0, v, R, rfl, Nat.zero_le _, Nat.le_refl _, HW, (show R.length ≤ xs.length by rw [HL.out]; exact Nat.le_refl _)⟩
      case round =>
        clear HW HL R v
        obtain ⟨m, v, R, rfl, hmt, hgm, HW, HL⟩ := hrel
        by_cases hmn : m < ts.length
        · have t2 : (m : Int) < (ts.length : Int) := by omega
          obtain ⟨x, hx⟩ : ∃ x, ts[m]? = some x := ⟨_, List.getElem?_eq_getElem hmn⟩
          obtain ⟨hfit, b', o, rfl, hb', c0, c1, c2, c3, c4⟩ := acts_cell HT.out hx
          obtain ⟨xk, xo, xt, x1, x2⟩ := x
          have hbel := HW.out.bel
          have d0 : wr.cell? ⟨b', o + m * 5, none⟩ = some (.int .i64 xk) := (hbel.cell (p := ⟨b', o + m * 5, none⟩) hb').trans c0
          have d1 : wr.cell? ⟨b', o + m * 5 + 1, none⟩ = some (.int .i64 xo) := (hbel.cell (p := ⟨b', o + m * 5 + 1, none⟩) hb').trans c1
          have d2 : wr.cell? ⟨b', o + m * 5 + 2, none⟩ = some (.int .i64 xt) := (hbel.cell (p := ⟨b', o + m * 5 + 2, none⟩) hb').trans c2
          have d3 : wr.cell? ⟨b', o + m * 5 + 3, none⟩ = some (.int .i64 x1) := (hbel.cell (p := ⟨b', o + m * 5 + 3, none⟩) hb').trans c3
          have d4 : wr.cell? ⟨b', o + m * 5 + 4, none⟩ = some (.int .i64 x2) := (hbel.cell (p := ⟨b', o + m * 5 + 4, none⟩) hb').trans c4
          obtain ⟨W8, hW8⟩ : ∃ W8, W8 = wr.alloc (.cells #[.int .i64 xk, .int .i64 xo, .int .i64 xt, .int .i64 x1, .int .i64 x2] 40) := ⟨_, rfl⟩
          obtain ⟨bt, hbt⟩ : ∃ bt, bt = wr.heap.size := ⟨_, rfl⟩
          have HW8 : Hid (W8 = wr.alloc (.cells #[.int .i64 xk, .int .i64 xo, .int .i64 xt, .int .i64 x1, .int .i64 x2] 40)) := hW8
          have HBT : Hid (bt = wr.heap.size) := hbt
          have HT8 : Hid (W8.heap[bt]? = some (.cells #[.int .i64 xk, .int .i64 xo, .int .i64 xt, .int .i64 x1, .int .i64 x2] 40 (0, 0))) := by rw [hW8, hbt]; exact heap_alloc_new wr _
          have HM8 : Hid (Way w W8 hb mb v (xs.length : Int) R) := HW.out.below (by rw [hW8]; exact (Below.refl _ wr).alloc (Nat.le_refl _) _)
          clear hW8 hbt c0 c1 c2 c3 c4 hx hbel hfit
          go_wp2_with fail
          rw [← HW8.out, ← HBT.out]
          refine (among_any xt ((xs.length : Int) + 2) W8 (by omega)).mono ?_
          rintro e w' ⟨rfl, hW⟩
          have hW := hW.symm
          subst hW
          have hnr := among_range (i := xt) (n := (xs.length : Int) + 2) (by omega)
          obtain ⟨n, hn⟩ : ∃ n, n = amongI xt ((xs.length : Int) + 2) := ⟨_, rfl⟩
          rw [← hn] at hnr
          rw [← hn]
          have hwf : (Lit.int .i64 n).wf = true := WalkArith.wf_i64 (by omega)
          clear hn HW8
          go_wp2_with fail
          refine (orderT _ hb mb v _ R HM8.out.h (by have := HL.out; omega)).mono ?_
          rintro e W9 ⟨v1, S1, rfl, hS1, hN1, B9⟩
          have HM9 : Hid (Way w W9 hb mb v (xs.length : Int) R) := HM8.out.below B9
          have HT9 : Hid (W9.heap[bt]? = some (.cells #[.int .i64 xk, .int .i64 xo, .int .i64 xt, .int .i64 x1, .int .i64 x2] 40 (0, 0))) := (B9.block bt (Array.getElem?_eq_some_iff.1 HT8.out).1).trans HT8.out
          have HN9 : Hid (Ranked R S1 ∧ Nums W9 W8.heap.size v1 (S1.map (·.1))) := ⟨hS1, hN1⟩
          clear hS1 hN1 B9 HM8 HT8
          have HG := getT W9 hb mb v _ _ _ R n HM9.out.h hwf
          unfold getOfT at HG
          cases hf : R.find? (fun r => r.1 = n) with
          | none =>
            rw [hf] at HG
            have HFN : Hid (R.find? (fun r => r.1 = n) = none) := hf
            have HGH : Hid (Calls Try.prog 16 #[.pointer (some ⟨hb, 0, none⟩), .int .i64 n] W9 _) := HG
            clear HG hf
            go_wp2_with fail
            refine HGH.out.mono ?_
            rintro e WA ⟨rfl, BA⟩
            obtain ⟨W1', hW1'⟩ : ∃ W1', W1' = WA.alloc (.cells #[.int .i64 0, .int .i64 0] 27) := ⟨_, rfl⟩
            have BB : Below W9.heap.size W9 W1' := BA.trans (by rw [hW1']; exact ((Below.refl _ WA).alloc (Nat.le_refl _) _).mono BA.size)
            have HMA : Hid (Way w W1' hb mb v (xs.length : Int) R) := HM9.out.below BB
            have hTA : WA.heap[bt]? = some (.cells #[.int .i64 xk, .int .i64 xo, .int .i64 xt, .int .i64 x1, .int .i64 x2] 40 (0, 0)) := (BA.block bt (Array.getElem?_eq_some_iff.1 HT9.out).1).trans HT9.out
            have HTA : Hid (W1'.heap[bt]? = some (.cells #[.int .i64 xk, .int .i64 xo, .int .i64 xt, .int .i64 x1, .int .i64 x2] 40 (0, 0))) := (BB.block bt (Array.getElem?_eq_some_iff.1 HT9.out).1).trans HT9.out
            have HNA : Hid (Ranked R S1 ∧ Nums W1' W8.heap.size v1 (S1.map (·.1))) := ⟨HN9.out.1, HN9.out.2.below BB⟩
            have y0 : WA.cell? ⟨bt, 0, none⟩ = some (.int .i64 xk) := by simp [World.cell?, hTA]
            have y3 : WA.cell? ⟨bt, 3, none⟩ = some (.int .i64 x1) := by simp [World.cell?, hTA]
            have y4 : WA.cell? ⟨bt, 4, none⟩ = some (.int .i64 x2) := by simp [World.cell?, hTA]
            have hblA : bt < WA.heap.size := (Array.getElem?_eq_some_iff.1 hTA).1
            have HW1' : Hid (W1' = WA.alloc (.cells #[.int .i64 0, .int .i64 0] 27)) := hW1'
            clear hW1' BB BA hTA HGH
            by_cases hq : xk.tmod 2 = 0
            · have hqb : (xk.tmod 2 == 0) = true := by simpa using hq
              go_wp2_with fail
              rw [← HW1'.out]
              refine (removeT_no W1' hb mb v _ R n HMA.out.h hwf HFN.out).mono ?_
              rintro e WC ⟨rfl, BC⟩
              obtain ⟨W2, hW2⟩ : ∃ W2, W2 = WC.alloc (.cells #[.int .i64 0, .int .i64 0] 27) := ⟨_, rfl⟩
              have BD : Below W1'.heap.size W1' W2 := BC.trans (by rw [hW2]; exact ((Below.refl _ WC).alloc (Nat.le_refl _) _).mono BC.size)
              obtain ⟨v2, hv2⟩ : ∃ v2, v2 = v := ⟨_, rfl⟩
              obtain ⟨R2, hR2⟩ : ∃ R2, R2 = R := ⟨_, rfl⟩
              have HM2 : Hid (Way w W2 hb mb v2 (xs.length : Int) R2) := hv2 ▸ hR2 ▸ HMA.out.below BD
              have HT2 : Hid (W2.heap[bt]? = some (.cells #[.int .i64 xk, .int .i64 xo, .int .i64 xt, .int .i64 x1, .int .i64 x2] 40 (0, 0))) := (BD.block bt (Array.getElem?_eq_some_iff.1 HTA.out).1).trans HTA.out
              have HN2 : Hid (Ranked R S1 ∧ Nums W2 W8.heap.size v1 (S1.map (·.1))) := ⟨HNA.out.1, HNA.out.2.below BD⟩
              have HLF : Hid (Left R R2 n (xs.length : Int)) := ⟨fun r _ => by rw [hR2], by rw [hR2]; exact Nat.le_refl _⟩
              have HGF : Hid (R2.find? (fun r => r.1 = n) = none) := by rw [hR2]; exact HFN
              have HW2' : Hid (W2 = WC.alloc (.cells #[.int .i64 0, .int .i64 0] 27)) := hW2
              clear hW2 BD BC hv2 hR2 y0 y3 y4
              go_wp2_with fail
              rw [← HW2'.out]
              refine (orderT _ hb mb v2 _ R2 HM2.out.h (by have := HL.out; have := HLF.out.len; omega)).mono ?_
              rintro e W3 ⟨v3, S3, rfl, hS3, hN3, B3⟩
              have HM3 : Hid (Way w W3 hb mb v2 (xs.length : Int) R2) := HM2.out.below B3
              have HT3 : Hid (W3.heap[bt]? = some (.cells #[.int .i64 xk, .int .i64 xo, .int .i64 xt, .int .i64 x1, .int .i64 x2] 40 (0, 0))) := (B3.block bt (Array.getElem?_eq_some_iff.1 HT2.out).1).trans HT2.out
              have HN3 : Hid (Nums W3 W8.heap.size v1 (S1.map (·.1)) ∧ Nums W3 W2.heap.size v3 (S3.map (·.1)) ∧ (S3.map (·.1)).filter (fun t => t != n) = (S1.map (·.1)).filter (fun t => t != n) ∧ S1.length ≤ 1048576 ∧ S3.length ≤ 1048576) := ⟨HN2.out.2.below B3, hN3, ranked_stays HM9.out.h.once HM2.out.h.once HLF.out.others HN2.out.1 hS3, by rw [HN2.out.1.perm.length_eq]; have := HL.out; omega, by rw [hS3.perm.length_eq]; have := HL.out; have := HLF.out.len; omega⟩
              clear hS3 hN3 B3
              go_wp2_with fail
              refine (without_any _ v3 _ n W3 HN3.out.2.1 (by rw [List.length_map]; have := HN3.out.2.2.2.2; omega)).mono ?_
              rintro e W4 ⟨v4, rfl, hN4, B4⟩
              have HM4 : Hid (Way w W4 hb mb v2 (xs.length : Int) R2) := HM3.out.below B4
              have HT4 : Hid (W4.heap[bt]? = some (.cells #[.int .i64 xk, .int .i64 xo, .int .i64 xt, .int .i64 x1, .int .i64 x2] 40 (0, 0))) := (B4.block bt (Array.getElem?_eq_some_iff.1 HT3.out).1).trans HT3.out
              have HN4 : Hid (Nums W4 W8.heap.size v1 (S1.map (·.1)) ∧ Nums W4 W3.heap.size v4 ((S1.map (·.1)).filter (fun t => t != n))) := ⟨HN3.out.1.below B4, HN3.out.2.2.1 ▸ hN4⟩
              clear hN4 B4
              go_wp2_with fail
              refine (without_any _ v1 _ n W4 HN4.out.1 (by rw [List.length_map]; have := HN3.out.2.2.2.1; omega)).mono ?_
              rintro e W5 ⟨v5, rfl, hN5, B5⟩
              have HM5 : Hid (Way w W5 hb mb v2 (xs.length : Int) R2) := HM4.out.below B5
              have HT5 : Hid (W5.heap[bt]? = some (.cells #[.int .i64 xk, .int .i64 xo, .int .i64 xt, .int .i64 x1, .int .i64 x2] 40 (0, 0))) := (B5.block bt (Array.getElem?_eq_some_iff.1 HT4.out).1).trans HT4.out
              have HN5 : Hid (Nums W5 W3.heap.size v4 ((S1.map (·.1)).filter (fun t => t != n)) ∧ Nums W5 W4.heap.size v5 ((S1.map (·.1)).filter (fun t => t != n))) := ⟨HN4.out.2.below B5, hN5⟩
              clear hN5 B5
              go_wp2_with fail
              refine (same_any _ _ v4 v5 _ W5 HN5.out.1 HN5.out.2 (Nat.le_trans (List.length_filter_le _ _) (by rw [List.length_map]; have := HN3.out.2.2.2.1; omega))).mono ?_
              rintro e W6 ⟨rfl, B6⟩
              have HM6 : Hid (Way w W6 hb mb v2 (xs.length : Int) R2) := HM5.out.below B6
              have HT6 : Hid (W6.heap[bt]? = some (.cells #[.int .i64 xk, .int .i64 xo, .int .i64 xt, .int .i64 x1, .int .i64 x2] 40 (0, 0))) := (B6.block bt (Array.getElem?_eq_some_iff.1 HT5.out).1).trans HT5.out
              clear B6
              go_wp2_with fail
              have HG6 := getT W6 hb mb v2 _ _ _ R2 n HM6.out.h hwf
              unfold getOfT at HG6
              rw [HGF.out] at HG6
              simp only [] at HG6
              refine HG6.mono ?_
              rintro e W7 ⟨rfl, B7⟩
              obtain ⟨W7a, hW7a⟩ : ∃ W7a, W7a = W7.alloc (.cells #[.int .i64 0, .int .i64 0] 27) := ⟨_, rfl⟩
              have HM7 : Hid (Way w W7a hb mb v2 (xs.length : Int) R2) := (HM6.out.below B7).below (by rw [hW7a]; exact (Below.refl _ W7).alloc (Nat.le_refl _) _)
              have hT7 : W7.heap[bt]? = some (.cells #[.int .i64 xk, .int .i64 xo, .int .i64 xt, .int .i64 x1, .int .i64 x2] 40 (0, 0)) := (B7.block bt (Array.getElem?_eq_some_iff.1 HT6.out).1).trans HT6.out
              have z0 : W7.cell? ⟨bt, 0, none⟩ = some (.int .i64 xk) := by simp [World.cell?, hT7]
              have z3 : W7.cell? ⟨bt, 3, none⟩ = some (.int .i64 x1) := by simp [World.cell?, hT7]
              have z4 : W7.cell? ⟨bt, 4, none⟩ = some (.int .i64 x2) := by simp [World.cell?, hT7]
              have hbl7 : bt < W7.heap.size := (Array.getElem?_eq_some_iff.1 hT7).1
              have hne := fun w a b => neq_thing w a b
              have hgd : Try.prog.eqGuardType Try.prog.depth 27 = false := by kernel_rfl
              have HWA : Hid (W7a = W7.alloc (.cells #[.int .i64 0, .int .i64 0] 27)) := hW7a
              clear hW7a hT7 B7 HG6
              go_wp2_with fail
              rw [← HWA.out]
              go_roundg (ts.length - (m + 1))
              case measure => omega
              case rel => exact ⟨m + 1, v2, R2, by go_num, by omega, Nat.le_refl _, HM7, (show R2.length ≤ xs.length by have := HL.out; have := HLF.out.len; omega)⟩
            · have hqb : (xk.tmod 2 == 0) = false := by simpa using hq
              have HCN : Hid (Calls Try.prog 18 #[.pointer (some ⟨hb, 0, none⟩), .int .i64 n, .agg #[.int .i64 x1, .int .i64 x2]] W1' _) := changeT_no W1' hb mb v _ R n (x1, x2) HMA.out.h hwf HFN.out
              go_wp2_with fail
              rw [← HW1'.out]
              refine HCN.out.mono ?_
              rintro e W2 ⟨rfl, BD⟩
              obtain ⟨v2, hv2⟩ : ∃ v2, v2 = v := ⟨_, rfl⟩
              obtain ⟨R2, hR2⟩ : ∃ R2, R2 = R := ⟨_, rfl⟩
              have HM2 : Hid (Way w W2 hb mb v2 (xs.length : Int) R2) := hv2 ▸ hR2 ▸ HMA.out.below BD
              have HT2 : Hid (W2.heap[bt]? = some (.cells #[.int .i64 xk, .int .i64 xo, .int .i64 xt, .int .i64 x1, .int .i64 x2] 40 (0, 0))) := (BD.block bt (Array.getElem?_eq_some_iff.1 HTA.out).1).trans HTA.out
              have HN2 : Hid (Ranked R S1 ∧ Nums W2 W8.heap.size v1 (S1.map (·.1))) := ⟨HNA.out.1, HNA.out.2.below BD⟩
              have HLF : Hid (Left R R2 n (xs.length : Int)) := ⟨fun r _ => by rw [hR2], by rw [hR2]; exact Nat.le_refl _⟩
              have HGF : Hid (R2.find? (fun r => r.1 = n) = none) := by rw [hR2]; exact HFN
              clear BD hv2 hR2 y0 y3 y4 HCN
              go_wp2_with fail
              refine (orderT _ hb mb v2 _ R2 HM2.out.h (by have := HL.out; have := HLF.out.len; omega)).mono ?_
              rintro e W3 ⟨v3, S3, rfl, hS3, hN3, B3⟩
              have HM3 : Hid (Way w W3 hb mb v2 (xs.length : Int) R2) := HM2.out.below B3
              have HT3 : Hid (W3.heap[bt]? = some (.cells #[.int .i64 xk, .int .i64 xo, .int .i64 xt, .int .i64 x1, .int .i64 x2] 40 (0, 0))) := (B3.block bt (Array.getElem?_eq_some_iff.1 HT2.out).1).trans HT2.out
              have HN3 : Hid (Nums W3 W8.heap.size v1 (S1.map (·.1)) ∧ Nums W3 W2.heap.size v3 (S3.map (·.1)) ∧ (S3.map (·.1)).filter (fun t => t != n) = (S1.map (·.1)).filter (fun t => t != n) ∧ S1.length ≤ 1048576 ∧ S3.length ≤ 1048576) := ⟨HN2.out.2.below B3, hN3, ranked_stays HM9.out.h.once HM2.out.h.once HLF.out.others HN2.out.1 hS3, by rw [HN2.out.1.perm.length_eq]; have := HL.out; omega, by rw [hS3.perm.length_eq]; have := HL.out; have := HLF.out.len; omega⟩
              clear hS3 hN3 B3
              go_wp2_with fail
              refine (without_any _ v3 _ n W3 HN3.out.2.1 (by rw [List.length_map]; have := HN3.out.2.2.2.2; omega)).mono ?_
              rintro e W4 ⟨v4, rfl, hN4, B4⟩
              have HM4 : Hid (Way w W4 hb mb v2 (xs.length : Int) R2) := HM3.out.below B4
              have HT4 : Hid (W4.heap[bt]? = some (.cells #[.int .i64 xk, .int .i64 xo, .int .i64 xt, .int .i64 x1, .int .i64 x2] 40 (0, 0))) := (B4.block bt (Array.getElem?_eq_some_iff.1 HT3.out).1).trans HT3.out
              have HN4 : Hid (Nums W4 W8.heap.size v1 (S1.map (·.1)) ∧ Nums W4 W3.heap.size v4 ((S1.map (·.1)).filter (fun t => t != n))) := ⟨HN3.out.1.below B4, HN3.out.2.2.1 ▸ hN4⟩
              clear hN4 B4
              go_wp2_with fail
              refine (without_any _ v1 _ n W4 HN4.out.1 (by rw [List.length_map]; have := HN3.out.2.2.2.1; omega)).mono ?_
              rintro e W5 ⟨v5, rfl, hN5, B5⟩
              have HM5 : Hid (Way w W5 hb mb v2 (xs.length : Int) R2) := HM4.out.below B5
              have HT5 : Hid (W5.heap[bt]? = some (.cells #[.int .i64 xk, .int .i64 xo, .int .i64 xt, .int .i64 x1, .int .i64 x2] 40 (0, 0))) := (B5.block bt (Array.getElem?_eq_some_iff.1 HT4.out).1).trans HT4.out
              have HN5 : Hid (Nums W5 W3.heap.size v4 ((S1.map (·.1)).filter (fun t => t != n)) ∧ Nums W5 W4.heap.size v5 ((S1.map (·.1)).filter (fun t => t != n))) := ⟨HN4.out.2.below B5, hN5⟩
              clear hN5 B5
              go_wp2_with fail
              refine (same_any _ _ v4 v5 _ W5 HN5.out.1 HN5.out.2 (Nat.le_trans (List.length_filter_le _ _) (by rw [List.length_map]; have := HN3.out.2.2.2.1; omega))).mono ?_
              rintro e W6 ⟨rfl, B6⟩
              have HM6 : Hid (Way w W6 hb mb v2 (xs.length : Int) R2) := HM5.out.below B6
              have HT6 : Hid (W6.heap[bt]? = some (.cells #[.int .i64 xk, .int .i64 xo, .int .i64 xt, .int .i64 x1, .int .i64 x2] 40 (0, 0))) := (B6.block bt (Array.getElem?_eq_some_iff.1 HT5.out).1).trans HT5.out
              clear B6
              go_wp2_with fail
              have HG6 := getT W6 hb mb v2 _ _ _ R2 n HM6.out.h hwf
              unfold getOfT at HG6
              rw [HGF.out] at HG6
              simp only [] at HG6
              refine HG6.mono ?_
              rintro e W7 ⟨rfl, B7⟩
              obtain ⟨W7a, hW7a⟩ : ∃ W7a, W7a = W7.alloc (.cells #[.int .i64 0, .int .i64 0] 27) := ⟨_, rfl⟩
              have HM7 : Hid (Way w W7a hb mb v2 (xs.length : Int) R2) := (HM6.out.below B7).below (by rw [hW7a]; exact (Below.refl _ W7).alloc (Nat.le_refl _) _)
              have hT7 : W7.heap[bt]? = some (.cells #[.int .i64 xk, .int .i64 xo, .int .i64 xt, .int .i64 x1, .int .i64 x2] 40 (0, 0)) := (B7.block bt (Array.getElem?_eq_some_iff.1 HT6.out).1).trans HT6.out
              have z0 : W7.cell? ⟨bt, 0, none⟩ = some (.int .i64 xk) := by simp [World.cell?, hT7]
              have z3 : W7.cell? ⟨bt, 3, none⟩ = some (.int .i64 x1) := by simp [World.cell?, hT7]
              have z4 : W7.cell? ⟨bt, 4, none⟩ = some (.int .i64 x2) := by simp [World.cell?, hT7]
              have hbl7 : bt < W7.heap.size := (Array.getElem?_eq_some_iff.1 hT7).1
              have hne := fun w a b => neq_thing w a b
              have hgd : Try.prog.eqGuardType Try.prog.depth 27 = false := by kernel_rfl
              have HWA : Hid (W7a = W7.alloc (.cells #[.int .i64 0, .int .i64 0] 27)) := hW7a
              clear hW7a hT7 B7 HG6
              go_wp2_with fail
              rw [← HWA.out]
              go_roundg (ts.length - (m + 1))
              case measure => omega
              case rel => exact ⟨m + 1, v2, R2, by go_num, by omega, Nat.le_refl _, HM7, (show R2.length ≤ xs.length by have := HL.out; have := HLF.out.len; omega)⟩
          | some r =>
            rw [hf] at HG
            obtain ⟨rn, ra, rc⟩ := r
            obtain rfl : rn = n := by have := List.find?_some hf; simpa using this
            obtain ⟨i, hi⟩ := List.mem_iff_getElem?.1 (List.mem_of_find?_eq_some hf)
            have HI : Hid (R[i]? = some (rn, ra, rc)) := hi
            unfold valT at HG
            simp only [] at HG
            clear hi
            have HGH : Hid (Calls Try.prog 16 #[.pointer (some ⟨hb, 0, none⟩), .int .i64 rn] W9 _) := HG
            clear HG hf
            go_wp2_with fail
            refine HGH.out.mono ?_
            rintro e WA ⟨rfl, BA⟩
            obtain ⟨W1', hW1'⟩ : ∃ W1', W1' = WA.alloc (.cells #[.int .i64 ra, .int .i64 rc] 27) := ⟨_, rfl⟩
            have BB : Below W9.heap.size W9 W1' := BA.trans (by rw [hW1']; exact ((Below.refl _ WA).alloc (Nat.le_refl _) _).mono BA.size)
            have HMA : Hid (Way w W1' hb mb v (xs.length : Int) R) := HM9.out.below BB
            have hTA : WA.heap[bt]? = some (.cells #[.int .i64 xk, .int .i64 xo, .int .i64 xt, .int .i64 x1, .int .i64 x2] 40 (0, 0)) := (BA.block bt (Array.getElem?_eq_some_iff.1 HT9.out).1).trans HT9.out
            have HTA : Hid (W1'.heap[bt]? = some (.cells #[.int .i64 xk, .int .i64 xo, .int .i64 xt, .int .i64 x1, .int .i64 x2] 40 (0, 0))) := (BB.block bt (Array.getElem?_eq_some_iff.1 HT9.out).1).trans HT9.out
            have HNA : Hid (Ranked R S1 ∧ Nums W1' W8.heap.size v1 (S1.map (·.1))) := ⟨HN9.out.1, HN9.out.2.below BB⟩
            have y0 : WA.cell? ⟨bt, 0, none⟩ = some (.int .i64 xk) := by simp [World.cell?, hTA]
            have y3 : WA.cell? ⟨bt, 3, none⟩ = some (.int .i64 x1) := by simp [World.cell?, hTA]
            have y4 : WA.cell? ⟨bt, 4, none⟩ = some (.int .i64 x2) := by simp [World.cell?, hTA]
            have hblA : bt < WA.heap.size := (Array.getElem?_eq_some_iff.1 hTA).1
            have HW1' : Hid (W1' = WA.alloc (.cells #[.int .i64 ra, .int .i64 rc] 27)) := hW1'
            clear hW1' BB BA hTA HGH
            by_cases hq : xk.tmod 2 = 0
            · have hqb : (xk.tmod 2 == 0) = true := by simpa using hq
              have HRM := removeW HMA.out i (rn, ra, rc) HI.out (by have := HL.out; omega)
              unfold valT at HRM
              simp only [] at HRM
              have HRH : Hid (Calls Try.prog 17 #[.pointer (some ⟨hb, 0, none⟩), .int .i64 rn] W1' _) := HRM
              clear HRM
              go_wp2_with fail
              rw [← HW1'.out]
              refine HRH.out.mono ?_
              rintro e WC ⟨rfl, v2, R2, hwc, hlf, hgf, kc⟩
              obtain ⟨W2, hW2⟩ : ∃ W2, W2 = WC.alloc (.cells #[.int .i64 ra, .int .i64 rc] 27) := ⟨_, rfl⟩
              have BD : Below WC.heap.size WC W2 := by rw [hW2]; exact (Below.refl _ WC).alloc (Nat.le_refl _) _
              have hTC : WC.heap[bt]? = some (.cells #[.int .i64 xk, .int .i64 xo, .int .i64 xt, .int .i64 x1, .int .i64 x2] 40 (0, 0)) := (kc.block bt (Array.getElem?_eq_some_iff.1 HTA.out).1 (fun h => HMA.out.notCells HTA.out (by decide) (by decide) (h.resolve_right id))).trans HTA.out
              have HM2 : Hid (Way w W2 hb mb v2 (xs.length : Int) R2) := hwc.below BD
              have HT2 : Hid (W2.heap[bt]? = some (.cells #[.int .i64 xk, .int .i64 xo, .int .i64 xt, .int .i64 x1, .int .i64 x2] 40 (0, 0))) := (BD.block bt (Array.getElem?_eq_some_iff.1 hTC).1).trans hTC
              have HN2 : Hid (Ranked R S1 ∧ Nums W2 W8.heap.size v1 (S1.map (·.1))) := ⟨HNA.out.1, (HMA.out.nums HNA.out.2 kc).below BD⟩
              have HLF : Hid (Left R R2 rn (xs.length : Int)) := hlf
              have HGF : Hid (R2.find? (fun r => r.1 = rn) = none) := hgf
              have HW2' : Hid (W2 = WC.alloc (.cells #[.int .i64 ra, .int .i64 rc] 27)) := hW2
              clear hW2 BD hTC hwc hlf hgf kc y0 y3 y4 HRH
              go_wp2_with fail
              rw [← HW2'.out]
              refine (orderT _ hb mb v2 _ R2 HM2.out.h (by have := HL.out; have := HLF.out.len; omega)).mono ?_
              rintro e W3 ⟨v3, S3, rfl, hS3, hN3, B3⟩
              have HM3 : Hid (Way w W3 hb mb v2 (xs.length : Int) R2) := HM2.out.below B3
              have HT3 : Hid (W3.heap[bt]? = some (.cells #[.int .i64 xk, .int .i64 xo, .int .i64 xt, .int .i64 x1, .int .i64 x2] 40 (0, 0))) := (B3.block bt (Array.getElem?_eq_some_iff.1 HT2.out).1).trans HT2.out
              have HN3 : Hid (Nums W3 W8.heap.size v1 (S1.map (·.1)) ∧ Nums W3 W2.heap.size v3 (S3.map (·.1)) ∧ (S3.map (·.1)).filter (fun t => t != rn) = (S1.map (·.1)).filter (fun t => t != rn) ∧ S1.length ≤ 1048576 ∧ S3.length ≤ 1048576) := ⟨HN2.out.2.below B3, hN3, ranked_stays HM9.out.h.once HM2.out.h.once HLF.out.others HN2.out.1 hS3, by rw [HN2.out.1.perm.length_eq]; have := HL.out; omega, by rw [hS3.perm.length_eq]; have := HL.out; have := HLF.out.len; omega⟩
              clear hS3 hN3 B3
              go_wp2_with fail
              refine (without_any _ v3 _ rn W3 HN3.out.2.1 (by rw [List.length_map]; have := HN3.out.2.2.2.2; omega)).mono ?_
              rintro e W4 ⟨v4, rfl, hN4, B4⟩
              have HM4 : Hid (Way w W4 hb mb v2 (xs.length : Int) R2) := HM3.out.below B4
              have HT4 : Hid (W4.heap[bt]? = some (.cells #[.int .i64 xk, .int .i64 xo, .int .i64 xt, .int .i64 x1, .int .i64 x2] 40 (0, 0))) := (B4.block bt (Array.getElem?_eq_some_iff.1 HT3.out).1).trans HT3.out
              have HN4 : Hid (Nums W4 W8.heap.size v1 (S1.map (·.1)) ∧ Nums W4 W3.heap.size v4 ((S1.map (·.1)).filter (fun t => t != rn))) := ⟨HN3.out.1.below B4, HN3.out.2.2.1 ▸ hN4⟩
              clear hN4 B4
              go_wp2_with fail
              refine (without_any _ v1 _ rn W4 HN4.out.1 (by rw [List.length_map]; have := HN3.out.2.2.2.1; omega)).mono ?_
              rintro e W5 ⟨v5, rfl, hN5, B5⟩
              have HM5 : Hid (Way w W5 hb mb v2 (xs.length : Int) R2) := HM4.out.below B5
              have HT5 : Hid (W5.heap[bt]? = some (.cells #[.int .i64 xk, .int .i64 xo, .int .i64 xt, .int .i64 x1, .int .i64 x2] 40 (0, 0))) := (B5.block bt (Array.getElem?_eq_some_iff.1 HT4.out).1).trans HT4.out
              have HN5 : Hid (Nums W5 W3.heap.size v4 ((S1.map (·.1)).filter (fun t => t != rn)) ∧ Nums W5 W4.heap.size v5 ((S1.map (·.1)).filter (fun t => t != rn))) := ⟨HN4.out.2.below B5, hN5⟩
              clear hN5 B5
              go_wp2_with fail
              refine (same_any _ _ v4 v5 _ W5 HN5.out.1 HN5.out.2 (Nat.le_trans (List.length_filter_le _ _) (by rw [List.length_map]; have := HN3.out.2.2.2.1; omega))).mono ?_
              rintro e W6 ⟨rfl, B6⟩
              have HM6 : Hid (Way w W6 hb mb v2 (xs.length : Int) R2) := HM5.out.below B6
              have HT6 : Hid (W6.heap[bt]? = some (.cells #[.int .i64 xk, .int .i64 xo, .int .i64 xt, .int .i64 x1, .int .i64 x2] 40 (0, 0))) := (B6.block bt (Array.getElem?_eq_some_iff.1 HT5.out).1).trans HT5.out
              clear B6
              go_wp2_with fail
              have HG6 := getT W6 hb mb v2 _ _ _ R2 rn HM6.out.h hwf
              unfold getOfT at HG6
              rw [HGF.out] at HG6
              simp only [] at HG6
              refine HG6.mono ?_
              rintro e W7 ⟨rfl, B7⟩
              obtain ⟨W7a, hW7a⟩ : ∃ W7a, W7a = W7.alloc (.cells #[.int .i64 0, .int .i64 0] 27) := ⟨_, rfl⟩
              have HM7 : Hid (Way w W7a hb mb v2 (xs.length : Int) R2) := (HM6.out.below B7).below (by rw [hW7a]; exact (Below.refl _ W7).alloc (Nat.le_refl _) _)
              have hT7 : W7.heap[bt]? = some (.cells #[.int .i64 xk, .int .i64 xo, .int .i64 xt, .int .i64 x1, .int .i64 x2] 40 (0, 0)) := (B7.block bt (Array.getElem?_eq_some_iff.1 HT6.out).1).trans HT6.out
              have z0 : W7.cell? ⟨bt, 0, none⟩ = some (.int .i64 xk) := by simp [World.cell?, hT7]
              have z3 : W7.cell? ⟨bt, 3, none⟩ = some (.int .i64 x1) := by simp [World.cell?, hT7]
              have z4 : W7.cell? ⟨bt, 4, none⟩ = some (.int .i64 x2) := by simp [World.cell?, hT7]
              have hbl7 : bt < W7.heap.size := (Array.getElem?_eq_some_iff.1 hT7).1
              have hne := fun w a b => neq_thing w a b
              have hgd : Try.prog.eqGuardType Try.prog.depth 27 = false := by kernel_rfl
              have HWA : Hid (W7a = W7.alloc (.cells #[.int .i64 0, .int .i64 0] 27)) := hW7a
              clear hW7a hT7 B7 HG6
              go_wp2_with fail
              rw [← HWA.out]
              go_roundg (ts.length - (m + 1))
              case measure => omega
              case rel => exact ⟨m + 1, v2, R2, by go_num, by omega, Nat.le_refl _, HM7, (show R2.length ≤ xs.length by have := HL.out; have := HLF.out.len; omega)⟩
            · have hqb : (xk.tmod 2 == 0) = false := by simpa using hq
              have hqn : (xk.tmod 2 != 0) = true := by simpa using hq
              have HCM := changeW HMA.out i (rn, ra, rc) (x1, x2) HI.out (by have := HL.out; omega)
              unfold valT at HCM
              simp only [] at HCM
              have HCH : Hid (Calls Try.prog 18 #[.pointer (some ⟨hb, 0, none⟩), .int .i64 rn, .agg #[.int .i64 x1, .int .i64 x2]] W1' _) := HCM
              clear HCM
              go_wp2_with fail
              rw [← HW1'.out]
              refine HCH.out.mono ?_
              rintro e W2 ⟨rfl, R2, hwc, hlf, hgf, kc⟩
              obtain ⟨v2, hv2⟩ : ∃ v2, v2 = v := ⟨_, rfl⟩
              have HM2 : Hid (Way w W2 hb mb v2 (xs.length : Int) R2) := hv2 ▸ hwc
              have HT2 : Hid (W2.heap[bt]? = some (.cells #[.int .i64 xk, .int .i64 xo, .int .i64 xt, .int .i64 x1, .int .i64 x2] 40 (0, 0))) := (kc.block bt (Array.getElem?_eq_some_iff.1 HTA.out).1 (fun h => HMA.out.notCells HTA.out (by decide) (by decide) (h.resolve_right id))).trans HTA.out
              have HN2 : Hid (Ranked R S1 ∧ Nums W2 W8.heap.size v1 (S1.map (·.1))) := ⟨HNA.out.1, HMA.out.nums HNA.out.2 kc⟩
              have HLF : Hid (Left R R2 rn (xs.length : Int)) := hlf
              have HGF : Hid (R2.find? (fun r => r.1 = rn) = some (rn, x1, x2)) := hgf
              clear hv2 hwc hlf hgf kc y0 y3 y4 HCH
              go_wp2_with fail
              refine (orderT _ hb mb v2 _ R2 HM2.out.h (by have := HL.out; have := HLF.out.len; omega)).mono ?_
              rintro e W3 ⟨v3, S3, rfl, hS3, hN3, B3⟩
              have HM3 : Hid (Way w W3 hb mb v2 (xs.length : Int) R2) := HM2.out.below B3
              have HT3 : Hid (W3.heap[bt]? = some (.cells #[.int .i64 xk, .int .i64 xo, .int .i64 xt, .int .i64 x1, .int .i64 x2] 40 (0, 0))) := (B3.block bt (Array.getElem?_eq_some_iff.1 HT2.out).1).trans HT2.out
              have HN3 : Hid (Nums W3 W8.heap.size v1 (S1.map (·.1)) ∧ Nums W3 W2.heap.size v3 (S3.map (·.1)) ∧ (S3.map (·.1)).filter (fun t => t != rn) = (S1.map (·.1)).filter (fun t => t != rn) ∧ S1.length ≤ 1048576 ∧ S3.length ≤ 1048576) := ⟨HN2.out.2.below B3, hN3, ranked_stays HM9.out.h.once HM2.out.h.once HLF.out.others HN2.out.1 hS3, by rw [HN2.out.1.perm.length_eq]; have := HL.out; omega, by rw [hS3.perm.length_eq]; have := HL.out; have := HLF.out.len; omega⟩
              clear hS3 hN3 B3
              go_wp2_with fail
              refine (without_any _ v3 _ rn W3 HN3.out.2.1 (by rw [List.length_map]; have := HN3.out.2.2.2.2; omega)).mono ?_
              rintro e W4 ⟨v4, rfl, hN4, B4⟩
              have HM4 : Hid (Way w W4 hb mb v2 (xs.length : Int) R2) := HM3.out.below B4
              have HT4 : Hid (W4.heap[bt]? = some (.cells #[.int .i64 xk, .int .i64 xo, .int .i64 xt, .int .i64 x1, .int .i64 x2] 40 (0, 0))) := (B4.block bt (Array.getElem?_eq_some_iff.1 HT3.out).1).trans HT3.out
              have HN4 : Hid (Nums W4 W8.heap.size v1 (S1.map (·.1)) ∧ Nums W4 W3.heap.size v4 ((S1.map (·.1)).filter (fun t => t != rn))) := ⟨HN3.out.1.below B4, HN3.out.2.2.1 ▸ hN4⟩
              clear hN4 B4
              go_wp2_with fail
              refine (without_any _ v1 _ rn W4 HN4.out.1 (by rw [List.length_map]; have := HN3.out.2.2.2.1; omega)).mono ?_
              rintro e W5 ⟨v5, rfl, hN5, B5⟩
              have HM5 : Hid (Way w W5 hb mb v2 (xs.length : Int) R2) := HM4.out.below B5
              have HT5 : Hid (W5.heap[bt]? = some (.cells #[.int .i64 xk, .int .i64 xo, .int .i64 xt, .int .i64 x1, .int .i64 x2] 40 (0, 0))) := (B5.block bt (Array.getElem?_eq_some_iff.1 HT4.out).1).trans HT4.out
              have HN5 : Hid (Nums W5 W3.heap.size v4 ((S1.map (·.1)).filter (fun t => t != rn)) ∧ Nums W5 W4.heap.size v5 ((S1.map (·.1)).filter (fun t => t != rn))) := ⟨HN4.out.2.below B5, hN5⟩
              clear hN5 B5
              go_wp2_with fail
              refine (same_any _ _ v4 v5 _ W5 HN5.out.1 HN5.out.2 (Nat.le_trans (List.length_filter_le _ _) (by rw [List.length_map]; have := HN3.out.2.2.2.1; omega))).mono ?_
              rintro e W6 ⟨rfl, B6⟩
              have HM6 : Hid (Way w W6 hb mb v2 (xs.length : Int) R2) := HM5.out.below B6
              have HT6 : Hid (W6.heap[bt]? = some (.cells #[.int .i64 xk, .int .i64 xo, .int .i64 xt, .int .i64 x1, .int .i64 x2] 40 (0, 0))) := (B6.block bt (Array.getElem?_eq_some_iff.1 HT5.out).1).trans HT5.out
              clear B6
              go_wp2_with fail
              have HG6 := getT W6 hb mb v2 _ _ _ R2 rn HM6.out.h hwf
              unfold getOfT at HG6
              rw [HGF.out] at HG6
              unfold valT at HG6
              simp only [] at HG6
              refine HG6.mono ?_
              rintro e W7 ⟨rfl, B7⟩
              obtain ⟨W7a, hW7a⟩ : ∃ W7a, W7a = W7.alloc (.cells #[.int .i64 x1, .int .i64 x2] 27) := ⟨_, rfl⟩
              have HM7 : Hid (Way w W7a hb mb v2 (xs.length : Int) R2) := (HM6.out.below B7).below (by rw [hW7a]; exact (Below.refl _ W7).alloc (Nat.le_refl _) _)
              have hT7 : W7.heap[bt]? = some (.cells #[.int .i64 xk, .int .i64 xo, .int .i64 xt, .int .i64 x1, .int .i64 x2] 40 (0, 0)) := (B7.block bt (Array.getElem?_eq_some_iff.1 HT6.out).1).trans HT6.out
              have z0 : W7.cell? ⟨bt, 0, none⟩ = some (.int .i64 xk) := by simp [World.cell?, hT7]
              have z3 : W7.cell? ⟨bt, 3, none⟩ = some (.int .i64 x1) := by simp [World.cell?, hT7]
              have z4 : W7.cell? ⟨bt, 4, none⟩ = some (.int .i64 x2) := by simp [World.cell?, hT7]
              have hbl7 : bt < W7.heap.size := (Array.getElem?_eq_some_iff.1 hT7).1
              have hne := fun w a b => neq_thing w a b
              have hgd : Try.prog.eqGuardType Try.prog.depth 27 = false := by kernel_rfl
              have HWA : Hid (W7a = W7.alloc (.cells #[.int .i64 x1, .int .i64 x2] 27)) := hW7a
              clear hW7a hT7 B7 HG6
              go_wp2_with fail
              rw [← HWA.out]
              go_roundg (ts.length - (m + 1))
              case measure => omega
              case rel => exact ⟨m + 1, v2, R2, by go_num, by omega, Nat.le_refl _, HM7, (show R2.length ≤ xs.length by have := HL.out; have := HLF.out.len; omega)⟩
        · have t2 : ¬ (m : Int) < (ts.length : Int) := by omega
          go_wp2_with fail
          go_ret
          exact ⟨rfl, HW.out.bel⟩
end Go.Proofs.Ytdjjjjlgdhbemaa.heapStays
