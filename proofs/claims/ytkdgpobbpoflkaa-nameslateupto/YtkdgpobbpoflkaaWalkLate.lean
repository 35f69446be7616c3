/-
  The walk of NamesLate.
-/
import Derived.Test.YtkdgpobbpoflkaaLateKit
import Derived.Test.YtkdgpobbpoflkaaShown
import Derived.Test.YtkdgpobbpoflkaaAll
import Derived.Test.YtkdgpobbpoflkaaRound
import Derived.Test.YtkdgpobbpoflkaaOps
import Derived.Deep.RegionHeld3
namespace Go.Proofs.Ytkdgpobbpoflkaa.namesLate
open Go.RowKit

attribute [local go_sem] Oper.semAt_some wide_fn
set_option maxHeartbeats 4000000 in
set_option maxRecDepth 1000000 in
theorem walk (a : Option Addr) (c : Nat) (zs : List OpI) (a' : Option Addr) (c' : Nat) (ys : List OpI) (w : World) (hz : IsOps w a c zs ∧ (a = none → c = 0)) (hy : IsOps w a' c' ys ∧ (a' = none → c' = 0)) (hm : zs.length ≤ 1048576) (hm' : ys.length ≤ 1048576) :
    Calls Try.prog 5 #[.slice a zs.length c, .slice a' ys.length c'] w fun e w' => e = .returned (.bool true) ∧ Below w.heap.size w w' := by
  have hnn := fun w p => b_not_nil w p
  have HZ : Hid (IsOps w a c zs ∧ IsOps w a' c' ys) := ⟨hz.1, hy.1⟩
  clear hz hy
  refine (callsIn_wide (n := 3)).1 ?_
  refine callsIn_of_wp_marks Try.func5 rfl trivial ?_ rfl
  simp only [Try.ntmps5, List.size_toArray, List.length_cons, List.length_nil, Nat.reduceAdd, Nat.reduceSub, Array.replicate_succ, Array.replicate_zero, List.push_toArray, List.append_toArray, List.nil_append, List.cons_append]
  refine wpIn_wide.2 ?_
  go_wp2_with fail
  obtain ⟨W1, hW1⟩ : ∃ W1, W1 = w.alloc (.cells #[.bool false] 4) := ⟨_, rfl⟩
  obtain ⟨rb, hrb⟩ : ∃ rb, rb = w.heap.size := ⟨_, rfl⟩
  rw [← hrb, ← hW1]
  have H1 : Hid (Below w.heap.size w W1 ∧ W1.heap[rb]? = some (.cells #[.bool false] 4 (0, 0)) ∧ rb = w.heap.size) := ⟨by rw [hW1]; exact (Below.refl _ w).alloc (Nat.le_refl _) _, by rw [hW1, hrb]; exact heap_alloc_new _ _, hrb⟩
  clear hW1 hrb
  refine (shown_any _).mono ?_
  rintro e w2 ⟨rfl, B2⟩
  have H2 := hide B2
  clear B2
  go_wp2_with fail
  refine (newF W1 w2 H2.out).mono ?_
  rintro e w3 ⟨b, mb, rfl, q3⟩
  have H3 := hide q3
  clear q3
  go_wp2_with fail
  refine (refNew_any w3 W1 H3.out.below.size).mono ?_
  rintro e w4 ⟨rfl, d4, B4⟩
  obtain ⟨db, hdb⟩ : ∃ db, db = w3.heap.size := ⟨_, rfl⟩
  rw [← hdb] at d4 ⊢
  have P4 : Hid (Pair W1 w4 b mb 0 db (.slice none 0 0) [] g0 0) := by
    have hl := cell_lt H3.out.q.cell
    simp only at hl
    refine ⟨⟨H3.out.q.below B4, H3.out.below.trans (B4.mono H3.out.below.size), H3.out.hb, H3.out.hm⟩, d4, ⟨List.Pairwise.nil, fun t v => by simp⟩, ?_, ?_, Nat.le_refl _, fun t => by simp [held]⟩
    · rintro (e | e)
      · omega
      · cases e
    · rintro k (e | e)
      · have := H3.out.below.size
        omega
      · cases e
  clear d4 B4 hdb H3
  obtain ⟨w5, hw5⟩ : ∃ w5, w5 = w4.alloc (.cells #[.pointer (some ⟨b, 0, none⟩), .pointer (some ⟨db, 0, none⟩)] 30) := ⟨_, rfl⟩
  obtain ⟨pb, hpb⟩ : ∃ pb, pb = w4.heap.size := ⟨_, rfl⟩
  have hbx : w5.heap[pb]? = some (.cells #[.pointer (some ⟨b, 0, none⟩), .pointer (some ⟨db, 0, none⟩)] 30 (0, 0)) := by rw [hw5, hpb]; exact heap_alloc_new _ _
  have P5 : Hid (Pair W1 w5 b mb 0 db (.slice none 0 0) [] g0 0 ∧ w5.heap[pb]? = some (.cells #[.pointer (some ⟨b, 0, none⟩), .pointer (some ⟨db, 0, none⟩)] 30 (0, 0)) ∧ W1.heap.size ≤ pb) := ⟨P4.out.later (by rw [hw5]; exact (Below.refl _ w4).alloc (Nat.le_refl _) _), hbx, by rw [hpb]; exact P4.out.q.below.size⟩
  have y0 : w5.cell? ⟨pb, 0, none⟩ = some (.pointer (some ⟨b, 0, none⟩)) := by simp [World.cell?, hbx]
  have HW5 := hide (And.intro hw5 hpb)
  clear hw5 hpb hbx P4
  go_upto_region 4 with fail
  rw [← HW5.out.2, ← HW5.out.1]
  clear HW5
  have HBW : Hid (∀ W, Below W1.heap.size W1 W → Below w.heap.size w W) := fun W h => H1.out.1.trans (h.mono H1.out.1.size)
  go_wp2_with fail
  go_loopg [6] zs.length (fun gk s6 wr => ∃ (k n : Nat) (lv : Value) (S : List RowT) (g : Text → Option Int), s6 = .int .i64 (k : Int) ∧ k ≤ zs.length ∧ zs.length - k ≤ gk ∧ Hid (Pair W1 wr b mb n db lv S g k ∧ Steady w5 wr))
  case atStart => exact ⟨0, 0, _, [], g0, rfl, Nat.zero_le _, Nat.le_refl _, P5.out.1, Steady.refl _⟩
  case round =>
    obtain ⟨k, n, lv, S, g, rfl, hk, hgk, HI⟩ := hrel
    by_cases hkz : k < zs.length
    · have t1 : (k : Int) < (zs.length : Int) := by omega
      obtain ⟨x, hx⟩ : ∃ x, zs[k]? = some x := ⟨_, List.getElem?_eq_getElem hkz⟩
      obtain ⟨-, -, hfit, hcell⟩ := HZ.out.1
      have hxf := hfit x (List.mem_of_getElem? hx)
      rcases hcell with rfl | ⟨bz, oz, rfl, hbz, hcell⟩
      · simp at hkz
      have hc := hcell k x hx
      obtain ⟨xs, xk, xn, xK⟩ := x
      have hbw := HBW.out _ HI.out.1.q.below
      have x1 : wr.cell? ⟨bz, oz + k * 4 + 1, none⟩ = some (.int .i64 xk) := (hbw.cell (p := ⟨bz, oz + k * 4 + 1, none⟩) hbz).trans (by simpa using hc 1 _ rfl)
      have x2 : wr.cell? ⟨bz, oz + k * 4 + 2, none⟩ = some (.string xn) := (hbw.cell (p := ⟨bz, oz + k * 4 + 2, none⟩) hbz).trans (by simpa using hc 2 _ rfl)
      have hxn : xn.size ≤ maxLen := hxf.2.1
      have HX : Hid (∀ W, Below w.heap.size w W → W.cell? ⟨bz, oz + k * 4 + 1, none⟩ = some (.int .i64 xk) ∧ W.cell? ⟨bz, oz + k * 4 + 2, none⟩ = some (.string xn)) := fun W hW => ⟨(hW.cell (p := ⟨bz, oz + k * 4 + 1, none⟩) hbz).trans (by simpa using hc 1 _ rfl), (hW.cell (p := ⟨bz, oz + k * 4 + 2, none⟩) hbz).trans (by simpa using hc 2 _ rfl)⟩
      have hbr := HI.out.2.2 pb _ P5.out.2.1 ⟨by simp, by simp, by simp⟩
      have p0 : wr.cell? ⟨pb, 0, none⟩ = some (.pointer (some ⟨b, 0, none⟩)) := by simp [World.cell?, hbr]
      have p1 : wr.cell? ⟨pb, 1, none⟩ = some (.pointer (some ⟨db, 0, none⟩)) := by simp [World.cell?, hbr]
      obtain ⟨z, hz, hzz⟩ : ∃ z, bits BinOp.and IntKind.i64 xk 1 = z ∧ (z = 0 ∨ z = 1) := ⟨_, rfl, and_one xk⟩
      have hwz : IntKind.i64.wrap (1 + z) = 1 + z := by rcases hzz with rfl | rfl <;> decide
      have HT : Hid (∀ W, Below wr.heap.size wr W → Calls Try.prog 19 #[.agg #[.pointer (some ⟨b, 0, none⟩), .pointer (some ⟨db, 0, none⟩)], .string xn, .int .i64 (1 + z)] W fun e w' => e = .returned (.bool true) ∧ (∃ n' lv' S' g', Pair W1 w' b mb n' db lv' S' g' (k + 1)) ∧ Steady W w') := fun W hW =>
        turn_any W1 W b mb n db lv S g k xn (1 + z) (HI.out.1.later hW) (by omega) hxn (by rcases hzz with rfl | rfl <;> simp)
      clear hc hcell hfit hxf hx hbw hbr
      go_upto_region 9 with fail
      go_region_held3 (fun w' => w'.cell? ⟨bz, oz + k * 4 + 1, none⟩ = some (.int .i64 xk) ∧ w'.cell? ⟨bz, oz + k * 4 + 2, none⟩ = some (.string xn) ∧ w'.cell? ⟨pb, 0, none⟩ = some (.pointer (some ⟨b, 0, none⟩)) ∧ w'.cell? ⟨pb, 1, none⟩ = some (.pointer (some ⟨db, 0, none⟩)))
        (first | exact ⟨x1, x2, p0, p1⟩ | assumption)
        (first | (go_at_call 19
                  refine (HT.out _ (Below.refl _ _).drew).mono ?_
                  rintro e w8 ⟨rfl, ⟨n', lv', S', g', hp⟩, hst⟩
                  have HP := hide hp
                  have HST := hide (HI.out.2.trans ((Steady.ofBelow (Below.refl _ wr).drew).trans hst))
                  have hbw := HBW.out _ hp.q.below
                  have hbr := HST.out.2 pb _ P5.out.2.1 ⟨by simp, by simp, by simp⟩
                  have y01 : w8.cell? ⟨bz, oz + k * 4 + 1, none⟩ = some (.int .i64 xk) ∧ w8.cell? ⟨bz, oz + k * 4 + 2, none⟩ = some (.string xn) ∧ w8.cell? ⟨pb, 0, none⟩ = some (.pointer (some ⟨b, 0, none⟩)) ∧ w8.cell? ⟨pb, 1, none⟩ = some (.pointer (some ⟨db, 0, none⟩)) := ⟨(HX.out _ hbw).1, (HX.out _ hbw).2, by simp [World.cell?, hbr], by simp [World.cell?, hbr]⟩
                  clear hp hst hbw hbr))
      go_wp2_with fail
      go_roundg (zs.length - (k + 1))
      case measure => omega
      case rel => exact ⟨k + 1, n', lv', S', g', by go_num, by omega, Nat.le_refl _, HP.out, HST.out⟩
    · have t1 : ¬ (k : Int) < (zs.length : Int) := by omega
      obtain rfl : k = zs.length := by omega
      have hbr := HI.out.2.2 pb _ P5.out.2.1 ⟨by simp, by simp, by simp⟩
      have p0 : wr.cell? ⟨pb, 0, none⟩ = some (.pointer (some ⟨b, 0, none⟩)) := by simp [World.cell?, hbr]
      clear hbr
      go_wp2_with fail
      refine (all_any wr b).mono ?_
      rintro e w6 ⟨rfl, bx, B6⟩
      obtain ⟨cb, hcb⟩ : ∃ cb, cb = wr.heap.size := ⟨_, rfl⟩
      rw [← hcb] at bx ⊢
      have P6 : Hid (Pair W1 w6 b mb n db lv S g (zs.length + 0) ∧ w6.heap[pb]? = some (.cells #[.pointer (some ⟨b, 0, none⟩), .pointer (some ⟨db, 0, none⟩)] 30 (0, 0)) ∧ boxed w6 cb b) := ⟨HI.out.1.later B6, (Steady.ofBelow B6).2 _ _ (HI.out.2.2 pb _ P5.out.2.1 ⟨by simp, by simp, by simp⟩) ⟨by simp, by simp, by simp⟩, bx⟩
      have hnl := seq_nil
      unfold allV
      clear bx B6 hcb p0 HI
      go_wp2_with fail
      go_loopg [8] ys.length (fun gk s8 wr => ∃ (k n : Nat) (lv : Value) (S : List RowT) (g : Text → Option Int), s8 = .int .i64 (k : Int) ∧ k ≤ ys.length ∧ ys.length - k ≤ gk ∧ Hid (Pair W1 wr b mb n db lv S g (zs.length + k) ∧ Steady w6 wr))
      case atStart => exact ⟨0, n, lv, S, g, rfl, Nat.zero_le _, Nat.le_refl _, P6.out.1, Steady.refl _⟩
      case round =>
        obtain ⟨k, n, lv, S, g, rfl, hk, hgk, HI⟩ := hrel
        by_cases hkz : k < ys.length
        · have t1 : (k : Int) < (ys.length : Int) := by omega
          obtain ⟨x, hx⟩ : ∃ x, ys[k]? = some x := ⟨_, List.getElem?_eq_getElem hkz⟩
          obtain ⟨-, -, hfit, hcell⟩ := HZ.out.2
          have hxf := hfit x (List.mem_of_getElem? hx)
          rcases hcell with rfl | ⟨bz, oz, rfl, hbz, hcell⟩
          · simp at hkz
          have hc := hcell k x hx
          obtain ⟨xs, xk, xn, xK⟩ := x
          have hbw := HBW.out _ HI.out.1.q.below
          have x1 : wr.cell? ⟨bz, oz + k * 4 + 1, none⟩ = some (.int .i64 xk) := (hbw.cell (p := ⟨bz, oz + k * 4 + 1, none⟩) hbz).trans (by simpa using hc 1 _ rfl)
          have x2 : wr.cell? ⟨bz, oz + k * 4 + 2, none⟩ = some (.string xn) := (hbw.cell (p := ⟨bz, oz + k * 4 + 2, none⟩) hbz).trans (by simpa using hc 2 _ rfl)
          have hxn : xn.size ≤ maxLen := hxf.2.1
          have HX : Hid (∀ W, Below w.heap.size w W → W.cell? ⟨bz, oz + k * 4 + 1, none⟩ = some (.int .i64 xk) ∧ W.cell? ⟨bz, oz + k * 4 + 2, none⟩ = some (.string xn)) := fun W hW => ⟨(hW.cell (p := ⟨bz, oz + k * 4 + 1, none⟩) hbz).trans (by simpa using hc 1 _ rfl), (hW.cell (p := ⟨bz, oz + k * 4 + 2, none⟩) hbz).trans (by simpa using hc 2 _ rfl)⟩
          have hbr := HI.out.2.2 pb _ P6.out.2.1 ⟨by simp, by simp, by simp⟩
          have p0 : wr.cell? ⟨pb, 0, none⟩ = some (.pointer (some ⟨b, 0, none⟩)) := by simp [World.cell?, hbr]
          have p1 : wr.cell? ⟨pb, 1, none⟩ = some (.pointer (some ⟨db, 0, none⟩)) := by simp [World.cell?, hbr]
          obtain ⟨z, hz, hzz⟩ : ∃ z, bits BinOp.and IntKind.i64 xk 1 = z ∧ (z = 0 ∨ z = 1) := ⟨_, rfl, and_one xk⟩
          have hwz : IntKind.i64.wrap (1 + z) = 1 + z := by rcases hzz with rfl | rfl <;> decide
          have HT : Hid (∀ W, Below wr.heap.size wr W → Calls Try.prog 19 #[.agg #[.pointer (some ⟨b, 0, none⟩), .pointer (some ⟨db, 0, none⟩)], .string xn, .int .i64 (1 + z)] W fun e w' => e = .returned (.bool true) ∧ (∃ n' lv' S' g', Pair W1 w' b mb n' db lv' S' g' (zs.length + k + 1)) ∧ Steady W w') := fun W hW =>
            turn_any W1 W b mb n db lv S g (zs.length + k) xn (1 + z) (HI.out.1.later hW) (by omega) hxn (by rcases hzz with rfl | rfl <;> simp)
          clear hc hcell hfit hxf hx hbw hbr
          go_upto_region 17 with fail
          go_region_held3 (fun w' => w'.cell? ⟨bz, oz + k * 4 + 1, none⟩ = some (.int .i64 xk) ∧ w'.cell? ⟨bz, oz + k * 4 + 2, none⟩ = some (.string xn) ∧ w'.cell? ⟨pb, 0, none⟩ = some (.pointer (some ⟨b, 0, none⟩)) ∧ w'.cell? ⟨pb, 1, none⟩ = some (.pointer (some ⟨db, 0, none⟩)))
            (first | exact ⟨x1, x2, p0, p1⟩ | assumption)
            (first | (go_at_call 19
                      refine (HT.out _ (Below.refl _ _).drew).mono ?_
                      rintro e w8 ⟨rfl, ⟨n', lv', S', g', hp⟩, hst⟩
                      have HP := hide hp
                      have HST := hide (HI.out.2.trans ((Steady.ofBelow (Below.refl _ wr).drew).trans hst))
                      have hbw := HBW.out _ hp.q.below
                      have hbr := HST.out.2 pb _ P6.out.2.1 ⟨by simp, by simp, by simp⟩
                      have y01 : w8.cell? ⟨bz, oz + k * 4 + 1, none⟩ = some (.int .i64 xk) ∧ w8.cell? ⟨bz, oz + k * 4 + 2, none⟩ = some (.string xn) ∧ w8.cell? ⟨pb, 0, none⟩ = some (.pointer (some ⟨b, 0, none⟩)) ∧ w8.cell? ⟨pb, 1, none⟩ = some (.pointer (some ⟨db, 0, none⟩)) := ⟨(HX.out _ hbw).1, (HX.out _ hbw).2, by simp [World.cell?, hbr], by simp [World.cell?, hbr]⟩
                      clear hp hst hbw hbr))
          go_wp2_with fail
          go_roundg (ys.length - (k + 1))
          case measure => omega
          case rel => exact ⟨k + 1, n', lv', S', g', by go_num, by omega, Nat.le_refl _, HP.out, HST.out⟩
        · have t1 : ¬ (k : Int) < (ys.length : Int) := by omega
          obtain rfl : k = ys.length := by omega
          have hbr := HI.out.2.2 pb _ P6.out.2.1 ⟨by simp, by simp, by simp⟩
          have p1 : wr.cell? ⟨pb, 1, none⟩ = some (.pointer (some ⟨db, 0, none⟩)) := by simp [World.cell?, hbr]
          clear hbr
          go_wp2_with fail
          have hSl : S.length ≤ 2097152 := by have := HI.out.1.len; omega
          have hnl2 : n ≤ 2097152 := by have := HI.out.1.few; omega
          refine (refAll_any wr W1.heap.size db lv S HI.out.1.d (by omega)).mono ?_
          rintro e w7 ⟨v, rfl, rv, B7⟩
          obtain ⟨av, cv, rfl⟩ := row_of rv
          obtain ⟨w9, hw9⟩ : ∃ w9, w9 = (w7.alloc (.cells #[.slice av S.length cv] 43)).alloc (.cells #[.int .i64 0] 3) := ⟨_, rfl⟩
          obtain ⟨b9, hb9⟩ : ∃ b9, b9 = w7.heap.size := ⟨_, rfl⟩
          obtain ⟨b10, hb10⟩ : ∃ b10, b10 = w7.heap.size + 1 := ⟨_, rfl⟩
          have B79 : Below w7.heap.size w7 w9 := by rw [hw9]; exact ((Below.refl _ w7).alloc (Nat.le_refl _) _).alloc (by simp) _
          have Br9 : Below wr.heap.size wr w9 := B7.trans (B79.mono B7.size)
          have P9 := HI.out.1.later Br9
          have HL : Hid (LateAt w rb b9 b10 (.slice av S.length cv) S 0 w9) := by
            have hrl := (Array.getElem?_eq_some_iff.1 H1.out.2.1).1
            have hs1 := P9.q.below
            have hss := HI.out.1.q.below.size
            have h1s := H1.out.1.size
            have h7s := B7.size
            refine ⟨(hs1.block rb hrl).trans H1.out.2.1, ?_, ?_, ?_, HBW.out _ hs1, by have := H1.out.2.2; omega, by omega⟩
            · rw [hw9, hb9]
              exact (((Below.refl _ (w7.alloc (.cells #[.slice av S.length cv] 43))).alloc (Nat.le_refl _) _).block w7.heap.size (by simp)).trans (heap_alloc_new _ _)
            · have := heap_alloc_new (w7.alloc (.cells #[.slice av S.length cv] 43)) (.cells #[.int .i64 0] 3)
              rw [World.size_alloc] at this
              rw [hw9, hb10]
              exact this
            · have r2 : w7.ownsRow 0 46 2 (.slice av S.length cv) S.length (flatS S) := by
                refine ⟨rv.1, ?_⟩
                rcases rv.2 with h0 | ⟨g, cap, cur, e, hB, rest⟩
                · exact .inl h0
                · exact .inr ⟨g, cap, cur, e, Nat.zero_le _, rest⟩
              rw [hw9]
              exact (r2.alloc _).alloc _
          have HBK : Hid (BookAt w9 b mb n g ∧ boxed w9 cb b ∧ Listed g S) := ⟨P9.q.q, (HI.out.2.trans (Steady.ofBelow Br9)).2 _ _ P6.out.2.2 ⟨by simp, by simp, by simp⟩, HI.out.1.l⟩
          have hw9s : w.heap.size ≤ w9.heap.size := HL.out.below.size
          have HW9 := hide (And.intro hw9 (And.intro hb9 hb10))
          clear hw9 hb9 hb10 B79 Br9 P9 rv B7 p1
          go_wp2_with fail
          rw [← HW9.out.2.2, ← HW9.out.2.1, ← HW9.out.1]
          refine (wpIn_wide (n := 3)).1 ?_
          refine wpIn_told rfl (by omega) (gf := 38) (lb := #[.pointer (some ⟨cb, 0, none⟩)]) rfl trivial (enters_of Try.func38 (by kernel_rfl) rfl)
            (all_told 2 cb b mb n g S w9 HBK.out.1 HBK.out.2.1 (by omega) HBK.out.2.2) (fun h k => h.trans k) (fun W l o o' _ hl ho _ => Kp.put W l o o' hl ho) (Below.refl _ _) (fun _ => rfl)
            (fun pre W => LateAt w rb b9 b10 (.slice av S.length cv) S pre.length W)
            (fun _ _ _ => False)
            (fun pre W W' row hs hgr hr => hs.own hw9s hgr hr)
            (fun _ _ _ _ _ h _ _ => h.elim)
            (fun pre x A _ _ _ _ h _ _ => h)
            HL.out
            ?a1 ?assign ?body ?done ?stop
          case assign =>
            intro l x W K hK
            gi_wp2
            exact hK
          case body =>
            rintro id pre ⟨xt, xc⟩ A V hid _ _ _ _ hI hx hlt
            obtain ⟨p, hp⟩ : ∃ p, p = pre.length := ⟨_, rfl⟩
            have hp1 : (pre ++ [((xt, xc) : RowT)]).length = p + 1 := by rw [List.length_append, ← hp]; rfl
            have HP1 := hide hp1
            rw [← hp] at hI hx hlt
            obtain ⟨gr, rfl, r0, r1⟩ := row_cell hI.row hx
            replace r0 : V.cell? ⟨gr, p * 2, none⟩ = some (.string ⟨xt.toArray⟩) := r0
            have k9 : V.cell? ⟨b9, 0, none⟩ = some (.slice (some ⟨gr, 0, none⟩) S.length cv) := by simp [World.cell?, hI.want]
            have k10 : V.cell? ⟨b10, 0, none⟩ = some (.int .i64 (p : Int)) := by simp [World.cell?, hI.cnt]
            have f10 : V.frozen? ⟨b10, 0, none⟩ = false := by simp [World.frozen?, hI.cnt]
            have hlti : (p : Int) < (S.length : Int) := by omega
            have HI2 := hide hI
            clear hI hx hid hp hp1
            gi_wp2
            obtain ⟨c1, c2⟩ := HI2.out.count
            refine ⟨(KeepsOthers.setCell _ _ _).from _, c2, ?_⟩
            show LateAt w rb b9 b10 _ S (pre ++ [((xt, xc) : RowT)]).length _
            rw [HP1.out]
            exact c1
          case done =>
            rintro D xs V hD hxs hI hK
            obtain rfl : xs = S := hxs
            have k9 : V.cell? ⟨b9, 0, none⟩ = some (.slice av xs.length cv) := by simp [World.cell?, hI.want]
            have k10 : V.cell? ⟨b10, 0, none⟩ = some (.int .i64 (xs.length : Int)) := by simp [World.cell?, hI.cnt]
            have kr : V.cell? ⟨rb, 0, none⟩ = some (.bool false) := by simp [World.cell?, hI.ans]
            have fr : V.frozen? ⟨rb, 0, none⟩ = false := by simp [World.frozen?, hI.ans]
            have HI2 := hide hI
            have HK := hide hK
            clear hI hK
            go_wp2_with fail
            have hK' := (KeepsOthers.setCell V ⟨rb, 0, none⟩ (.bool true)).same D _ HK.out rfl
            refine ⟨by simp, .inl ⟨_, _, rfl, run_takeDeferred hK', ?_⟩⟩
            obtain ⟨h1, h2⟩ := set_cells HI2.out.ans 0 (.bool true)
            have hne : rb ≠ D := by
              intro e
              have := HI2.out.ans
              rw [e, HK.out] at this
              simp at this
            have hc5 : ((V.setCell ⟨rb, 0, none⟩ (.bool true)).putObj D (.deferred none)).cell? ⟨rb, 0, none⟩ = some (.bool true) := by
              have h3 : ((V.setCell ⟨rb, 0, none⟩ (.bool true)).putObj D (.deferred none)).heap[rb]? = (V.setCell ⟨rb, 0, none⟩ (.bool true)).heap[rb]? := World.putObj_heap_other hne
              rw [h1] at h3
              simp [World.cell?, h3]
            refine ⟨.bool true, by simp [results, Try.f5, go_sem, hc5], rfl, ?_⟩
            have hB := HI2.out.below.setCell (p := ⟨rb, 0, none⟩) HI2.out.low.1 (.bool true)
            exact hB.grown (grownBy_putObj' _ D (.deferred none)) hB.size (fun k e => by cases e; omega)
          case stop =>
            rintro D c pre W hD _ h
            exact h.elim
end Go.Proofs.Ytkdgpobbpoflkaa.namesLate
