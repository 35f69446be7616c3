/-
  The walk of ScriptRemarks.
-/
import Derived.Test.YteecmbpabkndlaaDoorRemKit2
set_option linter.unusedSimpArgs false
namespace Go.Proofs.YteecmbpabkndlaaDoor.scriptRemarks
open Go.RowKit

set_option maxHeartbeats 8000000 in
set_option maxRecDepth 1000000 in
theorem walk (x0 x1 : ByteArray) (x2 : Int) (W : World) (_ : x0.size ≤ maxLen) (_ : x1.size ≤ maxLen) (g2 : -9223372036854775808 ≤ x2 ∧ x2 ≤ 9223372036854775807) (T : Tabs W) (h6 : 6 ≤ W.heap.size) (hb0 : x0.size ≤ 1048576) (hb1 : x1.size ≤ 1048576) :
    Calls Tryd.prog 6 #[.string x0, .string x1, .int .i64 x2] W fun e w' => e = .returned (.bool true) ∧ Below W.heap.size W w' := by
  have CS := hide (shown_any W T h6)
  have HT := hide T
  clear T
  go_enter Tryd.func6, Tryd.ntmps6
  go_wp2_with fail
  refine CS.out.mono ?_
  rintro e w1 ⟨rfl, b1⟩
  have HB1 := hide b1
  have hz1 := b1.size
  clear b1 CS
  go_wp2_with fail
  refine (parse_any19 w1 x0 (HT.out.below HB1.out) (by omega)).mono ?_
  rintro e w2 ⟨b2, sv, l, he, hs, hm⟩
  obtain ⟨a, c, hsv⟩ := hs.form
  subst hsv
  have hl4 : l.length ≤ 4000 := by
    have h1 := congrArg List.length hm
    rw [List.length_map] at h1
    have h2 := parse_few x0.data.toList
    omega
  obtain ⟨pj, hpj⟩ : ∃ n, (parseP x0.data.toList).1.j = n := ⟨_, rfl⟩
  obtain ⟨ps, hps⟩ : ∃ n, (parseP x0.data.toList).1.s = n := ⟨_, rfl⟩
  obtain ⟨pq, hpq⟩ : ∃ n, (parseP x0.data.toList).1.q = n := ⟨_, rfl⟩
  obtain ⟨pl, hpl⟩ : ∃ n, (parseP x0.data.toList).2.1 = n := ⟨_, rfl⟩
  obtain ⟨pe, hpe⟩ : ∃ n, (parseP x0.data.toList).2.2 = n := ⟨_, rfl⟩
  have hline := parse_line x0.data.toList
  rw [hpl] at hline
  rw [hpj, hps, hpq, hpl, hpe] at he
  subst he
  have HPS := hide (And.intro hpj (And.intro hps (And.intro hpq (And.intro hpl hpe))))
  have hb3 : Below w2.heap.size w2 (w2.alloc (.cells #[.int .i64 pj, .int .i64 ps, .int .i64 pq, .slice a l.length c] 31)) := (Below.refl _ w2).alloc (Nat.le_refl _) _
  have HK : Hid (RK W (w2.alloc (.cells #[.int .i64 pj, .int .i64 ps, .int .i64 pq, .slice a l.length c] 31)) (w2.heap.size + 1) x0.data.toList w2.heap.size (.slice a l.length c) l) := by
    have q2 := HB1.out.trans (b2.mono hz1)
    refine ⟨q2.trans (hb3.mono q2.size), by have := q2.size; omega, ?_, by omega, (steps_in hs hl4).later hb3, hm, (HT.out.below q2).below hb3, by simp⟩
    rw [hpj, hps, hpq]
    exact heap_alloc_new w2 _
  clear b2 hs hm hl4 hpj hps hpq hpl hpe hb3 HB1
  go_wp2_with fail
  go_loopg [11, 12] x1.size (fun gk pv i wr => ∃ n : Nat, i = .int .i64 (n : Int) ∧ x1.size - n ≤ gk ∧ n ≤ x1.size ∧ Hid (Below (w2.heap.size + 1) (w2.alloc (.cells #[.int .i64 pj, .int .i64 ps, .int .i64 pq, .slice a l.length c] 31)) wr) ∧ Hid (Own wr (w2.heap.size + 1) pv (35 :: (x1.data.toList.take n).filter (· ≠ 10))))
  case atStart =>
    refine ⟨0, rfl, by omega, by omega, (Below.refl _ _).alloc (by simp) _, ?_⟩
    have := own_made (w2.alloc (.cells #[.int .i64 pj, .int .i64 ps, .int .i64 pq, .slice a l.length c] 31)) (w2.heap.size + 1) [35] #[.int .u8 35] rfl (by simp) (by decide)
    rw [World.size_alloc] at this
    exact this
  case round =>
    obtain ⟨n, rfl, hgk, hn, HB, HO⟩ := hrel
    have hz := HB.out.size
    rw [World.size_alloc] at hz
    by_cases hlt : n < x1.size
    · have tlt : (n : Int) < (x1.size : Int) := by omega
      obtain ⟨_, d2⟩ := drop_take _ n _ (byte_at_i hlt)
      obtain ⟨y, hy⟩ : ∃ y, x1[n]'hlt = y := ⟨_, rfl⟩
      rw [hy] at d2
      by_cases h10 : y = 10
      · have hb : (((x1[n]'hlt).toNat : Int) != 10) = false := by rw [hy, h10]; rfl
        have HO2 : Hid (Own wr (w2.heap.size + 1) u11 (35 :: (x1.data.toList.take (n + 1)).filter (· ≠ 10))) := by
          show Own _ _ _ _
          rw [d2, filter_snoc, if_pos h10]
          exact HO.out
        clear d2 hy
        go_wp2_with fail
        go_roundg (x1.size - (n + 1))
        case measure => omega
        case rel => exact ⟨n + 1, by go_num, Nat.le_refl _, hlt, HB, HO2⟩
      · have hb : ((y.toNat : Int) != 10) = true := by
          rw [bne_iff_ne]
          intro e
          exact h10 (UInt8.toNat_inj.1 (by have : (10 : UInt8).toNat = 10 := rfl; omega))
        have al : Below wr.heap.size wr (wr.alloc (.cells #[.int .u8 (y.toNat : Int)] 5)) := (Below.refl _ wr).alloc (Nat.le_refl _) _
        have O2 := hide (HO.out.below al)
        have B2 := hide (HB.out.trans (al.mono hz))
        have hzB : w2.heap.size + 1 ≤ (wr.alloc (.cells #[.int .u8 (y.toNat : Int)] 5)).heap.size := by rw [World.size_alloc]; omega
        have hfl : (35 :: (x1.data.toList.take n).filter (· ≠ 10)).length ≤ 1048600 := by
          have h1 := List.length_filter_le (fun x : UInt8 => decide (x ≠ 10)) (x1.data.toList.take n)
          have h2 : (x1.data.toList.take n).length ≤ n := by rw [List.length_take]; omega
          simp only [List.length_cons]
          omega
        have HE : Hid (35 :: (x1.data.toList.take (n + 1)).filter (· ≠ 10) = (35 :: (x1.data.toList.take n).filter (· ≠ 10)) ++ [y]) := by
          show _ = _
          rw [d2, filter_snoc, if_neg h10]
          rfl
        clear al d2
        go_wp2_with (at_builtin
                     go_loud (refine wpList_append8 rfl (.tmp 40) (.tmp 44) rfl (w2.heap.size + 1) u11 (35 :: (x1.data.toList.take n).filter (· ≠ 10)) rfl O2.out (some ⟨wr.heap.size, 0, none⟩) 1 [y] rfl (one8 wr #[.int .u8 (y.toNat : Int)] [y] rfl (by simp)) (by simp only [List.length_cons, List.length_nil]; simp only [List.length_cons] at hfl; omega) hzB ?_)
                     intro v5 w5 ho5 hg5 _ _ _
                     have O5 : Hid (Own w5 (w2.heap.size + 1) v5 (35 :: (x1.data.toList.take (n + 1)).filter (· ≠ 10))) := by rw [HE.out]; exact ho5
                     have B5 : Hid (Below (w2.heap.size + 1) (w2.alloc (.cells #[.int .i64 pj, .int .i64 ps, .int .i64 pq, .slice a l.length c] 31)) w5) := B2.out.grown hg5 hzB (fun g e => (O2.out.lt g e).1)
                     clear ho5 hg5)
        go_roundg (x1.size - (n + 1))
        case measure => omega
        case rel => exact ⟨n + 1, by go_num, Nat.le_refl _, hlt, B5, O5⟩
    · have tlt : ¬ (n : Int) < (x1.size : Int) := by omega
      have e9 : x1.data.toList.take n = x1.data.toList := List.take_of_length_le (by have : x1.data.toList.length = x1.size := by simp
                                                                                     omega)
      rw [e9] at HO
      have HP : Hid (Own wr (w2.heap.size + 1) u11 (passT x1.data.toList)) := HO
      have hpl := passT_len x1.data.toList
      have hpl2 : x1.data.toList.length = x1.size := by simp
      obtain ⟨P, hPe⟩ : ∃ P, passT x1.data.toList = P := ⟨_, rfl⟩
      rw [hPe] at HP hpl
      have HPE := hide hPe
      have hPl : P.length ≤ 1048577 := by omega
      obtain ⟨pa, pc, hpv, hpb⟩ := HP.out.shape
      subst hpv
      have HPB := hide hpb
      clear e9 HO hpl hpl2 hPe hpb
      by_cases hneg : x2 < 0
      · have hw : IntKind.wrap .i64 (x2 + 1) = x2 + 1 := by rw [IntKind.wrap_i64]; omega
        have hw2 : IntKind.wrap .i64 (-(x2 + 1)) = -(x2 + 1) := by rw [IntKind.wrap_i64]; omega
        obtain ⟨r3, hr3, hr3l⟩ : ∃ r3 : Nat, Int.tmod (-(x2 + 1)) 3 = (r3 : Int) ∧ r3 < 3 := ⟨((-(x2 + 1)) % 3).toNat, by rw [Int.tmod_eq_emod_of_nonneg (by omega)]; omega, by omega⟩
        have al : Below wr.heap.size wr (wr.alloc (.cells #[] 5)) := (Below.refl _ wr).alloc (Nat.le_refl _) _
        have OA := hide (own_made wr (w2.heap.size + 1) [] #[] rfl hz (by simp))
        have OP := hide (HP.out.below al)
        have IB := hide (HPB.out.below al)
        have BA := hide (HB.out.trans (al.mono hz))
        have hzA : w2.heap.size + 1 ≤ (wr.alloc (.cells #[] 5)).heap.size := by rw [World.size_alloc]; omega
        have HPL := hide (HP.out.lt)
        clear al
        go_wp2_with (first
          | (at_builtin
             refine wpList_append8 rfl (.tmp 58) (.tmp 59) rfl (w2.heap.size + 1) v3 P rfl (K3.out.lit (.cells #[.int .u8 10, .int .u8 10] 5)).out (some ⟨w3.heap.size, 0, none⟩) 2 [10, 10] rfl (one8 w3 #[.int .u8 10, .int .u8 10] [10, 10] rfl (by simp)) (by simp only [List.length_cons, List.length_nil]; omega) (K3.out.lit (.cells #[.int .u8 10, .int .u8 10] 5)).Bw ?_
             intro v5 w5 ho hg hk _ _
             have K5 := hide ((K3.out.lit (.cells #[.int .u8 10, .int .u8 10] 5)).app ho hg hk)
             clear ho hg hk)
          | (at_builtin
             refine wpList_append8 rfl (.tmp 55) (.tmp 56) rfl (w2.heap.size + 1) (.slice (some ⟨wr.heap.size, 0, none⟩) 0 0) [] rfl OA.out pa pc P rfl IB.out (by simp only [List.length_nil]; omega) hzA ?_
             intro v3 w3 ho hg hk _ _
             have K3 : Hid (R1 (w2.alloc (.cells #[.int .i64 pj, .int .i64 ps, .int .i64 pq, .slice a l.length c] 31)) w3 (w2.heap.size + 1) (.slice pa P.length pc) v3 P P) := by
               refine ⟨BA.out.grown hg hzA (fun g e => (OA.out.lt g e).1), Nat.le_trans hzA hg.size, hk _ _ P OP.out (fun e => ?_), ho, Nat.le_refl _⟩
               exfalso
               have := (HPL.out wr.heap.size e).2
               omega
             clear ho hg hk))
        have HR5 : Hid (R2 P (P ++ [10, 10]) x0.data.toList (1 + r3) pl 0 0 2) := R2.start P _ _ _
        go_loopg [13, 14, 15, 16] x0.size (fun gk ov mo my i wr => ∃ (n m : Nat) (more : Int) (O : Tx), i = .int .i64 (n : Int) ∧ my = .int .i64 (m : Int) ∧ mo = .int .i64 more ∧ (∃ oa oc, ov = .slice oa O.length oc) ∧ x0.size - n ≤ gk ∧ n ≤ x0.size ∧ Hid (R1 (w2.alloc (.cells #[.int .i64 pj, .int .i64 ps, .int .i64 pq, .slice a l.length c] 31)) wr (w2.heap.size + 1) (.slice pa P.length pc) ov P O) ∧ Hid (R2 P O x0.data.toList (1 + r3) pl n m more))
        case atStart => exact ⟨0, 0, 2, P ++ [10, 10], rfl, rfl, rfl, K5.out.out.form, by omega, by omega, K5, HR5⟩
        case round =>
          obtain ⟨n2, m, more, O, rfl, rfl, rfl, ⟨oa, oc, hov⟩, hgk2, hn2, K, R⟩ := hrel
          subst hov
          have hmi := R.out.mi
          have hmb := R.out.mb
          have hbnd := R.out.bnd
          by_cases hlt2 : n2 < x0.size
          · have tlt2 : (n2 : Int) < (x0.size : Int) := by omega
            by_cases hol : O.length ≤ 1048576
            · have tol : (O.length : Int) ≤ 1048576 := by omega
              obtain ⟨y, hy⟩ : ∃ y, x0[n2]'hlt2 = y := ⟨_, rfl⟩
              have hyi : x0.data.toList[n2]? = some y := by rw [byte_at_i hlt2, hy]
              have K1 := hide (K.out.lit (.cells #[.int .u8 (y.toNat : Int)] 5))
              by_cases h10 : y = 10
              · have hb : ((y.toNat : Int) != 10) = false := by rw [h10]; rfl
                have hyi10 : x0.data.toList[n2]? = some 10 := by rw [hyi, h10]
                obtain ⟨rr, hrr⟩ : ∃ rr : Nat, (m + 1) % (1 + r3) = rr := ⟨_, rfl⟩
                have hrm : Int.tmod ((m : Int) + 1) (1 + (r3 : Int)) = (rr : Int) := by
                  have h9 := Int.natCast_emod (m + 1) (1 + r3)
                  rw [hrr] at h9
                  rw [Int.tmod_eq_emod_of_nonneg (by omega), h9]
                  simp
                have hd0 : ¬ (1 + (r3 : Int)) = 0 := by omega
                by_cases hr0 : rr = 0
                · have hq : ((rr : Int) == 0) = true := by rw [beq_iff_eq]; omega
                  have R9 := hide (R.out.put hyi10 (by rw [hrr]; exact hr0) hol)
                  rw [show O ++ [10] ++ [10] ++ P ++ [10] = O ++ [y] ++ [10] ++ P ++ [10] by rw [h10]] at R9
                  clear hyi hyi10 hrr h10
                  by_cases hml : (m : Int) + 1 < pl
                  · rw [if_pos hml] at R9
                    go_wp2_with (first
                      | (at_builtin
                         refine wpList_append8 rfl (.tmp 94) (.tmp 95) rfl (w2.heap.size + 1) v7 (O ++ [y] ++ [10] ++ P) rfl (K7.out.lit (.cells #[.int .u8 10] 5)).out (some ⟨w7.heap.size, 0, none⟩) 1 [10] rfl (one8 w7 #[.int .u8 10] [10] rfl (by simp)) (by simp only [List.length_append, List.length_cons, List.length_nil]; omega) (K7.out.lit (.cells #[.int .u8 10] 5)).Bw ?_
                         intro v8 w8 ho hg hk _ _
                         have K8 := hide ((K7.out.lit (.cells #[.int .u8 10] 5)).app ho hg hk)
                         clear ho hg hk)
                      | (at_builtin
                         refine wpList_append8 rfl (.tmp 91) (.tmp 92) rfl (w2.heap.size + 1) v6 (O ++ [y] ++ [10]) rfl K6.out.out (pa) pc P rfl (K6.out.passed) (by simp only [List.length_append, List.length_cons, List.length_nil]; omega) K6.out.Bw ?_
                         intro v7 w7 ho hg hk _ _
                         have K7 := hide (K6.out.app ho hg hk)
                         clear ho hg hk)
                      | (at_builtin
                         refine wpList_append8 rfl (.tmp 88) (.tmp 89) rfl (w2.heap.size + 1) v9 (O ++ [y]) rfl (K9.out.lit (.cells #[.int .u8 10] 5)).out (some ⟨w9.heap.size, 0, none⟩) 1 [10] rfl (one8 w9 #[.int .u8 10] [10] rfl (by simp)) (by simp only [List.length_append, List.length_cons, List.length_nil]; omega) (K9.out.lit (.cells #[.int .u8 10] 5)).Bw ?_
                         intro v6 w6 ho hg hk _ _
                         have K6 := hide ((K9.out.lit (.cells #[.int .u8 10] 5)).app ho hg hk)
                         clear ho hg hk)
                      | (at_builtin
                         refine wpList_append8 rfl (.tmp 72) (.tmp 76) rfl (w2.heap.size + 1) (.slice oa O.length oc) (O) rfl K1.out.out (some ⟨wr.heap.size, 0, none⟩) 1 [y] rfl (one8 wr #[.int .u8 (y.toNat : Int)] [y] rfl (by simp)) (by simp only [List.length_append, List.length_cons, List.length_nil]; omega) K1.out.Bw ?_
                         intro v9 w9 ho hg hk _ _
                         have K9 := hide (K1.out.app ho hg hk)
                         clear ho hg hk))
                    go_roundg (x0.size - (n2 + 1))
                    case measure => omega
                    case rel => exact ⟨n2 + 1, m + 1, more + 2, _, by go_num, by go_num, by go_num, K8.out.out.form, Nat.le_refl _, hlt2, K8, R9⟩
                  · rw [if_neg hml] at R9
                    go_wp2_with (first
                      | (at_builtin
                         refine wpList_append8 rfl (.tmp 94) (.tmp 95) rfl (w2.heap.size + 1) v7 (O ++ [y] ++ [10] ++ P) rfl (K7.out.lit (.cells #[.int .u8 10] 5)).out (some ⟨w7.heap.size, 0, none⟩) 1 [10] rfl (one8 w7 #[.int .u8 10] [10] rfl (by simp)) (by simp only [List.length_append, List.length_cons, List.length_nil]; omega) (K7.out.lit (.cells #[.int .u8 10] 5)).Bw ?_
                         intro v8 w8 ho hg hk _ _
                         have K8 := hide ((K7.out.lit (.cells #[.int .u8 10] 5)).app ho hg hk)
                         clear ho hg hk)
                      | (at_builtin
                         refine wpList_append8 rfl (.tmp 91) (.tmp 92) rfl (w2.heap.size + 1) v6 (O ++ [y] ++ [10]) rfl K6.out.out (pa) pc P rfl (K6.out.passed) (by simp only [List.length_append, List.length_cons, List.length_nil]; omega) K6.out.Bw ?_
                         intro v7 w7 ho hg hk _ _
                         have K7 := hide (K6.out.app ho hg hk)
                         clear ho hg hk)
                      | (at_builtin
                         refine wpList_append8 rfl (.tmp 88) (.tmp 89) rfl (w2.heap.size + 1) v9 (O ++ [y]) rfl (K9.out.lit (.cells #[.int .u8 10] 5)).out (some ⟨w9.heap.size, 0, none⟩) 1 [10] rfl (one8 w9 #[.int .u8 10] [10] rfl (by simp)) (by simp only [List.length_append, List.length_cons, List.length_nil]; omega) (K9.out.lit (.cells #[.int .u8 10] 5)).Bw ?_
                         intro v6 w6 ho hg hk _ _
                         have K6 := hide ((K9.out.lit (.cells #[.int .u8 10] 5)).app ho hg hk)
                         clear ho hg hk)
                      | (at_builtin
                         refine wpList_append8 rfl (.tmp 72) (.tmp 76) rfl (w2.heap.size + 1) (.slice oa O.length oc) (O) rfl K1.out.out (some ⟨wr.heap.size, 0, none⟩) 1 [y] rfl (one8 wr #[.int .u8 (y.toNat : Int)] [y] rfl (by simp)) (by simp only [List.length_append, List.length_cons, List.length_nil]; omega) K1.out.Bw ?_
                         intro v9 w9 ho hg hk _ _
                         have K9 := hide (K1.out.app ho hg hk)
                         clear ho hg hk))
                    go_roundg (x0.size - (n2 + 1))
                    case measure => omega
                    case rel => exact ⟨n2 + 1, m + 1, more, _, by go_num, by go_num, rfl, K8.out.out.form, Nat.le_refl _, hlt2, K8, R9⟩
                · have hq : ((rr : Int) == 0) = false := by rw [beq_eq_false_iff_ne]; omega
                  have R9 : Hid (R2 P (O ++ [y]) x0.data.toList (1 + r3) pl (n2 + 1) (m + 1) more) := by rw [h10]; exact R.out.bare hyi10 (by rw [hrr]; exact hr0) hol
                  clear hyi hyi10 hrr h10
                  go_wp2_with (at_builtin
                               refine wpList_append8 rfl (.tmp 72) (.tmp 76) rfl (w2.heap.size + 1) (.slice oa O.length oc) (O) rfl K1.out.out (some ⟨wr.heap.size, 0, none⟩) 1 [y] rfl (one8 wr #[.int .u8 (y.toNat : Int)] [y] rfl (by simp)) (by simp only [List.length_append, List.length_cons, List.length_nil]; omega) K1.out.Bw ?_
                               intro v9 w9 ho hg hk _ _
                               have K9 := hide (K1.out.app ho hg hk)
                               clear ho hg hk)
                  go_roundg (x0.size - (n2 + 1))
                  case measure => omega
                  case rel => exact ⟨n2 + 1, m + 1, more, O ++ [y], by go_num, by go_num, rfl, K9.out.out.form, Nat.le_refl _, hlt2, K9, R9⟩
              · have hb : ((y.toNat : Int) != 10) = true := by
                  rw [bne_iff_ne]
                  intro e
                  exact h10 (UInt8.toNat_inj.1 (by have : (10 : UInt8).toNat = 10 := rfl; omega))
                have R9 : Hid (R2 P (O ++ [y]) x0.data.toList (1 + r3) pl (n2 + 1) m more) := R.out.other hyi h10 hol
                clear hyi
                go_wp2_with (at_builtin
                             refine wpList_append8 rfl (.tmp 72) (.tmp 76) rfl (w2.heap.size + 1) (.slice oa O.length oc) (O) rfl K1.out.out (some ⟨wr.heap.size, 0, none⟩) 1 [y] rfl (one8 wr #[.int .u8 (y.toNat : Int)] [y] rfl (by simp)) (by simp only [List.length_append, List.length_cons, List.length_nil]; omega) K1.out.Bw ?_
                             intro v9 w9 ho hg hk _ _
                             have K9 := hide (K1.out.app ho hg hk)
                             clear ho hg hk)
                go_roundg (x0.size - (n2 + 1))
                case measure => omega
                case rel => exact ⟨n2 + 1, m, more, O ++ [y], by go_num, rfl, rfl, K9.out.out.form, Nat.le_refl _, hlt2, K9, R9⟩
            · have tol : ¬ (O.length : Int) ≤ 1048576 := by omega
              have tol2 : (1048576 : Int) < (O.length : Int) := by omega
              go_wp2_with fail
              go_ret
              exact ⟨rfl, HK.out.low.trans (K.out.low.mono HK.out.size)⟩
          · have tlt2 : ¬ (n2 : Int) < (x0.size : Int) := by omega
            by_cases hol : 1048576 < O.length
            · have tol2 : (1048576 : Int) < (O.length : Int) := by omega
              go_wp2_with fail
              go_ret
              exact ⟨rfl, HK.out.low.trans (K.out.low.mono HK.out.size)⟩
            · have tol2 : ¬ (1048576 : Int) < (O.length : Int) := by omega
              have hx0l : x0.data.toList.length = x0.size := by simp
              obtain ⟨hf1, hf2⟩ := R.out.fin (by omega)
              have hrun := remarks_run x1.data.toList (1 + r3) x0.data.toList
              rw [HPE.out, hf1] at hrun
              have hrun := hrun (by omega)
              rw [HPS.out.2.2.2.1, hf2, HPS.out.2.2.2.2] at hrun
              have HRUN := hide hrun
              have lowW := HK.out.low.trans (K.out.low.mono HK.out.size)
              have HLW := hide lowW
              have hzW := lowW.size
              obtain ⟨oa', oc', eo, hob⟩ := K.out.out.shape
              cases eo
              have kv := conv_is hob rfl
              have CP := hide (parse_any19 wr ⟨O.toArray⟩ (HK.out.tabs.keptB ((K.out.low.mono (by have := HK.out.size; omega)))) (by omega))
              clear hrun hf1 hf2 lowW hob
              go_wp2_with fail
              refine CP.out.mono ?_
              rintro e w6 ⟨b6, sv6, l6, he6, hs6, hm6⟩
              rw [HRUN.out] at he6 hm6
              simp only [] at he6 hm6
              rw [HPS.out.1, HPS.out.2.1, HPS.out.2.2.1] at he6
              obtain ⟨a6, c6, hsv6⟩ := hs6.form
              subst hsv6
              have hl64 : l6.length ≤ 4000 := by
                have h1 := congrArg List.length hm6
                rw [List.length_map] at h1
                have h2 := parse_few x0.data.toList
                omega
              have b7 : Below w6.heap.size w6 (w6.alloc (.cells #[.int .i64 pj, .int .i64 ps, .int .i64 pq, .slice a6 l6.length c6] 31)) := (Below.refl _ w6).alloc (Nat.le_refl _) _
              have q67 := b6.trans (b7.mono b6.size)
              have hbx := HK.out.box
              rw [HPS.out.1, HPS.out.2.1, HPS.out.2.2.1] at hbx
              have hbx2 := (q67.block _ (by have := HK.out.bxB; have := K.out.Bw; omega)).trans ((K.out.low.block _ HK.out.bxB).trans hbx)
              obtain ⟨z0, z1, z2, z3⟩ : (w6.alloc (.cells #[.int .i64 pj, .int .i64 ps, .int .i64 pq, .slice a6 l6.length c6] 31)).cell? ⟨w2.heap.size, 0, none⟩ = some (.int .i64 pj) ∧ (w6.alloc (.cells #[.int .i64 pj, .int .i64 ps, .int .i64 pq, .slice a6 l6.length c6] 31)).cell? ⟨w2.heap.size, 1, none⟩ = some (.int .i64 ps) ∧ (w6.alloc (.cells #[.int .i64 pj, .int .i64 ps, .int .i64 pq, .slice a6 l6.length c6] 31)).cell? ⟨w2.heap.size, 2, none⟩ = some (.int .i64 pq) ∧ (w6.alloc (.cells #[.int .i64 pj, .int .i64 ps, .int .i64 pq, .slice a6 l6.length c6] 31)).cell? ⟨w2.heap.size, 3, none⟩ = some (.slice a l.length c) := by simp [World.cell?, hbx2]
              have C7 : Hid (Calls Tryd.prog 13 #[.agg #[.int .i64 pj, .int .i64 ps, .int .i64 pq, .slice a l.length c], .agg #[.int .i64 pj, .int .i64 ps, .int .i64 pq, .slice a6 l6.length c6]] (w6.alloc (.cells #[.int .i64 pj, .int .i64 ps, .int .i64 pq, .slice a6 l6.length c6] 31)) fun e w' => e = .returned (.bool true) ∧ Below (w6.alloc (.cells #[.int .i64 pj, .int .i64 ps, .int .i64 pq, .slice a6 l6.length c6] 31)).heap.size (w6.alloc (.cells #[.int .i64 pj, .int .i64 ps, .int .i64 pq, .slice a6 l6.length c6] 31)) w') := by
                refine same_same _ pj ps pq _ _ l l6 ?_ ((steps_in hs6 hl64).later b7) (by rw [HK.out.eqs, hm6])
                refine PlayIn.later (PlayIn.later HK.out.play ?_) q67
                have := K.out.low
                rwa [show w2.heap.size + 1 = (w2.alloc (.cells #[.int .i64 pj, .int .i64 ps, .int .i64 pq, .slice a l.length c] 31)).heap.size by rw [World.size_alloc]] at this
              have HL7 := hide (HLW.out.trans (q67.mono hzW))
              have hzl := HL7.out.size
              by_cases hp0 : 0 < pl
              · rw [if_pos hp0] at he6
                subst he6
                clear b6 hs6 hm6 b7 q67 hbx hbx2 hl64
                go_wp2_with fail
                refine C7.out.mono ?_
                rintro e w8 ⟨rfl, b8⟩
                have HL8 := hide (HL7.out.trans (b8.mono hzl))
                clear b8
                go_wp2_with fail
                go_ret
                exact ⟨rfl, HL8.out⟩
              · rw [if_neg hp0] at he6
                subst he6
                clear b6 hs6 hm6 b7 q67 hbx hbx2 hl64
                go_wp2_with fail
                refine C7.out.mono ?_
                rintro e w8 ⟨rfl, b8⟩
                have HL8 := hide (HL7.out.trans (b8.mono hzl))
                clear b8
                go_wp2_with fail
                go_ret
                exact ⟨rfl, HL8.out⟩
      · obtain ⟨r3, hr3, hr3l⟩ : ∃ r3 : Nat, Int.tmod x2 3 = (r3 : Int) ∧ r3 < 3 := ⟨(x2 % 3).toNat, by rw [Int.tmod_eq_emod_of_nonneg (by omega)]; omega, by omega⟩
        have al : Below wr.heap.size wr (wr.alloc (.cells #[] 5)) := (Below.refl _ wr).alloc (Nat.le_refl _) _
        have OA := hide (own_made wr (w2.heap.size + 1) [] #[] rfl hz (by simp))
        have OP := hide (HP.out.below al)
        have IB := hide (HPB.out.below al)
        have BA := hide (HB.out.trans (al.mono hz))
        have hzA : w2.heap.size + 1 ≤ (wr.alloc (.cells #[] 5)).heap.size := by rw [World.size_alloc]; omega
        have HPL := hide (HP.out.lt)
        clear al
        go_wp2_with (first
          | (at_builtin
             refine wpList_append8 rfl (.tmp 58) (.tmp 59) rfl (w2.heap.size + 1) v3 P rfl (K3.out.lit (.cells #[.int .u8 10, .int .u8 10] 5)).out (some ⟨w3.heap.size, 0, none⟩) 2 [10, 10] rfl (one8 w3 #[.int .u8 10, .int .u8 10] [10, 10] rfl (by simp)) (by simp only [List.length_cons, List.length_nil]; omega) (K3.out.lit (.cells #[.int .u8 10, .int .u8 10] 5)).Bw ?_
             intro v5 w5 ho hg hk _ _
             have K5 := hide ((K3.out.lit (.cells #[.int .u8 10, .int .u8 10] 5)).app ho hg hk)
             clear ho hg hk)
          | (at_builtin
             refine wpList_append8 rfl (.tmp 55) (.tmp 56) rfl (w2.heap.size + 1) (.slice (some ⟨wr.heap.size, 0, none⟩) 0 0) [] rfl OA.out pa pc P rfl IB.out (by simp only [List.length_nil]; omega) hzA ?_
             intro v3 w3 ho hg hk _ _
             have K3 : Hid (R1 (w2.alloc (.cells #[.int .i64 pj, .int .i64 ps, .int .i64 pq, .slice a l.length c] 31)) w3 (w2.heap.size + 1) (.slice pa P.length pc) v3 P P) := by
               refine ⟨BA.out.grown hg hzA (fun g e => (OA.out.lt g e).1), Nat.le_trans hzA hg.size, hk _ _ P OP.out (fun e => ?_), ho, Nat.le_refl _⟩
               exfalso
               have := (HPL.out wr.heap.size e).2
               omega
             clear ho hg hk))
        have HR5 : Hid (R2 P (P ++ [10, 10]) x0.data.toList (1 + r3) pl 0 0 2) := R2.start P _ _ _
        go_loopg [13, 14, 15, 16] x0.size (fun gk ov mo my i wr => ∃ (n m : Nat) (more : Int) (O : Tx), i = .int .i64 (n : Int) ∧ my = .int .i64 (m : Int) ∧ mo = .int .i64 more ∧ (∃ oa oc, ov = .slice oa O.length oc) ∧ x0.size - n ≤ gk ∧ n ≤ x0.size ∧ Hid (R1 (w2.alloc (.cells #[.int .i64 pj, .int .i64 ps, .int .i64 pq, .slice a l.length c] 31)) wr (w2.heap.size + 1) (.slice pa P.length pc) ov P O) ∧ Hid (R2 P O x0.data.toList (1 + r3) pl n m more))
        case atStart => exact ⟨0, 0, 2, P ++ [10, 10], rfl, rfl, rfl, K5.out.out.form, by omega, by omega, K5, HR5⟩
        case round =>
          obtain ⟨n2, m, more, O, rfl, rfl, rfl, ⟨oa, oc, hov⟩, hgk2, hn2, K, R⟩ := hrel
          subst hov
          have hmi := R.out.mi
          have hmb := R.out.mb
          have hbnd := R.out.bnd
          by_cases hlt2 : n2 < x0.size
          · have tlt2 : (n2 : Int) < (x0.size : Int) := by omega
            by_cases hol : O.length ≤ 1048576
            · have tol : (O.length : Int) ≤ 1048576 := by omega
              obtain ⟨y, hy⟩ : ∃ y, x0[n2]'hlt2 = y := ⟨_, rfl⟩
              have hyi : x0.data.toList[n2]? = some y := by rw [byte_at_i hlt2, hy]
              have K1 := hide (K.out.lit (.cells #[.int .u8 (y.toNat : Int)] 5))
              by_cases h10 : y = 10
              · have hb : ((y.toNat : Int) != 10) = false := by rw [h10]; rfl
                have hyi10 : x0.data.toList[n2]? = some 10 := by rw [hyi, h10]
                obtain ⟨rr, hrr⟩ : ∃ rr : Nat, (m + 1) % (1 + r3) = rr := ⟨_, rfl⟩
                have hrm : Int.tmod ((m : Int) + 1) (1 + (r3 : Int)) = (rr : Int) := by
                  have h9 := Int.natCast_emod (m + 1) (1 + r3)
                  rw [hrr] at h9
                  rw [Int.tmod_eq_emod_of_nonneg (by omega), h9]
                  simp
                have hd0 : ¬ (1 + (r3 : Int)) = 0 := by omega
                by_cases hr0 : rr = 0
                · have hq : ((rr : Int) == 0) = true := by rw [beq_iff_eq]; omega
                  have R9 := hide (R.out.put hyi10 (by rw [hrr]; exact hr0) hol)
                  rw [show O ++ [10] ++ [10] ++ P ++ [10] = O ++ [y] ++ [10] ++ P ++ [10] by rw [h10]] at R9
                  clear hyi hyi10 hrr h10
                  by_cases hml : (m : Int) + 1 < pl
                  · rw [if_pos hml] at R9
                    go_wp2_with (first
                      | (at_builtin
                         refine wpList_append8 rfl (.tmp 94) (.tmp 95) rfl (w2.heap.size + 1) v7 (O ++ [y] ++ [10] ++ P) rfl (K7.out.lit (.cells #[.int .u8 10] 5)).out (some ⟨w7.heap.size, 0, none⟩) 1 [10] rfl (one8 w7 #[.int .u8 10] [10] rfl (by simp)) (by simp only [List.length_append, List.length_cons, List.length_nil]; omega) (K7.out.lit (.cells #[.int .u8 10] 5)).Bw ?_
                         intro v8 w8 ho hg hk _ _
                         have K8 := hide ((K7.out.lit (.cells #[.int .u8 10] 5)).app ho hg hk)
                         clear ho hg hk)
                      | (at_builtin
                         refine wpList_append8 rfl (.tmp 91) (.tmp 92) rfl (w2.heap.size + 1) v6 (O ++ [y] ++ [10]) rfl K6.out.out (pa) pc P rfl (K6.out.passed) (by simp only [List.length_append, List.length_cons, List.length_nil]; omega) K6.out.Bw ?_
                         intro v7 w7 ho hg hk _ _
                         have K7 := hide (K6.out.app ho hg hk)
                         clear ho hg hk)
                      | (at_builtin
                         refine wpList_append8 rfl (.tmp 88) (.tmp 89) rfl (w2.heap.size + 1) v9 (O ++ [y]) rfl (K9.out.lit (.cells #[.int .u8 10] 5)).out (some ⟨w9.heap.size, 0, none⟩) 1 [10] rfl (one8 w9 #[.int .u8 10] [10] rfl (by simp)) (by simp only [List.length_append, List.length_cons, List.length_nil]; omega) (K9.out.lit (.cells #[.int .u8 10] 5)).Bw ?_
                         intro v6 w6 ho hg hk _ _
                         have K6 := hide ((K9.out.lit (.cells #[.int .u8 10] 5)).app ho hg hk)
                         clear ho hg hk)
                      | (at_builtin
                         refine wpList_append8 rfl (.tmp 72) (.tmp 76) rfl (w2.heap.size + 1) (.slice oa O.length oc) (O) rfl K1.out.out (some ⟨wr.heap.size, 0, none⟩) 1 [y] rfl (one8 wr #[.int .u8 (y.toNat : Int)] [y] rfl (by simp)) (by simp only [List.length_append, List.length_cons, List.length_nil]; omega) K1.out.Bw ?_
                         intro v9 w9 ho hg hk _ _
                         have K9 := hide (K1.out.app ho hg hk)
                         clear ho hg hk))
                    go_roundg (x0.size - (n2 + 1))
                    case measure => omega
                    case rel => exact ⟨n2 + 1, m + 1, more + 2, _, by go_num, by go_num, by go_num, K8.out.out.form, Nat.le_refl _, hlt2, K8, R9⟩
                  · rw [if_neg hml] at R9
                    go_wp2_with (first
                      | (at_builtin
                         refine wpList_append8 rfl (.tmp 94) (.tmp 95) rfl (w2.heap.size + 1) v7 (O ++ [y] ++ [10] ++ P) rfl (K7.out.lit (.cells #[.int .u8 10] 5)).out (some ⟨w7.heap.size, 0, none⟩) 1 [10] rfl (one8 w7 #[.int .u8 10] [10] rfl (by simp)) (by simp only [List.length_append, List.length_cons, List.length_nil]; omega) (K7.out.lit (.cells #[.int .u8 10] 5)).Bw ?_
                         intro v8 w8 ho hg hk _ _
                         have K8 := hide ((K7.out.lit (.cells #[.int .u8 10] 5)).app ho hg hk)
                         clear ho hg hk)
                      | (at_builtin
                         refine wpList_append8 rfl (.tmp 91) (.tmp 92) rfl (w2.heap.size + 1) v6 (O ++ [y] ++ [10]) rfl K6.out.out (pa) pc P rfl (K6.out.passed) (by simp only [List.length_append, List.length_cons, List.length_nil]; omega) K6.out.Bw ?_
                         intro v7 w7 ho hg hk _ _
                         have K7 := hide (K6.out.app ho hg hk)
                         clear ho hg hk)
                      | (at_builtin
                         refine wpList_append8 rfl (.tmp 88) (.tmp 89) rfl (w2.heap.size + 1) v9 (O ++ [y]) rfl (K9.out.lit (.cells #[.int .u8 10] 5)).out (some ⟨w9.heap.size, 0, none⟩) 1 [10] rfl (one8 w9 #[.int .u8 10] [10] rfl (by simp)) (by simp only [List.length_append, List.length_cons, List.length_nil]; omega) (K9.out.lit (.cells #[.int .u8 10] 5)).Bw ?_
                         intro v6 w6 ho hg hk _ _
                         have K6 := hide ((K9.out.lit (.cells #[.int .u8 10] 5)).app ho hg hk)
                         clear ho hg hk)
                      | (at_builtin
                         refine wpList_append8 rfl (.tmp 72) (.tmp 76) rfl (w2.heap.size + 1) (.slice oa O.length oc) (O) rfl K1.out.out (some ⟨wr.heap.size, 0, none⟩) 1 [y] rfl (one8 wr #[.int .u8 (y.toNat : Int)] [y] rfl (by simp)) (by simp only [List.length_append, List.length_cons, List.length_nil]; omega) K1.out.Bw ?_
                         intro v9 w9 ho hg hk _ _
                         have K9 := hide (K1.out.app ho hg hk)
                         clear ho hg hk))
                    go_roundg (x0.size - (n2 + 1))
                    case measure => omega
                    case rel => exact ⟨n2 + 1, m + 1, more, _, by go_num, by go_num, rfl, K8.out.out.form, Nat.le_refl _, hlt2, K8, R9⟩
                · have hq : ((rr : Int) == 0) = false := by rw [beq_eq_false_iff_ne]; omega
                  have R9 : Hid (R2 P (O ++ [y]) x0.data.toList (1 + r3) pl (n2 + 1) (m + 1) more) := by rw [h10]; exact R.out.bare hyi10 (by rw [hrr]; exact hr0) hol
                  clear hyi hyi10 hrr h10
                  go_wp2_with (at_builtin
                               refine wpList_append8 rfl (.tmp 72) (.tmp 76) rfl (w2.heap.size + 1) (.slice oa O.length oc) (O) rfl K1.out.out (some ⟨wr.heap.size, 0, none⟩) 1 [y] rfl (one8 wr #[.int .u8 (y.toNat : Int)] [y] rfl (by simp)) (by simp only [List.length_append, List.length_cons, List.length_nil]; omega) K1.out.Bw ?_
                               intro v9 w9 ho hg hk _ _
                               have K9 := hide (K1.out.app ho hg hk)
                               clear ho hg hk)
                  go_roundg (x0.size - (n2 + 1))
                  case measure => omega
                  case rel => exact ⟨n2 + 1, m + 1, more, O ++ [y], by go_num, by go_num, rfl, K9.out.out.form, Nat.le_refl _, hlt2, K9, R9⟩
              · have hb : ((y.toNat : Int) != 10) = true := by
                  rw [bne_iff_ne]
                  intro e
                  exact h10 (UInt8.toNat_inj.1 (by have : (10 : UInt8).toNat = 10 := rfl; omega))
                have R9 : Hid (R2 P (O ++ [y]) x0.data.toList (1 + r3) pl (n2 + 1) m more) := R.out.other hyi h10 hol
                clear hyi
                go_wp2_with (at_builtin
                             refine wpList_append8 rfl (.tmp 72) (.tmp 76) rfl (w2.heap.size + 1) (.slice oa O.length oc) (O) rfl K1.out.out (some ⟨wr.heap.size, 0, none⟩) 1 [y] rfl (one8 wr #[.int .u8 (y.toNat : Int)] [y] rfl (by simp)) (by simp only [List.length_append, List.length_cons, List.length_nil]; omega) K1.out.Bw ?_
                             intro v9 w9 ho hg hk _ _
                             have K9 := hide (K1.out.app ho hg hk)
                             clear ho hg hk)
                go_roundg (x0.size - (n2 + 1))
                case measure => omega
                case rel => exact ⟨n2 + 1, m, more, O ++ [y], by go_num, rfl, rfl, K9.out.out.form, Nat.le_refl _, hlt2, K9, R9⟩
            · have tol : ¬ (O.length : Int) ≤ 1048576 := by omega
              have tol2 : (1048576 : Int) < (O.length : Int) := by omega
              go_wp2_with fail
              go_ret
              exact ⟨rfl, HK.out.low.trans (K.out.low.mono HK.out.size)⟩
          · have tlt2 : ¬ (n2 : Int) < (x0.size : Int) := by omega
            by_cases hol : 1048576 < O.length
            · have tol2 : (1048576 : Int) < (O.length : Int) := by omega
              go_wp2_with fail
              go_ret
              exact ⟨rfl, HK.out.low.trans (K.out.low.mono HK.out.size)⟩
            · have tol2 : ¬ (1048576 : Int) < (O.length : Int) := by omega
              have hx0l : x0.data.toList.length = x0.size := by simp
              obtain ⟨hf1, hf2⟩ := R.out.fin (by omega)
              have hrun := remarks_run x1.data.toList (1 + r3) x0.data.toList
              rw [HPE.out, hf1] at hrun
              have hrun := hrun (by omega)
              rw [HPS.out.2.2.2.1, hf2, HPS.out.2.2.2.2] at hrun
              have HRUN := hide hrun
              have lowW := HK.out.low.trans (K.out.low.mono HK.out.size)
              have HLW := hide lowW
              have hzW := lowW.size
              obtain ⟨oa', oc', eo, hob⟩ := K.out.out.shape
              cases eo
              have kv := conv_is hob rfl
              have CP := hide (parse_any19 wr ⟨O.toArray⟩ (HK.out.tabs.keptB ((K.out.low.mono (by have := HK.out.size; omega)))) (by omega))
              clear hrun hf1 hf2 lowW hob
              go_wp2_with fail
              refine CP.out.mono ?_
              rintro e w6 ⟨b6, sv6, l6, he6, hs6, hm6⟩
              rw [HRUN.out] at he6 hm6
              simp only [] at he6 hm6
              rw [HPS.out.1, HPS.out.2.1, HPS.out.2.2.1] at he6
              obtain ⟨a6, c6, hsv6⟩ := hs6.form
              subst hsv6
              have hl64 : l6.length ≤ 4000 := by
                have h1 := congrArg List.length hm6
                rw [List.length_map] at h1
                have h2 := parse_few x0.data.toList
                omega
              have b7 : Below w6.heap.size w6 (w6.alloc (.cells #[.int .i64 pj, .int .i64 ps, .int .i64 pq, .slice a6 l6.length c6] 31)) := (Below.refl _ w6).alloc (Nat.le_refl _) _
              have q67 := b6.trans (b7.mono b6.size)
              have hbx := HK.out.box
              rw [HPS.out.1, HPS.out.2.1, HPS.out.2.2.1] at hbx
              have hbx2 := (q67.block _ (by have := HK.out.bxB; have := K.out.Bw; omega)).trans ((K.out.low.block _ HK.out.bxB).trans hbx)
              obtain ⟨z0, z1, z2, z3⟩ : (w6.alloc (.cells #[.int .i64 pj, .int .i64 ps, .int .i64 pq, .slice a6 l6.length c6] 31)).cell? ⟨w2.heap.size, 0, none⟩ = some (.int .i64 pj) ∧ (w6.alloc (.cells #[.int .i64 pj, .int .i64 ps, .int .i64 pq, .slice a6 l6.length c6] 31)).cell? ⟨w2.heap.size, 1, none⟩ = some (.int .i64 ps) ∧ (w6.alloc (.cells #[.int .i64 pj, .int .i64 ps, .int .i64 pq, .slice a6 l6.length c6] 31)).cell? ⟨w2.heap.size, 2, none⟩ = some (.int .i64 pq) ∧ (w6.alloc (.cells #[.int .i64 pj, .int .i64 ps, .int .i64 pq, .slice a6 l6.length c6] 31)).cell? ⟨w2.heap.size, 3, none⟩ = some (.slice a l.length c) := by simp [World.cell?, hbx2]
              have C7 : Hid (Calls Tryd.prog 13 #[.agg #[.int .i64 pj, .int .i64 ps, .int .i64 pq, .slice a l.length c], .agg #[.int .i64 pj, .int .i64 ps, .int .i64 pq, .slice a6 l6.length c6]] (w6.alloc (.cells #[.int .i64 pj, .int .i64 ps, .int .i64 pq, .slice a6 l6.length c6] 31)) fun e w' => e = .returned (.bool true) ∧ Below (w6.alloc (.cells #[.int .i64 pj, .int .i64 ps, .int .i64 pq, .slice a6 l6.length c6] 31)).heap.size (w6.alloc (.cells #[.int .i64 pj, .int .i64 ps, .int .i64 pq, .slice a6 l6.length c6] 31)) w') := by
                refine same_same _ pj ps pq _ _ l l6 ?_ ((steps_in hs6 hl64).later b7) (by rw [HK.out.eqs, hm6])
                refine PlayIn.later (PlayIn.later HK.out.play ?_) q67
                have := K.out.low
                rwa [show w2.heap.size + 1 = (w2.alloc (.cells #[.int .i64 pj, .int .i64 ps, .int .i64 pq, .slice a l.length c] 31)).heap.size by rw [World.size_alloc]] at this
              have HL7 := hide (HLW.out.trans (q67.mono hzW))
              have hzl := HL7.out.size
              by_cases hp0 : 0 < pl
              · rw [if_pos hp0] at he6
                subst he6
                clear b6 hs6 hm6 b7 q67 hbx hbx2 hl64
                go_wp2_with fail
                refine C7.out.mono ?_
                rintro e w8 ⟨rfl, b8⟩
                have HL8 := hide (HL7.out.trans (b8.mono hzl))
                clear b8
                go_wp2_with fail
                go_ret
                exact ⟨rfl, HL8.out⟩
              · rw [if_neg hp0] at he6
                subst he6
                clear b6 hs6 hm6 b7 q67 hbx hbx2 hl64
                go_wp2_with fail
                refine C7.out.mono ?_
                rintro e w8 ⟨rfl, b8⟩
                have HL8 := hide (HL7.out.trans (b8.mono hzl))
                clear b8
                go_wp2_with fail
                go_ret
                exact ⟨rfl, HL8.out⟩
end Go.Proofs.YteecmbpabkndlaaDoor.scriptRemarks
