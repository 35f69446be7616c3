/-
  The walk of VerbsForms.
-/
import Derived.Test.YtfecbepleeoibaaDoorPlainForms
import Derived.Test.YtfecbepleeoibaaDoorPrintV
import Derived.Test.YtfecbepleeoibaaDoorRefParseV
import Derived.Deep.QuietTactic
import Derived.BigQuiet
namespace Go.Proofs.YtfecbepleeoibaaDoor
open Go.RowKit Go.Lib
theorem trimmed_eq (s : ByteArray) (w : World) (hs : s.size ≤ maxLen) : Calls Tryd.prog 22 #[.string s] w fun e w' => e = .returned (.string ⟨(trimL s.data.toList).toArray⟩) ∧ w' = w :=
  (trimmed_any s w hs).mono fun _ _ ⟨⟨t, he, ht⟩, hw⟩ => ⟨by rw [he, ← ht], hw⟩
theorem parse_zero {l : List UInt8} (h : parseE l ≠ 0) : parseC l = zeroC := by
  unfold parseE at h
  unfold parseC
  split
  · rfl
  · rename_i hk
    rw [if_neg hk] at h
    cases hr : readL (kindL (firstL l)) l with
    | none => rfl
    | some p => rw [hr] at h; exact absurd rfl h
theorem parse_read {l : List UInt8} (h : parseE l = 0) : ∃ k v t, kindL (firstL l) = k ∧ k ≠ 0 ∧ readL k l = some (v, t) ∧ parseC l = mkC k v t := by
  unfold parseE at h
  by_cases hk : kindL (firstL l) = 0
  · rw [if_pos hk] at h; cases h
  · rw [if_neg hk] at h
    cases hr : readL (kindL (firstL l)) l with
    | none => rw [hr] at h; cases h
    | some p =>
      obtain ⟨v, t⟩ := p
      refine ⟨_, v, t, rfl, hk, hr, ?_⟩
      unfold parseC
      rw [if_neg hk, hr]
theorem pieces_split {l : List UInt8} {ws : List (List UInt8)} (h : splitL l = some ws) : pieces l [] = ws := by
  unfold splitL at h
  split at h
  · exact Option.some.inj h
  · cases h
end Go.Proofs.YtfecbepleeoibaaDoor
namespace Go.Proofs.YtfecbepleeoibaaDoor.verbsForms
open Go.RowKit Go.Lib

set_option maxHeartbeats 4000000 in
set_option maxRecDepth 1000000 in
theorem walk (x0 : ByteArray) (w : World) (_f0 : x0.size ≤ maxLen) (T : Tabs w) (h0 : x0.size ≤ 1048576) :
    Calls Tryd.prog 8 #[.string x0] w fun e w' => e = .returned (.bool true) ∧ Below w.heap.size w w' := by
  have HT := hide T
  have HP0 := hide fun w T => parseV_any x0 w T (by omega)
  have HCT := hide fun w => cutV_any x0 w (by omega)
  have HX0 := hide h0
  clear T _f0 h0
  by_cases he : parseE x0.data.toList = 0
  · obtain ⟨k, v, t, hk, hk0, hr, hc⟩ := parse_read he
    obtain ⟨hl, ws, hws, hlen, hal⟩ := read_facts hk hk0 hr
    rw [he, hc] at HP0
    have hpb : printB (mkC k v t) 0 = true := by unfold printB; rw [hl]; simp
    have hps : printS (mkC k v t) 0 = joinV (wordsOf (mkC k v t)) := by rw [printS, hpb]; rfl
    have hpe : printE (mkC k v t) 0 = 0 := by rw [printE, hpb]; rfl
    have HPR := hide fun w T => printV_any (mkC k v t) none 0 0 w T
    rw [hps, hpe] at HPR
    have hlp := line_parse hl
    have hll := line_len hl
    obtain ⟨ps, hpsv⟩ : ∃ ps, joinV (wordsOf (mkC k v t)) = ps := ⟨_, rfl⟩
    rw [hpsv] at HPR hlp hll
    have HP1 := hide fun w T => parseV_any ⟨ps.toArray⟩ w T (by simp [ByteArray.size]; omega)
    rw [show (⟨ps.toArray⟩ : ByteArray).data.toList = ps from rfl, hlp.1, hlp.2] at HP1
    have hsp : splitL ps = some (wordsOf (mkC k v t)) := by
      rw [← hpsv, words_line hl]
      exact split_joined _ (words_join hl)
    have HCS := hide fun w => cutV_any ⟨ps.toArray⟩ w (by simp [ByteArray.size]; omega)
    rw [show (⟨ps.toArray⟩ : ByteArray).data.toList = ps from rfl, pieces_split hsp] at HCS
    rw [pieces_split hws] at HCT
    have HSM := hide fun w => same_refl (mkC k v t) w
    have HKD : Hid ((mkC k v t).kind = k) := (rfl : (mkC k v t).kind = k)
    have HLEN := hide hlen
    have HAL := hide hal
    have HWM : Hid (∀ a ∈ ws, a.length ≤ 1048576) := by
      intro a ha
      have h1 := join_split _ _ hws
      have h2 := mem_join_le ws a ha
      rw [h1.2] at h2
      have h3 : x0.data.toList.length = x0.size := by simp
      have := HX0.out
      omega
    obtain ⟨wo, hwo⟩ : ∃ wo, wordsOf (mkC k v t) = wo := ⟨_, rfl⟩
    rw [hwo] at HCS HLEN HAL
    clear he hk hk0 hr hl hws hlen hal hpb hps hpe hlp hll hpsv hsp hwo
    obtain ⟨c, hcc⟩ : ∃ c, mkC k v t = c := ⟨_, rfl⟩
    rw [hcc] at HP0 HPR HP1 HSM HKD
    clear hcc hc
    obtain ⟨q0, q1, q2, q3, q4, q5, q6⟩ := c
    unfold cmdV at *
    go_enter Tryd.func8, Tryd.ntmps8
    go_wp2_with (first
      | (go_at_call 9; refine (shown_any _ HT.out).mono ?_; rintro e w1 ⟨rfl, B1⟩; have HT1 := hide (HT.out.below B1); have HB1 := hide B1; clear B1)
      | (go_at_call_of 12 x0; refine (HP0.out _ HT1.out).mono ?_; rintro e w2 ⟨rfl, B2⟩; have HT2 := hide (HT1.out.below B2); have HB2 : Hid (Below w.heap.size w w2) := HB1.out.trans (B2.mono HB1.out.size); clear B2))
    obtain ⟨w3, hw3⟩ : ∃ w3, w3 = w2.alloc (.cells #[.int .i64 q0, .int .i64 q1, .int .i64 q2, .int .i64 q3, .int .i64 q4, .int .i64 q5, .string ⟨q6.toArray⟩, .slice none 0 0] 27) := ⟨_, rfl⟩
    rw [← hw3]
    have HA3 : Hid (w3.heap[w2.heap.size]? = some (.cells #[.int .i64 q0, .int .i64 q1, .int .i64 q2, .int .i64 q3, .int .i64 q4, .int .i64 q5, .string ⟨q6.toArray⟩, .slice none 0 0] 27 (0, 0))) := by show w3.heap[w2.heap.size]? = _; rw [hw3]; exact heap_alloc_new _ _
    have HT3 : Hid (Tabs w3) := by show Tabs w3; rw [hw3]; exact HT2.out.alloc _
    have HB3 : Hid (Below w.heap.size w w3) := by show Below _ _ _; rw [hw3]; exact HB2.out.alloc HB2.out.size _
    clear hw3
    refine (HPR.out _ HT3.out).mono ?_
    rintro e w4 ⟨rfl, B4⟩
    have HT4 := hide (HT3.out.below B4)
    have HB4 : Hid (Below w.heap.size w w4) := HB3.out.trans (B4.mono HB3.out.size)
    have HA4 := hide ((B4.block _ (Array.getElem?_eq_some_iff.1 HA3.out).1).trans HA3.out)
    clear B4
    go_wp2_with fail
    refine (HP1.out _ HT4.out).mono ?_
    rintro e w5 ⟨rfl, B5⟩
    have HB5 : Hid (Below w.heap.size w w5) := HB4.out.trans (B5.mono HB4.out.size)
    have HA5 := hide ((B5.block _ (Array.getElem?_eq_some_iff.1 HA4.out).1).trans HA4.out)
    obtain ⟨a0, a1, a2, a3, a4, a5, a6, a7, _⟩ := eight HA5.out
    have la := (Array.getElem?_eq_some_iff.1 HA5.out).1
    clear B5
    go_wp2_with fail
    obtain ⟨w6, hw6⟩ : ∃ w6, w6 = w5.alloc (.cells #[.int .i64 q0, .int .i64 q1, .int .i64 q2, .int .i64 q3, .int .i64 q4, .int .i64 q5, .string ⟨q6.toArray⟩, .slice none 0 0] 27) := ⟨_, rfl⟩
    rw [← hw6]
    have HB6 : Hid (Below w.heap.size w w6) := by show Below _ _ _; rw [hw6]; exact HB5.out.alloc HB5.out.size _
    have HA6 : Hid (w6.heap[w2.heap.size]? = some (.cells #[.int .i64 q0, .int .i64 q1, .int .i64 q2, .int .i64 q3, .int .i64 q4, .int .i64 q5, .string ⟨q6.toArray⟩, .slice none 0 0] 27 (0, 0))) := by show w6.heap[w2.heap.size]? = _; rw [hw6]; exact alloc_heap HA5.out
    clear hw6 a0 a1 a2 a3 a4 a5 a6 a7 la
    refine (HSM.out _).mono ?_
    rintro e w7 ⟨rfl, B7⟩
    have HB7 : Hid (Below w.heap.size w w7) := HB6.out.trans (B7.mono HB6.out.size)
    have HA7 := hide ((B7.block _ (Array.getElem?_eq_some_iff.1 HA6.out).1).trans HA6.out)
    clear B7
    go_wp2_with fail
    refine (HCT.out _).mono ?_
    rintro e w8 ⟨B8, ls, va, rfl, has, hoa⟩
    have HB8 : Hid (Below w.heap.size w w8) := HB7.out.trans (B8.mono HB7.out.size)
    have HA8 := hide ((B8.block _ (Array.getElem?_eq_some_iff.1 HA7.out).1).trans HA7.out)
    have HAS := hide has
    have HOA := hide hoa
    clear B8 has hoa
    go_wp2_with fail
    refine (HCS.out _).mono ?_
    rintro e w9 ⟨B9, bs, vb, rfl, hbs, hob⟩
    have HB9 : Hid (Below w.heap.size w w9) := HB8.out.trans (B9.mono HB8.out.size)
    have HA9 := hide ((B9.block _ (Array.getElem?_eq_some_iff.1 HA8.out).1).trans HA8.out)
    have HBS := hide hbs
    have hoa9 := own_below HOA.out B9
    obtain ⟨pa, ca, rfl, hca⟩ := own_form hoa9
    obtain ⟨pb, cb, rfl, hcb⟩ := own_form hob
    have hab : bs.length = ls.length := by
      have e1 := congrArg List.length HAS.out
      have e2 := congrArg List.length HBS.out
      rw [List.length_map] at e1 e2
      rw [e1, e2]
      exact HLEN.out.symm
    obtain ⟨n, hn⟩ : ∃ n, ls.length = n := ⟨_, rfl⟩
    rw [hn] at hab
    rw [hab, hn]
    have HCA := hide hca
    have HCB := hide hcb
    have HNA := hide hn
    have HNB := hide hab
    have hnm : n ≤ maxLen := by
      have h := hoa9.1
      have : ls.length ≤ maxLen := by
        rcases hoa9.2 with ⟨_, h0⟩ | ⟨g, cap, cur, _, _, _, hc1, hc2, _⟩
        · rw [h0]; decide
        · exact Nat.le_trans hc1 hc2
      omega
    unfold maxLen at hnm
    clear B9 hbs hob hoa9 hca hcb hab hn
    go_wp2_with fail
    go_loopg [13] n (fun gk i wx => ∃ j : Nat, i = .int .i64 j ∧ j ≤ n ∧ n - j ≤ gk ∧ Hid (Below w9.heap.size w9 wx))
    case atStart => exact ⟨0, rfl, by omega, by omega, Below.refl _ _⟩
    case round =>
      obtain ⟨j, rfl, hj, hgk, HBx⟩ := hrel
      by_cases hlt : j < n
      · obtain ⟨x, hx⟩ : ∃ x, ls[j]? = some x := ⟨_, List.getElem?_eq_getElem (by rw [HNA.out]; exact hlt)⟩
        obtain ⟨y, hy⟩ : ∃ y, bs[j]? = some y := ⟨_, List.getElem?_eq_getElem (by rw [HNB.out]; exact hlt)⟩
        obtain ⟨g1, rfl, _, hg1, hc1⟩ := HCA.out j (.string x) (by rw [List.getElem?_map, hx]; rfl)
        obtain ⟨g2, rfl, _, hg2, hc2⟩ := HCB.out j (.string y) (by rw [List.getElem?_map, hy]; rfl)
        have d1 := (HBx.out.cell (p := ⟨g1, j, none⟩) hg1).trans hc1
        have d2 := (HBx.out.cell (p := ⟨g2, j, none⟩) hg2).trans hc2
        have hal := HAL.out j x.data.toList y.data.toList (by rw [← HAS.out, List.getElem?_map, hx]; rfl) (by rw [← HBS.out, List.getElem?_map, hy]; rfl)
        have hxm : x.size ≤ maxLen := by
          have h1 := HWM.out x.data.toList (by rw [← HAS.out]; exact List.mem_map_of_mem (List.mem_of_getElem? hx))
          have h2 : x.data.toList.length = x.size := by simp
          unfold maxLen
          omega
        have HTR := hide fun w => trimmed_eq x w hxm
        have HA := hide ((HBx.out.block _ (Array.getElem?_eq_some_iff.1 HA9.out).1).trans HA9.out)
        obtain ⟨a0, _, _, _, _, _, _, _, _⟩ := eight HA.out
        have HALK := hide hal
        have HXY := hide hx
        clear hx hy hc1 hc2 hal hxm
        have i1 : (0 : Int) ≤ (j : Int) := by omega
        have i2 : (j : Int) < (n : Int) := by omega
        obtain ⟨tx, htx⟩ : ∃ tx, trimL x.data.toList = tx := ⟨_, rfl⟩
        rw [htx] at HTR
        have HTX := hide htx
        clear htx
        obtain ⟨kb, hkb⟩ : ∃ kb, (q0 == 1) = kb := ⟨_, rfl⟩
        obtain ⟨jb, hjb⟩ : ∃ jb, ((j : Int) == 3) = jb := ⟨_, rfl⟩
        obtain ⟨tb, htb⟩ : ∃ tb, (tx == [48]) = tb := ⟨_, rfl⟩
        obtain ⟨yb, hyb⟩ : ∃ yb, (y.toList == [49]) = yb := ⟨_, rfl⟩
        by_cases hxy : x = y
        · have HXE := hide hxy
          clear hxy
          go_wp2_with (go_at_call 22; refine (HTR.out _).mono ?_; rintro e wn ⟨rfl, hwn⟩; subst hwn)
          all_goals (
            have hnb : (x.toList == y.toList) = true := by rw [HXE.out]; simp
            go_big_quiet (first | (go_at_call 22; exact Calls.quiet_of_same (HTR.out _)))
            go_wp2_with fail
            go_roundg (n - (j + 1))
            case measure => omega
            case rel => exact ⟨j + 1, by go_num, by omega, Nat.le_refl _, HBx.out.trans (below_drewN _ _ _)⟩)
        · have hnb : (x.toList == y.toList) = false := by
            rw [beq_eq_false_iff_ne, ByteArray.toList_eq, ByteArray.toList_eq]
            intro e
            exact hxy (by
              have e2 : (⟨x.data.toList.toArray⟩ : ByteArray) = ⟨y.data.toList.toArray⟩ := by rw [e]
              exact e2)
          have HNE := hide hxy
          have HNB := hide hnb
          clear hxy hnb
          by_cases hty : tx = y.data.toList
          · have HTY := hide hty
            clear hty
            go_wp2_with (go_at_call 22; refine (HTR.out _).mono ?_; rintro e wn ⟨rfl, hwn⟩; subst hwn)
            all_goals (
              have hnb := HNB.out
              have htb2 : (tx == y.toList) = true := by rw [ByteArray.toList_eq, HTY.out]; simp
              go_big_quiet (first | (go_at_call 22; exact Calls.quiet_of_same (HTR.out _)))
              go_wp2_with fail
              go_roundg (n - (j + 1))
              case measure => omega
              case rel => exact ⟨j + 1, by go_num, by omega, Nat.le_refl _, HBx.out.trans (below_drewN _ _ _)⟩)
          · have htb2 : (tx == y.toList) = false := by rw [beq_eq_false_iff_ne, ByteArray.toList_eq]; exact hty
            have hall : k = 1 ∧ j = 3 ∧ tx = [48] ∧ y.data.toList = [49] := by
              rcases HALK.out with h | h | ⟨e1, e2, e3, e4⟩
              · exact absurd (by
                  have e2 : (⟨x.data.toList.toArray⟩ : ByteArray) = ⟨y.data.toList.toArray⟩ := by rw [h]
                  exact e2) HNE.out
              · rw [HTX.out] at h; exact absurd h hty
              · exact ⟨e1, e2, by rw [← HTX.out]; exact e3, e4⟩
            obtain rfl : kb = true := by
              rw [← hkb]
              have hq : q0 = (k : Int) := HKD.out
              rw [hq, hall.1]
              rfl
            obtain rfl : jb = true := by rw [← hjb, hall.2.1]; rfl
            obtain rfl : tb = true := by rw [← htb, hall.2.2.1]; rfl
            obtain rfl : yb = true := by rw [← hyb, ByteArray.toList_eq, hall.2.2.2]; rfl
            have HTB2 := hide htb2
            clear hall hty htb2
            go_wp2_with (go_at_call 22; refine (HTR.out _).mono ?_; rintro e wn ⟨rfl, hwn⟩; subst hwn)
            all_goals (
              have hnb := HNB.out
              have htb2 := HTB2.out
              go_big_quiet (first | (go_at_call 22; exact Calls.quiet_of_same (HTR.out _)))
              go_wp2_with fail
              go_roundg (n - (j + 1))
              case measure => omega
              case rel => exact ⟨j + 1, by go_num, by omega, Nat.le_refl _, HBx.out.trans (below_drewN _ _ _)⟩)
      · go_wp2_with fail
        go_ret
        exact ⟨rfl, HB9.out.trans (HBx.out.mono HB9.out.size)⟩
  · have hz := parse_zero he
    rw [hz] at HP0
    obtain ⟨ev, hev⟩ : ∃ ev, parseE x0.data.toList = ev := ⟨_, rfl⟩
    rw [hev] at HP0 he
    have heb : (ev != 0) = true := by simp [he]
    have HSZ := hide fun w => same_refl zeroC w
    rw [show cmdV zeroC (.slice none 0 0) = .agg #[.int .i64 0, .int .i64 0, .int .i64 0, .int .i64 0, .int .i64 0, .int .i64 0, .string ⟨#[]⟩, .slice none 0 0] from rfl] at HP0 HSZ
    clear hev hz he
    go_enter Tryd.func8, Tryd.ntmps8
    go_wp2_with (first
      | (go_at_call 9; refine (shown_any _ HT.out).mono ?_; rintro e w1 ⟨rfl, B1⟩; have HT1 := hide (HT.out.below B1); have HB1 := hide B1; clear B1)
      | (go_at_call 12; refine (HP0.out _ HT1.out).mono ?_; rintro e w2 ⟨rfl, B2⟩; have HB2 : Hid (Below w.heap.size w w2) := HB1.out.trans (B2.mono HB1.out.size); clear B2)
      | (go_at_call 14; refine (HSZ.out _).mono ?_; rintro e w3 ⟨rfl, B3⟩; have HB3 : Hid (Below w.heap.size w w3) := (HB2.out.alloc HB2.out.size _).trans (B3.mono (by simp; have := HB2.out.size; omega)); clear B3))
    all_goals go_ret
    all_goals exact ⟨by simp, HB3.out⟩
end Go.Proofs.YtfecbepleeoibaaDoor.verbsForms
