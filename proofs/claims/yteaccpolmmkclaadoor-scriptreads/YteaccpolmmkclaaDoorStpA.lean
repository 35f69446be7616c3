/-
  StF, StepFB, StepFC, StepAll.
-/
import Derived.Test.YteaccpolmmkclaaDoorStepA
import Derived.Deep.Cut
import Derived.Test.YteaccpolmmkclaaDoorPlA
set_option linter.unusedSimpArgs false
namespace Go.Proofs.YteaccpolmmkclaaDoor
open Go.RowKit

set_option maxHeartbeats 4000000 in
set_option maxRecDepth 1000000 in
theorem step_A (W : World) (wb : Nat) (ss : List ByteArray) (k : Nat) (hk : 1 ≤ k ∧ k ≤ 7) (T : Tabs W) (h6 : 6 ≤ wb) (hf : FormAt W k true false false false) (h : WordsAt W wb ss) (hl : ss.length ≤ 1048576) (hs : ∀ x ∈ ss, x.size ≤ 1073741823) :
    Calls Tryd.prog 50 #[.pointer (some ⟨wb, 0, none⟩), .int .i64 (k : Int)] W (StepPost W wb (k : Int) true false false false (tl ss)) := by
  obtain ⟨x, f0, f1, f2, f3, f4⟩ := hf
  have hfl := T.lt.1
  have i1 : (0 : Int) ≤ (k : Int) := by omega
  have i2 : (k : Int) < 8 := by omega
  obtain ⟨w0, fb, sb, rb, hw0, hfb, hsb, hrb, hA0⟩ := at_start W wb ss k x true false false false h
  have HA0 := hide hA0
  have HT := hide (And.intro T h6)
  have g0 := ((Below.refl _ W).alloc (Nat.le_refl _) (.cells #[.int .i64 0, .int .i64 0, .slice none 0 0, .int .i64 0, .slice none 0 0] 40))
  have e0 := (g0.cell (p := ⟨0, k * 5, none⟩) hfl).trans f0
  have e1 := (g0.cell (p := ⟨0, k * 5 + 1, none⟩) hfl).trans f1
  have e2 := (g0.cell (p := ⟨0, k * 5 + 2, none⟩) hfl).trans f2
  have e3 := (g0.cell (p := ⟨0, k * 5 + 3, none⟩) hfl).trans f3
  have e4 := (g0.cell (p := ⟨0, k * 5 + 4, none⟩) hfl).trans f4
  have HW0 := hide (And.intro hw0 (And.intro hfb (And.intro hsb hrb)))
  clear h T hA0 f0 f1 f2 f3 f4 g0 hw0 hfb hsb hrb
  go_enter Tryd.func50, Tryd.ntmps50
  go_upto_region 3 with fail
  rw [HW0.out.1, HW0.out.2.1, HW0.out.2.2.1, HW0.out.2.2.2]
  clear e0 e1 e2 e3 e4
  cases ss with
  | nil =>
    have HP : Hid (stepP (k : Int) true false false false (tl []) = none) := by
      show stepP _ _ _ _ _ _ = _
      simp [stepP, tailP, keepP, numP, hasP, tl]
    have C1 := hide (number_none (w0) wb HA0.out.words)
    unfold pan at C1
    obtain ⟨c1, c2, c3, c4⟩ := HA0.out.form
    have fl0 := HA0.out.flt
    go_wp2_with (first
      | (go_at_call 51
         refine C1.out.mono ?_
         rintro e w1 ⟨rfl, rfl⟩
         have KF := hide HA0.out.kept))
    exact ⟨rfl, KF.out, .inr ⟨HP.out, rfl⟩⟩
  | cons x1 r1 =>
    cases hp1 : parseB x1.data.toList maxWord
    · skip
      have HP : Hid (stepP (k : Int) true false false false (tl (x1 :: r1)) = none) := by
        show stepP _ _ _ _ _ _ = _
        simp [stepP, tailP, keepP, numP, hasP, tl, hp1]
      have C1 := hide (numBad (w0) wb x1 r1 HA0.out.words hp1)
      unfold pan at C1
      obtain ⟨c1, c2, c3, c4⟩ := HA0.out.form
      have fl0 := HA0.out.flt
      go_wp2_with (first
        | (go_at_call 51
           refine C1.out.mono ?_
           rintro e w1 ⟨rfl, hk⟩
           have KF := hide (HA0.out.kept.trans hk)
           clear hk))
      exact ⟨rfl, KF.out, .inr ⟨HP.out, rfl⟩⟩
    · obtain ⟨nc, hnc⟩ : ∃ nc, parseV x1.data.toList maxWord = nc := ⟨_, rfl⟩
      cases r1 with
      | nil =>
        have HP : Hid (stepP (k : Int) true false false false (tl (x1 :: [])) = some ⟨(k : Int), nc, [], 0, []⟩) := by
          show stepP _ _ _ _ _ _ = _
          simp [stepP, tailP, keepP, numP, hasP, tl, hp1, hnc]
        have C1 := hide (numOk (w0) wb x1 [] HA0.out.words ⟨hp1, hnc⟩)
        obtain ⟨c1, c2, c3, c4⟩ := HA0.out.form
        have fl0 := HA0.out.flt
        go_wp2_with (first
          | (go_at_call 52
             refine C2.out.mono ?_
             rintro e w2 ⟨rfl, hw2⟩
             rw [hw2]
             clear hw2 w2
             have a := HA1.out
             have HA2 : Hid (At W ((w1).setCell ⟨sb, 1, none⟩ (.int .i64 nc)) wb fb sb rb true false false false [] (k : Int) nc 0 (.slice none 0 0) (.slice none 0 0) [] []) := a
             obtain ⟨c1, c2, c3, c4⟩ := HA2.out.form
             have fl2 := HA2.out.flt
             clear a)
          | (go_at_call 51
             refine C1.out.mono ?_
             rintro e w1 ⟨rfl, hw, kw⟩
             have a := HA0.out.call hw kw
             obtain ⟨y0, y1, y2, y3, y4, yf⟩ := a.step.cells
             have z1 := yf 1
             have sl1 := cell_lt y0
             have HA1 : Hid (At W ((w1).setCell ⟨sb, 1, none⟩ (.int .i64 nc)) wb fb sb rb true false false false [] (k : Int) nc 0 (.slice none 0 0) (.slice none 0 0) [] []) := a.store 1 (.int .i64 nc) rfl a.data a.keep
             obtain ⟨c1, c2, c3, c4⟩ := HA1.out.form
             have fl1 := HA1.out.flt
             obtain ⟨_, _, _, b3, _, _⟩ := HA1.out.step.cells
             have q1 := y1
             clear hw kw a y0 y1 y2 y3 y4 yf
             have C2 := hide (end_yes ((w1).setCell ⟨sb, 1, none⟩ (.int .i64 nc)) wb HA1.out.words))
          | (refine wpList_load_row rfl 40 (.tmp 6) rfl sb rfl 40 (#[.int .i64 (k : Int), .int .i64 nc, (.slice none 0 0), .int .i64 0, (.slice none 0 0)]) (0, 0) _ HA2.out.step Tryd.underlying40 rfl (by kernel_rfl) ?_)
          | (refine wpList_store_row rfl 40 (.tmp 4) (.tmp 46) rfl rb (#[.int .i64 (k : Int), .int .i64 nc, (.slice none 0 0), .int .i64 0, (.slice none 0 0)]) rfl rfl 40 _ HA2.out.res (by kernel_rfl) rfl (by simp [Value.oneCell']) ?_))
        obtain ⟨g1, g2, g3, g4⟩ := HA2.out.final
        refine bodyPost_ret (results_cell_row rfl _ _ rb 40 _ (0, 0) _ rfl g1 Tryd.underlying40 rfl (by kernel_rfl)) rfl ⟨g4, .inl ⟨⟨(k : Int), nc, [], 0, []⟩, _, _, HP.out, rfl, rfl, g2, g3⟩⟩
      | cons z r =>
        have HP : Hid (stepP (k : Int) true false false false (tl (x1 :: (z :: r))) = none) := by
          show stepP _ _ _ _ _ _ = _
          simp [stepP, tailP, keepP, numP, hasP, tl, hp1, hnc]
        have C1 := hide (numOk (w0) wb x1 (z :: r) HA0.out.words ⟨hp1, hnc⟩)
        obtain ⟨c1, c2, c3, c4⟩ := HA0.out.form
        have fl0 := HA0.out.flt
        go_wp2_with (first
          | (go_at_call 52
             refine C2.out.mono ?_
             rintro e w2 ⟨rfl, rfl⟩
             have KF := hide HA1.out.kept)
          | (go_at_call 51
             refine C1.out.mono ?_
             rintro e w1 ⟨rfl, hw, kw⟩
             have a := HA0.out.call hw kw
             obtain ⟨y0, y1, y2, y3, y4, yf⟩ := a.step.cells
             have z1 := yf 1
             have sl1 := cell_lt y0
             have HA1 : Hid (At W ((w1).setCell ⟨sb, 1, none⟩ (.int .i64 nc)) wb fb sb rb true false false false (z :: r) (k : Int) nc 0 (.slice none 0 0) (.slice none 0 0) [] []) := a.store 1 (.int .i64 nc) rfl a.data a.keep
             obtain ⟨c1, c2, c3, c4⟩ := HA1.out.form
             have fl1 := HA1.out.flt
             obtain ⟨_, _, _, b3, _, _⟩ := HA1.out.step.cells
             have q1 := y1
             clear hw kw a y0 y1 y2 y3 y4 yf
             have C2 := hide (end_no ((w1).setCell ⟨sb, 1, none⟩ (.int .i64 nc)) wb (z :: r) HA1.out.words (by simp))
             unfold pan at C2))
        exact ⟨rfl, KF.out, .inr ⟨HP.out, rfl⟩⟩
end Go.Proofs.YteaccpolmmkclaaDoor

set_option linter.unusedSimpArgs false
namespace Go.Proofs.YteaccpolmmkclaaDoor
open Go.RowKit

set_option maxHeartbeats 4000000 in
set_option maxRecDepth 1000000 in
theorem step_D (W : World) (wb : Nat) (ss : List ByteArray) (k : Nat) (hk : 1 ≤ k ∧ k ≤ 7) (T : Tabs W) (h6 : 6 ≤ wb) (hf : FormAt W k false false true false) (h : WordsAt W wb ss) (hl : ss.length ≤ 1048576) (hs : ∀ x ∈ ss, x.size ≤ 1073741823) :
    Calls Tryd.prog 50 #[.pointer (some ⟨wb, 0, none⟩), .int .i64 (k : Int)] W (StepPost W wb (k : Int) false false true false (tl ss)) := by
  obtain ⟨x, f0, f1, f2, f3, f4⟩ := hf
  have hfl := T.lt.1
  have i1 : (0 : Int) ≤ (k : Int) := by omega
  have i2 : (k : Int) < 8 := by omega
  obtain ⟨w0, fb, sb, rb, hw0, hfb, hsb, hrb, hA0⟩ := at_start W wb ss k x false false true false h
  have HA0 := hide hA0
  have HT := hide (And.intro T h6)
  have g0 := ((Below.refl _ W).alloc (Nat.le_refl _) (.cells #[.int .i64 0, .int .i64 0, .slice none 0 0, .int .i64 0, .slice none 0 0] 40))
  have e0 := (g0.cell (p := ⟨0, k * 5, none⟩) hfl).trans f0
  have e1 := (g0.cell (p := ⟨0, k * 5 + 1, none⟩) hfl).trans f1
  have e2 := (g0.cell (p := ⟨0, k * 5 + 2, none⟩) hfl).trans f2
  have e3 := (g0.cell (p := ⟨0, k * 5 + 3, none⟩) hfl).trans f3
  have e4 := (g0.cell (p := ⟨0, k * 5 + 4, none⟩) hfl).trans f4
  have HW0 := hide (And.intro hw0 (And.intro hfb (And.intro hsb hrb)))
  clear h T hA0 f0 f1 f2 f3 f4 g0 hw0 hfb hsb hrb
  go_enter Tryd.func50, Tryd.ntmps50
  go_upto_region 3 with fail
  rw [HW0.out.1, HW0.out.2.1, HW0.out.2.2.1, HW0.out.2.2.2]
  clear e0 e1 e2 e3 e4
  cases ss with
  | nil =>
    have HP : Hid (stepP (k : Int) false false true false (tl []) = some ⟨(k : Int), 0, [], 0, []⟩) := by
      show stepP _ _ _ _ _ _ = _
      simp [stepP, tailP, keepP, numP, hasP, tl]
    have C1 := hide (has_no (w0) wb breakT [] HA0.out.words (fun x r e => by cases e))
    try unfold breakT at C1
    obtain ⟨c1, c2, c3, c4⟩ := HA0.out.form
    have fl0 := HA0.out.flt
    go_wp2_with (first
      | (go_at_call 52
         refine C2.out.mono ?_
         rintro e w2 ⟨rfl, hw2⟩
         rw [hw2]
         clear hw2 w2
         have a := HA1.out
         have HA2 : Hid (At W (w0) wb fb sb rb false false true false [] (k : Int) 0 0 (.slice none 0 0) (.slice none 0 0) [] []) := a
         obtain ⟨c1, c2, c3, c4⟩ := HA2.out.form
         have fl2 := HA2.out.flt
         clear a)
      | (go_at_call 62
         refine C1.out.mono ?_
         rintro e w1 ⟨rfl, hw1⟩
         rw [hw1]
         clear hw1 w1
         have a := HA0.out
         have HA1 : Hid (At W (w0) wb fb sb rb false false true false [] (k : Int) 0 0 (.slice none 0 0) (.slice none 0 0) [] []) := a
         obtain ⟨c1, c2, c3, c4⟩ := HA1.out.form
         have fl1 := HA1.out.flt
         clear a
         have C2 := hide (end_yes (w0) wb HA1.out.words))
      | (refine wpList_load_row rfl 40 (.tmp 6) rfl sb rfl 40 (#[.int .i64 (k : Int), .int .i64 0, (.slice none 0 0), .int .i64 0, (.slice none 0 0)]) (0, 0) _ HA2.out.step Tryd.underlying40 rfl (by kernel_rfl) ?_)
      | (refine wpList_store_row rfl 40 (.tmp 4) (.tmp 46) rfl rb (#[.int .i64 (k : Int), .int .i64 0, (.slice none 0 0), .int .i64 0, (.slice none 0 0)]) rfl rfl 40 _ HA2.out.res (by kernel_rfl) rfl (by simp [Value.oneCell']) ?_))
    obtain ⟨g1, g2, g3, g4⟩ := HA2.out.final
    refine bodyPost_ret (results_cell_row rfl _ _ rb 40 _ (0, 0) _ rfl g1 Tryd.underlying40 rfl (by kernel_rfl)) rfl ⟨g4, .inl ⟨⟨(k : Int), 0, [], 0, []⟩, _, _, HP.out, rfl, rfl, g2, g3⟩⟩
  | cons z r =>
    by_cases hz : z.data.toList = breakW
    · obtain rfl : z = breakT := by rcases z with ⟨⟨zl⟩⟩; simp [breakW] at hz; simp [breakT, hz]
      clear hz
      cases r with
      | nil =>
        have HP : Hid (stepP (k : Int) false false true false (tl (breakT :: [])) = none) := by
          show stepP _ _ _ _ _ _ = _
          simp [stepP, tailP, keepP, numP, hasP, tl, breakW, breakT]
        have C1 := hide (has_yes (w0) wb breakT [] HA0.out.words)
        try unfold breakT at C1
        obtain ⟨c1, c2, c3, c4⟩ := HA0.out.form
        have fl0 := HA0.out.flt
        go_wp2_with (first
          | (go_at_call 51
             refine C2.out.mono ?_
             rintro e w2 ⟨rfl, rfl⟩
             have KF := hide HA1.out.kept)
          | (go_at_call 62
             refine C1.out.mono ?_
             rintro e w1 ⟨rfl, hw, kw⟩
             have a := HA0.out.call hw kw
             have HA1 : Hid (At W (w1) wb fb sb rb false false true false [] (k : Int) 0 0 (.slice none 0 0) (.slice none 0 0) [] []) := a
             obtain ⟨c1, c2, c3, c4⟩ := HA1.out.form
             have fl1 := HA1.out.flt
             clear hw kw a
             have C2 := hide (number_none (w1) wb HA1.out.words)
             unfold pan at C2))
        exact ⟨rfl, KF.out, .inr ⟨HP.out, rfl⟩⟩
      | cons n q =>
        cases hpn : parseB n.data.toList maxWord
        · skip
          have HP : Hid (stepP (k : Int) false false true false (tl (breakT :: n :: q)) = none) := by
            show stepP _ _ _ _ _ _ = _
            simp [stepP, tailP, keepP, numP, hasP, tl, breakW, breakT, hpn]
          have C1 := hide (has_yes (w0) wb breakT (n :: q) HA0.out.words)
          try unfold breakT at C1
          obtain ⟨c1, c2, c3, c4⟩ := HA0.out.form
          have fl0 := HA0.out.flt
          go_wp2_with (first
            | (go_at_call 51
               refine C2.out.mono ?_
               rintro e w2 ⟨rfl, hk⟩
               have KF := hide (HA1.out.kept.trans hk)
               clear hk)
            | (go_at_call 62
               refine C1.out.mono ?_
               rintro e w1 ⟨rfl, hw, kw⟩
               have a := HA0.out.call hw kw
               have HA1 : Hid (At W (w1) wb fb sb rb false false true false (n :: q) (k : Int) 0 0 (.slice none 0 0) (.slice none 0 0) [] []) := a
               obtain ⟨c1, c2, c3, c4⟩ := HA1.out.form
               have fl1 := HA1.out.flt
               clear hw kw a
               have C2 := hide (numBad (w1) wb n q HA1.out.words hpn)
               unfold pan at C2))
          exact ⟨rfl, KF.out, .inr ⟨HP.out, rfl⟩⟩
        · obtain ⟨nb, hnb⟩ : ∃ nb, parseV n.data.toList maxWord = nb := ⟨_, rfl⟩
          by_cases hn0 : nb = 0
          · subst hn0
            have HP : Hid (stepP (k : Int) false false true false (tl (breakT :: n :: q)) = none) := by
              show stepP _ _ _ _ _ _ = _
              simp [stepP, tailP, keepP, numP, hasP, tl, breakW, breakT, hpn, hnb]
            have C1 := hide (has_yes (w0) wb breakT (n :: q) HA0.out.words)
            try unfold breakT at C1
            obtain ⟨c1, c2, c3, c4⟩ := HA0.out.form
            have fl0 := HA0.out.flt
            go_wp2_with (first
              | (go_at_call 51
                 refine C2.out.mono ?_
                 rintro e w2 ⟨rfl, hw, kw⟩
                 have a := HA1.out.call hw kw
                 obtain ⟨y0, y1, y2, y3, y4, yf⟩ := a.step.cells
                 have z2 := yf 3
                 have sl2 := cell_lt y0
                 have HA2 : Hid (At W ((w2).setCell ⟨sb, 3, none⟩ (.int .i64 0)) wb fb sb rb false false true false q (k : Int) 0 0 (.slice none 0 0) (.slice none 0 0) [] []) := a.store 3 (.int .i64 0) rfl a.data a.keep
                 obtain ⟨c1, c2, c3, c4⟩ := HA2.out.form
                 have fl2 := HA2.out.flt
                 obtain ⟨_, _, _, b3, _, _⟩ := HA2.out.step.cells
                 have q2 := y3
                 clear hw kw a y0 y1 y2 y3 y4 yf
                 have KF := hide HA2.out.kept)
              | (go_at_call 62
                 refine C1.out.mono ?_
                 rintro e w1 ⟨rfl, hw, kw⟩
                 have a := HA0.out.call hw kw
                 have HA1 : Hid (At W (w1) wb fb sb rb false false true false (n :: q) (k : Int) 0 0 (.slice none 0 0) (.slice none 0 0) [] []) := a
                 obtain ⟨c1, c2, c3, c4⟩ := HA1.out.form
                 have fl1 := HA1.out.flt
                 clear hw kw a
                 have C2 := hide (numOk (w1) wb n q HA1.out.words ⟨hpn, hnb⟩)))
            exact ⟨rfl, KF.out, .inr ⟨HP.out, rfl⟩⟩
          · have hnbb : (nb == 0) = false := by simpa using hn0
            cases q with
            | nil =>
              have HP : Hid (stepP (k : Int) false false true false (tl (breakT :: n :: [])) = some ⟨(k : Int), 0, [], nb, []⟩) := by
                show stepP _ _ _ _ _ _ = _
                simp [stepP, tailP, keepP, numP, hasP, tl, breakW, breakT, hpn, hnb, hn0]
              have C1 := hide (has_yes (w0) wb breakT (n :: []) HA0.out.words)
              try unfold breakT at C1
              obtain ⟨c1, c2, c3, c4⟩ := HA0.out.form
              have fl0 := HA0.out.flt
              go_wp2_with (first
                | (go_at_call 52
                   refine C4.out.mono ?_
                   rintro e w4 ⟨rfl, hw4⟩
                   rw [hw4]
                   clear hw4 w4
                   have a := HA3.out
                   have HA4 : Hid (At W (((w2).setCell ⟨sb, 3, none⟩ (.int .i64 nb)).setCell ⟨sb, 4, none⟩ (.slice none 0 0)) wb fb sb rb false false true false [] (k : Int) 0 nb (.slice none 0 0) (.slice none 0 0) [] []) := a
                   obtain ⟨c1, c2, c3, c4⟩ := HA4.out.form
                   have fl4 := HA4.out.flt
                   clear a)
                | (go_at_call 63
                   refine C3.out.mono ?_
                   rintro e w3 ⟨rfl, hw3⟩
                   rw [hw3]
                   clear hw3 w3
                   have a := HA2.out
                   obtain ⟨y0, y1, y2, y3, y4, yf⟩ := a.step.cells
                   have z3 := yf 4
                   have sl3 := cell_lt y0
                   have HA3 : Hid (At W (((w2).setCell ⟨sb, 3, none⟩ (.int .i64 nb)).setCell ⟨sb, 4, none⟩ (.slice none 0 0)) wb fb sb rb false false true false [] (k : Int) 0 nb (.slice none 0 0) (.slice none 0 0) [] []) := a.store 4 (.slice none 0 0) rfl a.data (OwnI.nil _ _)
                   obtain ⟨c1, c2, c3, c4⟩ := HA3.out.form
                   have fl3 := HA3.out.flt
                   obtain ⟨_, _, _, b3, _, _⟩ := HA3.out.step.cells
                   have q3 := y4
                   clear a y0 y1 y2 y3 y4 yf
                   have C4 := hide (end_yes (((w2).setCell ⟨sb, 3, none⟩ (.int .i64 nb)).setCell ⟨sb, 4, none⟩ (.slice none 0 0)) wb HA3.out.words))
                | (go_at_call 51
                   refine C2.out.mono ?_
                   rintro e w2 ⟨rfl, hw, kw⟩
                   have a := HA1.out.call hw kw
                   obtain ⟨y0, y1, y2, y3, y4, yf⟩ := a.step.cells
                   have z2 := yf 3
                   have sl2 := cell_lt y0
                   have HA2 : Hid (At W ((w2).setCell ⟨sb, 3, none⟩ (.int .i64 nb)) wb fb sb rb false false true false [] (k : Int) 0 nb (.slice none 0 0) (.slice none 0 0) [] []) := a.store 3 (.int .i64 nb) rfl a.data a.keep
                   obtain ⟨c1, c2, c3, c4⟩ := HA2.out.form
                   have fl2 := HA2.out.flt
                   obtain ⟨_, _, _, b3, _, _⟩ := HA2.out.step.cells
                   have q2 := y3
                   clear hw kw a y0 y1 y2 y3 y4 yf
                   have C3 := hide (keep_none ((w2).setCell ⟨sb, 3, none⟩ (.int .i64 nb)) wb [] HA2.out.words rfl))
                | (go_at_call 62
                   refine C1.out.mono ?_
                   rintro e w1 ⟨rfl, hw, kw⟩
                   have a := HA0.out.call hw kw
                   have HA1 : Hid (At W (w1) wb fb sb rb false false true false (n :: []) (k : Int) 0 0 (.slice none 0 0) (.slice none 0 0) [] []) := a
                   obtain ⟨c1, c2, c3, c4⟩ := HA1.out.form
                   have fl1 := HA1.out.flt
                   clear hw kw a
                   have C2 := hide (numOk (w1) wb n [] HA1.out.words ⟨hpn, hnb⟩))
                | (refine wpList_load_row rfl 40 (.tmp 6) rfl sb rfl 40 (#[.int .i64 (k : Int), .int .i64 0, (.slice none 0 0), .int .i64 nb, (.slice none 0 0)]) (0, 0) _ HA4.out.step Tryd.underlying40 rfl (by kernel_rfl) ?_)
                | (refine wpList_store_row rfl 40 (.tmp 4) (.tmp 46) rfl rb (#[.int .i64 (k : Int), .int .i64 0, (.slice none 0 0), .int .i64 nb, (.slice none 0 0)]) rfl rfl 40 _ HA4.out.res (by kernel_rfl) rfl (by simp [Value.oneCell']) ?_))
              obtain ⟨g1, g2, g3, g4⟩ := HA4.out.final
              refine bodyPost_ret (results_cell_row rfl _ _ rb 40 _ (0, 0) _ rfl g1 Tryd.underlying40 rfl (by kernel_rfl)) rfl ⟨g4, .inl ⟨⟨(k : Int), 0, [], nb, []⟩, _, _, HP.out, rfl, rfl, g2, g3⟩⟩
            | cons y t =>
              by_cases hy : y.data.toList = keepW
              · have hyt : y = keepT := by rcases y with ⟨⟨yl⟩⟩; simp [keepW] at hy; simp [keepT, hy]
                have HYT := hide hyt
                clear hyt
                have htl : t.length ≤ 1048576 := by simp at hl; omega
                cases hnp : numsP (tl t) with
                | none =>
                  have HP : Hid (stepP (k : Int) false false true false (tl (breakT :: n :: (y :: t))) = none) := by
                    show stepP _ _ _ _ _ _ = _
                    simp [stepP, tailP, keepP, numP, hasP, tl, breakW, breakT, hpn, hnb, hn0, hy, hnp]
                  clear hy
                  have C1 := hide (has_yes (w0) wb breakT (n :: (y :: t)) HA0.out.words)
                  try unfold breakT at C1
                  obtain ⟨c1, c2, c3, c4⟩ := HA0.out.form
                  have fl0 := HA0.out.flt
                  go_wp2_with (first
                    | (go_at_call 63
                       refine C3.out.mono ?_
                       rintro e w3 ⟨rfl, hk⟩
                       have KF := hide (HA2.out.kept.trans hk)
                       clear hk)
                    | (go_at_call 51
                       refine C2.out.mono ?_
                       rintro e w2 ⟨rfl, hw, kw⟩
                       have a := HA1.out.call hw kw
                       obtain ⟨y0, y1, y2, y3, y4, yf⟩ := a.step.cells
                       have z2 := yf 3
                       have sl2 := cell_lt y0
                       have HA2 : Hid (At W ((w2).setCell ⟨sb, 3, none⟩ (.int .i64 nb)) wb fb sb rb false false true false (y :: t) (k : Int) 0 nb (.slice none 0 0) (.slice none 0 0) [] []) := a.store 3 (.int .i64 nb) rfl a.data a.keep
                       obtain ⟨c1, c2, c3, c4⟩ := HA2.out.form
                       have fl2 := HA2.out.flt
                       obtain ⟨_, _, _, b3, _, _⟩ := HA2.out.step.cells
                       have q2 := y3
                       clear hw kw a y0 y1 y2 y3 y4 yf
                       have C3 := hide (keepBad ((w2).setCell ⟨sb, 3, none⟩ (.int .i64 nb)) wb y t HA2.out.words HYT.out htl (fun l e => by rw [hnp] at e; cases e))
                       unfold pan at C3)
                    | (go_at_call 62
                       refine C1.out.mono ?_
                       rintro e w1 ⟨rfl, hw, kw⟩
                       have a := HA0.out.call hw kw
                       have HA1 : Hid (At W (w1) wb fb sb rb false false true false (n :: (y :: t)) (k : Int) 0 0 (.slice none 0 0) (.slice none 0 0) [] []) := a
                       obtain ⟨c1, c2, c3, c4⟩ := HA1.out.form
                       have fl1 := HA1.out.flt
                       clear hw kw a
                       have C2 := hide (numOk (w1) wb n (y :: t) HA1.out.words ⟨hpn, hnb⟩)))
                  exact ⟨rfl, KF.out, .inr ⟨HP.out, rfl⟩⟩
                | some l =>
                  by_cases hl0 : l = []
                  · subst hl0
                    have HP : Hid (stepP (k : Int) false false true false (tl (breakT :: n :: (y :: t))) = none) := by
                      show stepP _ _ _ _ _ _ = _
                      simp [stepP, tailP, keepP, numP, hasP, tl, breakW, breakT, hpn, hnb, hn0, hy, hnp]
                    clear hy
                    have C1 := hide (has_yes (w0) wb breakT (n :: (y :: t)) HA0.out.words)
                    try unfold breakT at C1
                    obtain ⟨c1, c2, c3, c4⟩ := HA0.out.form
                    have fl0 := HA0.out.flt
                    go_wp2_with (first
                      | (go_at_call 63
                         refine C3.out.mono ?_
                         rintro e w3 ⟨rfl, hk⟩
                         have KF := hide (HA2.out.kept.trans hk)
                         clear hk)
                      | (go_at_call 51
                         refine C2.out.mono ?_
                         rintro e w2 ⟨rfl, hw, kw⟩
                         have a := HA1.out.call hw kw
                         obtain ⟨y0, y1, y2, y3, y4, yf⟩ := a.step.cells
                         have z2 := yf 3
                         have sl2 := cell_lt y0
                         have HA2 : Hid (At W ((w2).setCell ⟨sb, 3, none⟩ (.int .i64 nb)) wb fb sb rb false false true false (y :: t) (k : Int) 0 nb (.slice none 0 0) (.slice none 0 0) [] []) := a.store 3 (.int .i64 nb) rfl a.data a.keep
                         obtain ⟨c1, c2, c3, c4⟩ := HA2.out.form
                         have fl2 := HA2.out.flt
                         obtain ⟨_, _, _, b3, _, _⟩ := HA2.out.step.cells
                         have q2 := y3
                         clear hw kw a y0 y1 y2 y3 y4 yf
                         have C3 := hide (keepBad ((w2).setCell ⟨sb, 3, none⟩ (.int .i64 nb)) wb y t HA2.out.words HYT.out htl (fun l e => by rw [hnp] at e; cases e; rfl))
                         unfold pan at C3)
                      | (go_at_call 62
                         refine C1.out.mono ?_
                         rintro e w1 ⟨rfl, hw, kw⟩
                         have a := HA0.out.call hw kw
                         have HA1 : Hid (At W (w1) wb fb sb rb false false true false (n :: (y :: t)) (k : Int) 0 0 (.slice none 0 0) (.slice none 0 0) [] []) := a
                         obtain ⟨c1, c2, c3, c4⟩ := HA1.out.form
                         have fl1 := HA1.out.flt
                         clear hw kw a
                         have C2 := hide (numOk (w1) wb n (y :: t) HA1.out.words ⟨hpn, hnb⟩)))
                    exact ⟨rfl, KF.out, .inr ⟨HP.out, rfl⟩⟩
                  · obtain ⟨l0, lr, hlr⟩ : ∃ a b, l = a :: b := by cases l with | nil => exact absurd rfl hl0 | cons a b => exact ⟨a, b, rfl⟩
                    have HP : Hid (stepP (k : Int) false false true false (tl (breakT :: n :: (y :: t))) = some ⟨(k : Int), 0, [], nb, l⟩) := by
                      show stepP _ _ _ _ _ _ = _
                      simp [stepP, tailP, keepP, numP, hasP, tl, breakW, breakT, hpn, hnb, hn0, hy, hnp, hlr]
                    clear hlr l0 lr
                    clear hy
                    have C1 := hide (has_yes (w0) wb breakT (n :: (y :: t)) HA0.out.words)
                    try unfold breakT at C1
                    obtain ⟨c1, c2, c3, c4⟩ := HA0.out.form
                    have fl0 := HA0.out.flt
                    go_wp2_with (first
                      | (go_at_call 52
                         refine C4.out.mono ?_
                         rintro e w4 ⟨rfl, hw4⟩
                         rw [hw4]
                         clear hw4 w4
                         have a := HA3.out
                         have HA4 : Hid (At W ((w3).setCell ⟨sb, 4, none⟩ (.slice va3 l.length ca3)) wb fb sb rb false false true false [] (k : Int) 0 nb (.slice none 0 0) (.slice va3 l.length ca3) [] l) := a
                         obtain ⟨c1, c2, c3, c4⟩ := HA4.out.form
                         have fl4 := HA4.out.flt
                         clear a)
                      | (go_at_call 63
                         refine C3.out.mono ?_
                         rintro e w3 ⟨va3, ca3, rfl, ho, hw, kw⟩
                         have a := HA2.out.call hw kw
                         obtain ⟨y0, y1, y2, y3, y4, yf⟩ := a.step.cells
                         have z3 := yf 4
                         have sl3 := cell_lt y0
                         have HA3 : Hid (At W ((w3).setCell ⟨sb, 4, none⟩ (.slice va3 l.length ca3)) wb fb sb rb false false true false [] (k : Int) 0 nb (.slice none 0 0) (.slice va3 l.length ca3) [] l) := a.store 4 (.slice va3 l.length ca3) rfl a.data (ho.mono (HA2.out.kept.size))
                         obtain ⟨c1, c2, c3, c4⟩ := HA3.out.form
                         have fl3 := HA3.out.flt
                         obtain ⟨_, _, _, b3, _, _⟩ := HA3.out.step.cells
                         have q3 := y4
                         clear hw kw a ho y0 y1 y2 y3 y4 yf
                         have C4 := hide (end_yes ((w3).setCell ⟨sb, 4, none⟩ (.slice va3 l.length ca3)) wb HA3.out.words))
                      | (go_at_call 51
                         refine C2.out.mono ?_
                         rintro e w2 ⟨rfl, hw, kw⟩
                         have a := HA1.out.call hw kw
                         obtain ⟨y0, y1, y2, y3, y4, yf⟩ := a.step.cells
                         have z2 := yf 3
                         have sl2 := cell_lt y0
                         have HA2 : Hid (At W ((w2).setCell ⟨sb, 3, none⟩ (.int .i64 nb)) wb fb sb rb false false true false (y :: t) (k : Int) 0 nb (.slice none 0 0) (.slice none 0 0) [] []) := a.store 3 (.int .i64 nb) rfl a.data a.keep
                         obtain ⟨c1, c2, c3, c4⟩ := HA2.out.form
                         have fl2 := HA2.out.flt
                         obtain ⟨_, _, _, b3, _, _⟩ := HA2.out.step.cells
                         have q2 := y3
                         clear hw kw a y0 y1 y2 y3 y4 yf
                         have C3 := hide (keepOk ((w2).setCell ⟨sb, 3, none⟩ (.int .i64 nb)) wb y t HA2.out.words HYT.out htl hnp hl0))
                      | (go_at_call 62
                         refine C1.out.mono ?_
                         rintro e w1 ⟨rfl, hw, kw⟩
                         have a := HA0.out.call hw kw
                         have HA1 : Hid (At W (w1) wb fb sb rb false false true false (n :: (y :: t)) (k : Int) 0 0 (.slice none 0 0) (.slice none 0 0) [] []) := a
                         obtain ⟨c1, c2, c3, c4⟩ := HA1.out.form
                         have fl1 := HA1.out.flt
                         clear hw kw a
                         have C2 := hide (numOk (w1) wb n (y :: t) HA1.out.words ⟨hpn, hnb⟩))
                      | (refine wpList_load_row rfl 40 (.tmp 6) rfl sb rfl 40 (#[.int .i64 (k : Int), .int .i64 0, (.slice none 0 0), .int .i64 nb, (.slice va3 l.length ca3)]) (0, 0) _ HA4.out.step Tryd.underlying40 rfl (by kernel_rfl) ?_)
                      | (refine wpList_store_row rfl 40 (.tmp 4) (.tmp 46) rfl rb (#[.int .i64 (k : Int), .int .i64 0, (.slice none 0 0), .int .i64 nb, (.slice va3 l.length ca3)]) rfl rfl 40 _ HA4.out.res (by kernel_rfl) rfl (by simp [Value.oneCell']) ?_))
                    obtain ⟨g1, g2, g3, g4⟩ := HA4.out.final
                    refine bodyPost_ret (results_cell_row rfl _ _ rb 40 _ (0, 0) _ rfl g1 Tryd.underlying40 rfl (by kernel_rfl)) rfl ⟨g4, .inl ⟨⟨(k : Int), 0, [], nb, l⟩, _, _, HP.out, rfl, rfl, g2, g3⟩⟩
              · skip
                have HP : Hid (stepP (k : Int) false false true false (tl (breakT :: n :: (y :: t))) = none) := by
                  show stepP _ _ _ _ _ _ = _
                  simp [stepP, tailP, keepP, numP, hasP, tl, breakW, breakT, hpn, hnb, hn0, hy]
                have C1 := hide (has_yes (w0) wb breakT (n :: (y :: t)) HA0.out.words)
                try unfold breakT at C1
                obtain ⟨c1, c2, c3, c4⟩ := HA0.out.form
                have fl0 := HA0.out.flt
                go_wp2_with (first
                  | (go_at_call 52
                     refine C4.out.mono ?_
                     rintro e w4 ⟨rfl, rfl⟩
                     have KF := hide HA3.out.kept)
                  | (go_at_call 63
                     refine C3.out.mono ?_
                     rintro e w3 ⟨rfl, hw3⟩
                     rw [hw3]
                     clear hw3 w3
                     have a := HA2.out
                     obtain ⟨y0, y1, y2, y3, y4, yf⟩ := a.step.cells
                     have z3 := yf 4
                     have sl3 := cell_lt y0
                     have HA3 : Hid (At W (((w2).setCell ⟨sb, 3, none⟩ (.int .i64 nb)).setCell ⟨sb, 4, none⟩ (.slice none 0 0)) wb fb sb rb false false true false (y :: t) (k : Int) 0 nb (.slice none 0 0) (.slice none 0 0) [] []) := a.store 4 (.slice none 0 0) rfl a.data (OwnI.nil _ _)
                     obtain ⟨c1, c2, c3, c4⟩ := HA3.out.form
                     have fl3 := HA3.out.flt
                     obtain ⟨_, _, _, b3, _, _⟩ := HA3.out.step.cells
                     have q3 := y4
                     clear a y0 y1 y2 y3 y4 yf
                     have C4 := hide (end_no (((w2).setCell ⟨sb, 3, none⟩ (.int .i64 nb)).setCell ⟨sb, 4, none⟩ (.slice none 0 0)) wb (y :: t) HA3.out.words (by simp))
                     unfold pan at C4)
                  | (go_at_call 51
                     refine C2.out.mono ?_
                     rintro e w2 ⟨rfl, hw, kw⟩
                     have a := HA1.out.call hw kw
                     obtain ⟨y0, y1, y2, y3, y4, yf⟩ := a.step.cells
                     have z2 := yf 3
                     have sl2 := cell_lt y0
                     have HA2 : Hid (At W ((w2).setCell ⟨sb, 3, none⟩ (.int .i64 nb)) wb fb sb rb false false true false (y :: t) (k : Int) 0 nb (.slice none 0 0) (.slice none 0 0) [] []) := a.store 3 (.int .i64 nb) rfl a.data a.keep
                     obtain ⟨c1, c2, c3, c4⟩ := HA2.out.form
                     have fl2 := HA2.out.flt
                     obtain ⟨_, _, _, b3, _, _⟩ := HA2.out.step.cells
                     have q2 := y3
                     clear hw kw a y0 y1 y2 y3 y4 yf
                     have C3 := hide (keep_none ((w2).setCell ⟨sb, 3, none⟩ (.int .i64 nb)) wb (y :: t) HA2.out.words (by simp [hasP, tl, hy])))
                  | (go_at_call 62
                     refine C1.out.mono ?_
                     rintro e w1 ⟨rfl, hw, kw⟩
                     have a := HA0.out.call hw kw
                     have HA1 : Hid (At W (w1) wb fb sb rb false false true false (n :: (y :: t)) (k : Int) 0 0 (.slice none 0 0) (.slice none 0 0) [] []) := a
                     obtain ⟨c1, c2, c3, c4⟩ := HA1.out.form
                     have fl1 := HA1.out.flt
                     clear hw kw a
                     have C2 := hide (numOk (w1) wb n (y :: t) HA1.out.words ⟨hpn, hnb⟩)))
                exact ⟨rfl, KF.out, .inr ⟨HP.out, rfl⟩⟩
    · skip
      have HP : Hid (stepP (k : Int) false false true false (tl (z :: r)) = none) := by
        show stepP _ _ _ _ _ _ = _
        simp [stepP, tailP, keepP, numP, hasP, tl, hz]
      have C1 := hide (has_no (w0) wb breakT (z :: r) HA0.out.words (fun x r e => by cases e; exact hz))
      try unfold breakT at C1
      obtain ⟨c1, c2, c3, c4⟩ := HA0.out.form
      have fl0 := HA0.out.flt
      go_wp2_with (first
        | (go_at_call 52
           refine C2.out.mono ?_
           rintro e w2 ⟨rfl, rfl⟩
           have KF := hide HA1.out.kept)
        | (go_at_call 62
           refine C1.out.mono ?_
           rintro e w1 ⟨rfl, hw1⟩
           rw [hw1]
           clear hw1 w1
           have a := HA0.out
           have HA1 : Hid (At W (w0) wb fb sb rb false false true false (z :: r) (k : Int) 0 0 (.slice none 0 0) (.slice none 0 0) [] []) := a
           obtain ⟨c1, c2, c3, c4⟩ := HA1.out.form
           have fl1 := HA1.out.flt
           clear a
           have C2 := hide (end_no (w0) wb (z :: r) HA1.out.words (by simp))
           unfold pan at C2))
      exact ⟨rfl, KF.out, .inr ⟨HP.out, rfl⟩⟩
end Go.Proofs.YteaccpolmmkclaaDoor

set_option linter.unusedSimpArgs false
namespace Go.Proofs.YteaccpolmmkclaaDoor
open Go.RowKit

set_option maxHeartbeats 4000000 in
set_option maxRecDepth 1000000 in
theorem step_E (W : World) (wb : Nat) (ss : List ByteArray) (k : Nat) (hk : 1 ≤ k ∧ k ≤ 7) (T : Tabs W) (h6 : 6 ≤ wb) (hf : FormAt W k false false false false) (h : WordsAt W wb ss) (hl : ss.length ≤ 1048576) (hs : ∀ x ∈ ss, x.size ≤ 1073741823) :
    Calls Tryd.prog 50 #[.pointer (some ⟨wb, 0, none⟩), .int .i64 (k : Int)] W (StepPost W wb (k : Int) false false false false (tl ss)) := by
  obtain ⟨x, f0, f1, f2, f3, f4⟩ := hf
  have hfl := T.lt.1
  have i1 : (0 : Int) ≤ (k : Int) := by omega
  have i2 : (k : Int) < 8 := by omega
  obtain ⟨w0, fb, sb, rb, hw0, hfb, hsb, hrb, hA0⟩ := at_start W wb ss k x false false false false h
  have HA0 := hide hA0
  have HT := hide (And.intro T h6)
  have g0 := ((Below.refl _ W).alloc (Nat.le_refl _) (.cells #[.int .i64 0, .int .i64 0, .slice none 0 0, .int .i64 0, .slice none 0 0] 40))
  have e0 := (g0.cell (p := ⟨0, k * 5, none⟩) hfl).trans f0
  have e1 := (g0.cell (p := ⟨0, k * 5 + 1, none⟩) hfl).trans f1
  have e2 := (g0.cell (p := ⟨0, k * 5 + 2, none⟩) hfl).trans f2
  have e3 := (g0.cell (p := ⟨0, k * 5 + 3, none⟩) hfl).trans f3
  have e4 := (g0.cell (p := ⟨0, k * 5 + 4, none⟩) hfl).trans f4
  have HW0 := hide (And.intro hw0 (And.intro hfb (And.intro hsb hrb)))
  clear h T hA0 f0 f1 f2 f3 f4 g0 hw0 hfb hsb hrb
  go_enter Tryd.func50, Tryd.ntmps50
  go_upto_region 3 with fail
  rw [HW0.out.1, HW0.out.2.1, HW0.out.2.2.1, HW0.out.2.2.2]
  clear e0 e1 e2 e3 e4
  cases ss with
  | nil =>
    have HP : Hid (stepP (k : Int) false false false false (tl []) = some ⟨(k : Int), 0, [], 0, []⟩) := by
      show stepP _ _ _ _ _ _ = _
      simp [stepP, tailP, keepP, numP, hasP, tl]
    have C1 := hide (end_yes (w0) wb HA0.out.words)
    obtain ⟨c1, c2, c3, c4⟩ := HA0.out.form
    have fl0 := HA0.out.flt
    go_wp2_with (first
      | (go_at_call 52
         refine C1.out.mono ?_
         rintro e w1 ⟨rfl, hw1⟩
         rw [hw1]
         clear hw1 w1
         have a := HA0.out
         have HA1 : Hid (At W (w0) wb fb sb rb false false false false [] (k : Int) 0 0 (.slice none 0 0) (.slice none 0 0) [] []) := a
         obtain ⟨c1, c2, c3, c4⟩ := HA1.out.form
         have fl1 := HA1.out.flt
         clear a)
      | (refine wpList_load_row rfl 40 (.tmp 6) rfl sb rfl 40 (#[.int .i64 (k : Int), .int .i64 0, (.slice none 0 0), .int .i64 0, (.slice none 0 0)]) (0, 0) _ HA1.out.step Tryd.underlying40 rfl (by kernel_rfl) ?_)
      | (refine wpList_store_row rfl 40 (.tmp 4) (.tmp 46) rfl rb (#[.int .i64 (k : Int), .int .i64 0, (.slice none 0 0), .int .i64 0, (.slice none 0 0)]) rfl rfl 40 _ HA1.out.res (by kernel_rfl) rfl (by simp [Value.oneCell']) ?_))
    obtain ⟨g1, g2, g3, g4⟩ := HA1.out.final
    refine bodyPost_ret (results_cell_row rfl _ _ rb 40 _ (0, 0) _ rfl g1 Tryd.underlying40 rfl (by kernel_rfl)) rfl ⟨g4, .inl ⟨⟨(k : Int), 0, [], 0, []⟩, _, _, HP.out, rfl, rfl, g2, g3⟩⟩
  | cons z r =>
    have HP : Hid (stepP (k : Int) false false false false (tl (z :: r)) = none) := by
      show stepP _ _ _ _ _ _ = _
      simp [stepP, tailP, keepP, numP, hasP, tl]
    have C1 := hide (end_no (w0) wb (z :: r) HA0.out.words (by simp))
    unfold pan at C1
    obtain ⟨c1, c2, c3, c4⟩ := HA0.out.form
    have fl0 := HA0.out.flt
    go_wp2_with (first
      | (go_at_call 52
         refine C1.out.mono ?_
         rintro e w1 ⟨rfl, rfl⟩
         have KF := hide HA0.out.kept))
    exact ⟨rfl, KF.out, .inr ⟨HP.out, rfl⟩⟩
end Go.Proofs.YteaccpolmmkclaaDoor

set_option linter.unusedSimpArgs false
namespace Go.Proofs.YteaccpolmmkclaaDoor
open Go.RowKit

set_option maxHeartbeats 4000000 in
set_option maxRecDepth 1000000 in
theorem step_G (W : World) (wb : Nat) (ss : List ByteArray) (k : Nat) (hk : 1 ≤ k ∧ k ≤ 7) (T : Tabs W) (h6 : 6 ≤ wb) (hf : FormAt W k false false false true) (h : WordsAt W wb ss) (hl : ss.length ≤ 1048576) (hs : ∀ x ∈ ss, x.size ≤ 1073741823) :
    Calls Tryd.prog 50 #[.pointer (some ⟨wb, 0, none⟩), .int .i64 (k : Int)] W (StepPost W wb (k : Int) false false false true (tl ss)) := by
  obtain ⟨x, f0, f1, f2, f3, f4⟩ := hf
  have hfl := T.lt.1
  have i1 : (0 : Int) ≤ (k : Int) := by omega
  have i2 : (k : Int) < 8 := by omega
  obtain ⟨w0, fb, sb, rb, hw0, hfb, hsb, hrb, hA0⟩ := at_start W wb ss k x false false false true h
  have HA0 := hide hA0
  have HT := hide (And.intro T h6)
  have g0 := ((Below.refl _ W).alloc (Nat.le_refl _) (.cells #[.int .i64 0, .int .i64 0, .slice none 0 0, .int .i64 0, .slice none 0 0] 40))
  have e0 := (g0.cell (p := ⟨0, k * 5, none⟩) hfl).trans f0
  have e1 := (g0.cell (p := ⟨0, k * 5 + 1, none⟩) hfl).trans f1
  have e2 := (g0.cell (p := ⟨0, k * 5 + 2, none⟩) hfl).trans f2
  have e3 := (g0.cell (p := ⟨0, k * 5 + 3, none⟩) hfl).trans f3
  have e4 := (g0.cell (p := ⟨0, k * 5 + 4, none⟩) hfl).trans f4
  have HW0 := hide (And.intro hw0 (And.intro hfb (And.intro hsb hrb)))
  clear h T hA0 f0 f1 f2 f3 f4 g0 hw0 hfb hsb hrb
  go_enter Tryd.func50, Tryd.ntmps50
  go_upto_region 3 with fail
  rw [HW0.out.1, HW0.out.2.1, HW0.out.2.2.1, HW0.out.2.2.2]
  clear e0 e1 e2 e3 e4
  cases ss with
  | nil =>
    have HP : Hid (stepP (k : Int) false false false true (tl []) = some ⟨(k : Int), 0, [], 0, []⟩) := by
      show stepP _ _ _ _ _ _ = _
      simp [stepP, tailP, keepP, numP, hasP, tl]
    have C1 := hide (keep_none (w0) wb [] HA0.out.words rfl)
    obtain ⟨c1, c2, c3, c4⟩ := HA0.out.form
    have fl0 := HA0.out.flt
    go_wp2_with (first
      | (go_at_call 52
         refine C2.out.mono ?_
         rintro e w2 ⟨rfl, hw2⟩
         rw [hw2]
         clear hw2 w2
         have a := HA1.out
         have HA2 : Hid (At W ((w0).setCell ⟨sb, 4, none⟩ (.slice none 0 0)) wb fb sb rb false false false true [] (k : Int) 0 0 (.slice none 0 0) (.slice none 0 0) [] []) := a
         obtain ⟨c1, c2, c3, c4⟩ := HA2.out.form
         have fl2 := HA2.out.flt
         clear a)
      | (go_at_call 63
         refine C1.out.mono ?_
         rintro e w1 ⟨rfl, hw1⟩
         rw [hw1]
         clear hw1 w1
         have a := HA0.out
         obtain ⟨y0, y1, y2, y3, y4, yf⟩ := a.step.cells
         have z1 := yf 4
         have sl1 := cell_lt y0
         have HA1 : Hid (At W ((w0).setCell ⟨sb, 4, none⟩ (.slice none 0 0)) wb fb sb rb false false false true [] (k : Int) 0 0 (.slice none 0 0) (.slice none 0 0) [] []) := a.store 4 (.slice none 0 0) rfl a.data (OwnI.nil _ _)
         obtain ⟨c1, c2, c3, c4⟩ := HA1.out.form
         have fl1 := HA1.out.flt
         obtain ⟨_, _, _, b3, _, _⟩ := HA1.out.step.cells
         have q1 := y4
         clear a y0 y1 y2 y3 y4 yf
         have C2 := hide (end_yes ((w0).setCell ⟨sb, 4, none⟩ (.slice none 0 0)) wb HA1.out.words))
      | (refine wpList_load_row rfl 40 (.tmp 6) rfl sb rfl 40 (#[.int .i64 (k : Int), .int .i64 0, (.slice none 0 0), .int .i64 0, (.slice none 0 0)]) (0, 0) _ HA2.out.step Tryd.underlying40 rfl (by kernel_rfl) ?_)
      | (refine wpList_store_row rfl 40 (.tmp 4) (.tmp 46) rfl rb (#[.int .i64 (k : Int), .int .i64 0, (.slice none 0 0), .int .i64 0, (.slice none 0 0)]) rfl rfl 40 _ HA2.out.res (by kernel_rfl) rfl (by simp [Value.oneCell']) ?_))
    obtain ⟨g1, g2, g3, g4⟩ := HA2.out.final
    refine bodyPost_ret (results_cell_row rfl _ _ rb 40 _ (0, 0) _ rfl g1 Tryd.underlying40 rfl (by kernel_rfl)) rfl ⟨g4, .inl ⟨⟨(k : Int), 0, [], 0, []⟩, _, _, HP.out, rfl, rfl, g2, g3⟩⟩
  | cons y t =>
    by_cases hy : y.data.toList = keepW
    · have hyt : y = keepT := by rcases y with ⟨⟨yl⟩⟩; simp [keepW] at hy; simp [keepT, hy]
      have HYT := hide hyt
      clear hyt
      have htl : t.length ≤ 1048576 := by simp at hl; omega
      cases hnp : numsP (tl t) with
      | none =>
        have HP : Hid (stepP (k : Int) false false false true (tl (y :: t)) = none) := by
          show stepP _ _ _ _ _ _ = _
          simp [stepP, tailP, keepP, numP, hasP, tl, hy, hnp]
        clear hy
        have C1 := hide (keepBad (w0) wb y t HA0.out.words HYT.out htl (fun l e => by rw [hnp] at e; cases e))
        unfold pan at C1
        obtain ⟨c1, c2, c3, c4⟩ := HA0.out.form
        have fl0 := HA0.out.flt
        go_wp2_with (first
          | (go_at_call 63
             refine C1.out.mono ?_
             rintro e w1 ⟨rfl, hk⟩
             have KF := hide (HA0.out.kept.trans hk)
             clear hk))
        exact ⟨rfl, KF.out, .inr ⟨HP.out, rfl⟩⟩
      | some l =>
        by_cases hl0 : l = []
        · subst hl0
          have HP : Hid (stepP (k : Int) false false false true (tl (y :: t)) = none) := by
            show stepP _ _ _ _ _ _ = _
            simp [stepP, tailP, keepP, numP, hasP, tl, hy, hnp]
          clear hy
          have C1 := hide (keepBad (w0) wb y t HA0.out.words HYT.out htl (fun l e => by rw [hnp] at e; cases e; rfl))
          unfold pan at C1
          obtain ⟨c1, c2, c3, c4⟩ := HA0.out.form
          have fl0 := HA0.out.flt
          go_wp2_with (first
            | (go_at_call 63
               refine C1.out.mono ?_
               rintro e w1 ⟨rfl, hk⟩
               have KF := hide (HA0.out.kept.trans hk)
               clear hk))
          exact ⟨rfl, KF.out, .inr ⟨HP.out, rfl⟩⟩
        · obtain ⟨l0, lr, hlr⟩ : ∃ a b, l = a :: b := by cases l with | nil => exact absurd rfl hl0 | cons a b => exact ⟨a, b, rfl⟩
          have HP : Hid (stepP (k : Int) false false false true (tl (y :: t)) = some ⟨(k : Int), 0, [], 0, l⟩) := by
            show stepP _ _ _ _ _ _ = _
            simp [stepP, tailP, keepP, numP, hasP, tl, hy, hnp, hlr]
          clear hlr l0 lr
          clear hy
          have C1 := hide (keepOk (w0) wb y t HA0.out.words HYT.out htl hnp hl0)
          obtain ⟨c1, c2, c3, c4⟩ := HA0.out.form
          have fl0 := HA0.out.flt
          go_wp2_with (first
            | (go_at_call 52
               refine C2.out.mono ?_
               rintro e w2 ⟨rfl, hw2⟩
               rw [hw2]
               clear hw2 w2
               have a := HA1.out
               have HA2 : Hid (At W ((w1).setCell ⟨sb, 4, none⟩ (.slice va1 l.length ca1)) wb fb sb rb false false false true [] (k : Int) 0 0 (.slice none 0 0) (.slice va1 l.length ca1) [] l) := a
               obtain ⟨c1, c2, c3, c4⟩ := HA2.out.form
               have fl2 := HA2.out.flt
               clear a)
            | (go_at_call 63
               refine C1.out.mono ?_
               rintro e w1 ⟨va1, ca1, rfl, ho, hw, kw⟩
               have a := HA0.out.call hw kw
               obtain ⟨y0, y1, y2, y3, y4, yf⟩ := a.step.cells
               have z1 := yf 4
               have sl1 := cell_lt y0
               have HA1 : Hid (At W ((w1).setCell ⟨sb, 4, none⟩ (.slice va1 l.length ca1)) wb fb sb rb false false false true [] (k : Int) 0 0 (.slice none 0 0) (.slice va1 l.length ca1) [] l) := a.store 4 (.slice va1 l.length ca1) rfl a.data (ho.mono (HA0.out.kept.size))
               obtain ⟨c1, c2, c3, c4⟩ := HA1.out.form
               have fl1 := HA1.out.flt
               obtain ⟨_, _, _, b3, _, _⟩ := HA1.out.step.cells
               have q1 := y4
               clear hw kw a ho y0 y1 y2 y3 y4 yf
               have C2 := hide (end_yes ((w1).setCell ⟨sb, 4, none⟩ (.slice va1 l.length ca1)) wb HA1.out.words))
            | (refine wpList_load_row rfl 40 (.tmp 6) rfl sb rfl 40 (#[.int .i64 (k : Int), .int .i64 0, (.slice none 0 0), .int .i64 0, (.slice va1 l.length ca1)]) (0, 0) _ HA2.out.step Tryd.underlying40 rfl (by kernel_rfl) ?_)
            | (refine wpList_store_row rfl 40 (.tmp 4) (.tmp 46) rfl rb (#[.int .i64 (k : Int), .int .i64 0, (.slice none 0 0), .int .i64 0, (.slice va1 l.length ca1)]) rfl rfl 40 _ HA2.out.res (by kernel_rfl) rfl (by simp [Value.oneCell']) ?_))
          obtain ⟨g1, g2, g3, g4⟩ := HA2.out.final
          refine bodyPost_ret (results_cell_row rfl _ _ rb 40 _ (0, 0) _ rfl g1 Tryd.underlying40 rfl (by kernel_rfl)) rfl ⟨g4, .inl ⟨⟨(k : Int), 0, [], 0, l⟩, _, _, HP.out, rfl, rfl, g2, g3⟩⟩
    · skip
      have HP : Hid (stepP (k : Int) false false false true (tl (y :: t)) = none) := by
        show stepP _ _ _ _ _ _ = _
        simp [stepP, tailP, keepP, numP, hasP, tl, hy]
      have C1 := hide (keep_none (w0) wb (y :: t) HA0.out.words (by simp [hasP, tl, hy]))
      obtain ⟨c1, c2, c3, c4⟩ := HA0.out.form
      have fl0 := HA0.out.flt
      go_wp2_with (first
        | (go_at_call 52
           refine C2.out.mono ?_
           rintro e w2 ⟨rfl, rfl⟩
           have KF := hide HA1.out.kept)
        | (go_at_call 63
           refine C1.out.mono ?_
           rintro e w1 ⟨rfl, hw1⟩
           rw [hw1]
           clear hw1 w1
           have a := HA0.out
           obtain ⟨y0, y1, y2, y3, y4, yf⟩ := a.step.cells
           have z1 := yf 4
           have sl1 := cell_lt y0
           have HA1 : Hid (At W ((w0).setCell ⟨sb, 4, none⟩ (.slice none 0 0)) wb fb sb rb false false false true (y :: t) (k : Int) 0 0 (.slice none 0 0) (.slice none 0 0) [] []) := a.store 4 (.slice none 0 0) rfl a.data (OwnI.nil _ _)
           obtain ⟨c1, c2, c3, c4⟩ := HA1.out.form
           have fl1 := HA1.out.flt
           obtain ⟨_, _, _, b3, _, _⟩ := HA1.out.step.cells
           have q1 := y4
           clear a y0 y1 y2 y3 y4 yf
           have C2 := hide (end_no ((w0).setCell ⟨sb, 4, none⟩ (.slice none 0 0)) wb (y :: t) HA1.out.words (by simp))
           unfold pan at C2))
      exact ⟨rfl, KF.out, .inr ⟨HP.out, rfl⟩⟩
end Go.Proofs.YteaccpolmmkclaaDoor

set_option linter.unusedSimpArgs false
namespace Go.Proofs.YteaccpolmmkclaaDoor
open Go.RowKit

set_option maxHeartbeats 4000000 in
set_option maxRecDepth 1000000 in
theorem step_B (W : World) (wb : Nat) (ss : List ByteArray) (k : Nat) (hk : 1 ≤ k ∧ k ≤ 7) (T : Tabs W) (h6 : 6 ≤ wb) (hf : FormAt W k true true true false) (h : WordsAt W wb ss) (hl : ss.length ≤ 1048576) (hs : ∀ x ∈ ss, x.size ≤ 1073741823) :
    Calls Tryd.prog 50 #[.pointer (some ⟨wb, 0, none⟩), .int .i64 (k : Int)] W (StepPost W wb (k : Int) true true true false (tl ss)) := by
  obtain ⟨x, f0, f1, f2, f3, f4⟩ := hf
  have hfl := T.lt.1
  have i1 : (0 : Int) ≤ (k : Int) := by omega
  have i2 : (k : Int) < 8 := by omega
  obtain ⟨w0, fb, sb, rb, hw0, hfb, hsb, hrb, hA0⟩ := at_start W wb ss k x true true true false h
  have HA0 := hide hA0
  have HT := hide (And.intro T h6)
  have g0 := ((Below.refl _ W).alloc (Nat.le_refl _) (.cells #[.int .i64 0, .int .i64 0, .slice none 0 0, .int .i64 0, .slice none 0 0] 40))
  have e0 := (g0.cell (p := ⟨0, k * 5, none⟩) hfl).trans f0
  have e1 := (g0.cell (p := ⟨0, k * 5 + 1, none⟩) hfl).trans f1
  have e2 := (g0.cell (p := ⟨0, k * 5 + 2, none⟩) hfl).trans f2
  have e3 := (g0.cell (p := ⟨0, k * 5 + 3, none⟩) hfl).trans f3
  have e4 := (g0.cell (p := ⟨0, k * 5 + 4, none⟩) hfl).trans f4
  have HW0 := hide (And.intro hw0 (And.intro hfb (And.intro hsb hrb)))
  clear h T hA0 f0 f1 f2 f3 f4 g0 hw0 hfb hsb hrb
  go_enter Tryd.func50, Tryd.ntmps50
  go_upto_region 3 with fail
  rw [HW0.out.1, HW0.out.2.1, HW0.out.2.2.1, HW0.out.2.2.2]
  clear e0 e1 e2 e3 e4
  cases ss with
  | nil =>
    have HP : Hid (stepP (k : Int) true true true false (tl []) = none) := by
      show stepP _ _ _ _ _ _ = _
      simp [stepP, tailP, keepP, numP, hasP, tl]
    have C1 := hide (number_none (w0) wb HA0.out.words)
    unfold pan at C1
    obtain ⟨c1, c2, c3, c4⟩ := HA0.out.form
    have fl0 := HA0.out.flt
    go_wp2_with (first
      | (go_at_call 51
         refine C1.out.mono ?_
         rintro e w1 ⟨rfl, rfl⟩
         have KF := hide HA0.out.kept))
    exact ⟨rfl, KF.out, .inr ⟨HP.out, rfl⟩⟩
  | cons x1 r1 =>
    cases hp1 : parseB x1.data.toList maxWord
    · skip
      have HP : Hid (stepP (k : Int) true true true false (tl (x1 :: r1)) = none) := by
        show stepP _ _ _ _ _ _ = _
        simp [stepP, tailP, keepP, numP, hasP, tl, hp1]
      have C1 := hide (numBad (w0) wb x1 r1 HA0.out.words hp1)
      unfold pan at C1
      obtain ⟨c1, c2, c3, c4⟩ := HA0.out.form
      have fl0 := HA0.out.flt
      go_wp2_with (first
        | (go_at_call 51
           refine C1.out.mono ?_
           rintro e w1 ⟨rfl, hk⟩
           have KF := hide (HA0.out.kept.trans hk)
           clear hk))
      exact ⟨rfl, KF.out, .inr ⟨HP.out, rfl⟩⟩
    · obtain ⟨nc, hnc⟩ : ∃ nc, parseV x1.data.toList maxWord = nc := ⟨_, rfl⟩
      cases r1 with
      | nil =>
        have HP : Hid (stepP (k : Int) true true true false (tl (x1 :: [])) = none) := by
          show stepP _ _ _ _ _ _ = _
          simp [stepP, tailP, keepP, numP, hasP, tl, hp1, hnc]
        have C1 := hide (numOk (w0) wb x1 [] HA0.out.words ⟨hp1, hnc⟩)
        obtain ⟨c1, c2, c3, c4⟩ := HA0.out.form
        have fl0 := HA0.out.flt
        go_wp2_with (first
          | (go_at_call 61
             refine C2.out.mono ?_
             rintro e w2 ⟨rfl, rfl⟩
             have KF := hide HA1.out.kept)
          | (go_at_call 51
             refine C1.out.mono ?_
             rintro e w1 ⟨rfl, hw, kw⟩
             have a := HA0.out.call hw kw
             obtain ⟨y0, y1, y2, y3, y4, yf⟩ := a.step.cells
             have z1 := yf 1
             have sl1 := cell_lt y0
             have HA1 : Hid (At W ((w1).setCell ⟨sb, 1, none⟩ (.int .i64 nc)) wb fb sb rb true true true false [] (k : Int) nc 0 (.slice none 0 0) (.slice none 0 0) [] []) := a.store 1 (.int .i64 nc) rfl a.data a.keep
             obtain ⟨c1, c2, c3, c4⟩ := HA1.out.form
             have fl1 := HA1.out.flt
             obtain ⟨_, _, _, b3, _, _⟩ := HA1.out.step.cells
             have q1 := y1
             clear hw kw a y0 y1 y2 y3 y4 yf
             have C2 := hide (next_no ((w1).setCell ⟨sb, 1, none⟩ (.int .i64 nc)) wb HA1.out.words)
             unfold pan at C2))
        exact ⟨rfl, KF.out, .inr ⟨HP.out, rfl⟩⟩
      | cons d1 r2 =>
        have hds : d1.size ≤ 1073741823 := hs d1 (by simp)
        cases hdd : dataP d1.data.toList with
        | none =>
          have HP : Hid (stepP (k : Int) true true true false (tl (x1 :: d1 :: r2)) = none) := by
            show stepP _ _ _ _ _ _ = _
            simp [stepP, tailP, keepP, numP, hasP, tl, hp1, hnc, hdd]
          have C1 := hide (numOk (w0) wb x1 (d1 :: r2) HA0.out.words ⟨hp1, hnc⟩)
          obtain ⟨c1, c2, c3, c4⟩ := HA0.out.form
          have fl0 := HA0.out.flt
          go_wp2_with (first
            | (go_at_call 60
               refine C3.out.mono ?_
               rintro e w3 ⟨rfl, hb⟩
               have KF := hide (HA2.out.later hb).kept
               clear hb)
            | (go_at_call 61
               refine C2.out.mono ?_
               rintro e w2 ⟨rfl, hw, kw⟩
               have a := HA1.out.call hw kw
               have HA2 : Hid (At W (w2) wb fb sb rb true true true false r2 (k : Int) nc 0 (.slice none 0 0) (.slice none 0 0) [] []) := a
               obtain ⟨c1, c2, c3, c4⟩ := HA2.out.form
               have fl2 := HA2.out.flt
               clear hw kw a
               have C3 := hide (dataBad d1 (w2) (HA2.out.tabs HT.out) hds hdd)
               unfold pan at C3)
            | (go_at_call 51
               refine C1.out.mono ?_
               rintro e w1 ⟨rfl, hw, kw⟩
               have a := HA0.out.call hw kw
               obtain ⟨y0, y1, y2, y3, y4, yf⟩ := a.step.cells
               have z1 := yf 1
               have sl1 := cell_lt y0
               have HA1 : Hid (At W ((w1).setCell ⟨sb, 1, none⟩ (.int .i64 nc)) wb fb sb rb true true true false (d1 :: r2) (k : Int) nc 0 (.slice none 0 0) (.slice none 0 0) [] []) := a.store 1 (.int .i64 nc) rfl a.data a.keep
               obtain ⟨c1, c2, c3, c4⟩ := HA1.out.form
               have fl1 := HA1.out.flt
               obtain ⟨_, _, _, b3, _, _⟩ := HA1.out.step.cells
               have q1 := y1
               clear hw kw a y0 y1 y2 y3 y4 yf
               have C2 := hide (next_yes ((w1).setCell ⟨sb, 1, none⟩ (.int .i64 nc)) wb d1 r2 HA1.out.words)))
          exact ⟨rfl, KF.out, .inr ⟨HP.out, rfl⟩⟩
        | some bs =>
          cases r2 with
          | nil =>
            have HP : Hid (stepP (k : Int) true true true false (tl (x1 :: d1 :: [])) = some ⟨(k : Int), nc, bs, 0, []⟩) := by
              show stepP _ _ _ _ _ _ = _
              simp [stepP, tailP, keepP, numP, hasP, tl, hp1, hnc, hdd]
            have C1 := hide (numOk (w0) wb x1 (d1 :: []) HA0.out.words ⟨hp1, hnc⟩)
            obtain ⟨c1, c2, c3, c4⟩ := HA0.out.form
            have fl0 := HA0.out.flt
            go_wp2_with (first
              | (go_at_call 52
                 refine C5.out.mono ?_
                 rintro e w5 ⟨rfl, hw5⟩
                 rw [hw5]
                 clear hw5 w5
                 have a := HA4.out
                 have HA5 : Hid (At W ((w3).setCell ⟨sb, 2, none⟩ (.slice va3 bs.length ca3)) wb fb sb rb true true true false [] (k : Int) nc 0 (.slice va3 bs.length ca3) (.slice none 0 0) bs []) := a
                 obtain ⟨c1, c2, c3, c4⟩ := HA5.out.form
                 have fl5 := HA5.out.flt
                 clear a)
              | (go_at_call 62
                 refine C4.out.mono ?_
                 rintro e w4 ⟨rfl, hw4⟩
                 rw [hw4]
                 clear hw4 w4
                 have a := HA3.out
                 have HA4 : Hid (At W ((w3).setCell ⟨sb, 2, none⟩ (.slice va3 bs.length ca3)) wb fb sb rb true true true false [] (k : Int) nc 0 (.slice va3 bs.length ca3) (.slice none 0 0) bs []) := a
                 obtain ⟨c1, c2, c3, c4⟩ := HA4.out.form
                 have fl4 := HA4.out.flt
                 clear a
                 have C5 := hide (end_yes ((w3).setCell ⟨sb, 2, none⟩ (.slice va3 bs.length ca3)) wb HA4.out.words))
              | (go_at_call 60
                 refine C3.out.mono ?_
                 rintro e w3 ⟨va3, ca3, rfl, ho, hb⟩
                 have a := HA2.out.later hb
                 obtain ⟨y0, y1, y2, y3, y4, yf⟩ := a.step.cells
                 have z3 := yf 2
                 have sl3 := cell_lt y0
                 have HA3 : Hid (At W ((w3).setCell ⟨sb, 2, none⟩ (.slice va3 bs.length ca3)) wb fb sb rb true true true false [] (k : Int) nc 0 (.slice va3 bs.length ca3) (.slice none 0 0) bs []) := a.store 2 (.slice va3 bs.length ca3) rfl (ho.mono (HA2.out.kept.size)) a.keep
                 obtain ⟨c1, c2, c3, c4⟩ := HA3.out.form
                 have fl3 := HA3.out.flt
                 obtain ⟨_, _, _, b3, _, _⟩ := HA3.out.step.cells
                 have q3 := y2
                 clear hb a ho y0 y1 y2 y3 y4 yf
                 have C4 := hide (has_no ((w3).setCell ⟨sb, 2, none⟩ (.slice va3 bs.length ca3)) wb breakT [] HA3.out.words (fun x r e => by cases e))
                 try unfold breakT at C4)
              | (go_at_call 61
                 refine C2.out.mono ?_
                 rintro e w2 ⟨rfl, hw, kw⟩
                 have a := HA1.out.call hw kw
                 have HA2 : Hid (At W (w2) wb fb sb rb true true true false [] (k : Int) nc 0 (.slice none 0 0) (.slice none 0 0) [] []) := a
                 obtain ⟨c1, c2, c3, c4⟩ := HA2.out.form
                 have fl2 := HA2.out.flt
                 clear hw kw a
                 have C3 := hide (dataOk d1 (w2) (HA2.out.tabs HT.out) hds hdd))
              | (go_at_call 51
                 refine C1.out.mono ?_
                 rintro e w1 ⟨rfl, hw, kw⟩
                 have a := HA0.out.call hw kw
                 obtain ⟨y0, y1, y2, y3, y4, yf⟩ := a.step.cells
                 have z1 := yf 1
                 have sl1 := cell_lt y0
                 have HA1 : Hid (At W ((w1).setCell ⟨sb, 1, none⟩ (.int .i64 nc)) wb fb sb rb true true true false (d1 :: []) (k : Int) nc 0 (.slice none 0 0) (.slice none 0 0) [] []) := a.store 1 (.int .i64 nc) rfl a.data a.keep
                 obtain ⟨c1, c2, c3, c4⟩ := HA1.out.form
                 have fl1 := HA1.out.flt
                 obtain ⟨_, _, _, b3, _, _⟩ := HA1.out.step.cells
                 have q1 := y1
                 clear hw kw a y0 y1 y2 y3 y4 yf
                 have C2 := hide (next_yes ((w1).setCell ⟨sb, 1, none⟩ (.int .i64 nc)) wb d1 [] HA1.out.words))
              | (refine wpList_load_row rfl 40 (.tmp 6) rfl sb rfl 40 (#[.int .i64 (k : Int), .int .i64 nc, (.slice va3 bs.length ca3), .int .i64 0, (.slice none 0 0)]) (0, 0) _ HA5.out.step Tryd.underlying40 rfl (by kernel_rfl) ?_)
              | (refine wpList_store_row rfl 40 (.tmp 4) (.tmp 46) rfl rb (#[.int .i64 (k : Int), .int .i64 nc, (.slice va3 bs.length ca3), .int .i64 0, (.slice none 0 0)]) rfl rfl 40 _ HA5.out.res (by kernel_rfl) rfl (by simp [Value.oneCell']) ?_))
            obtain ⟨g1, g2, g3, g4⟩ := HA5.out.final
            refine bodyPost_ret (results_cell_row rfl _ _ rb 40 _ (0, 0) _ rfl g1 Tryd.underlying40 rfl (by kernel_rfl)) rfl ⟨g4, .inl ⟨⟨(k : Int), nc, bs, 0, []⟩, _, _, HP.out, rfl, rfl, g2, g3⟩⟩
          | cons z r =>
            by_cases hz : z.data.toList = breakW
            · obtain rfl : z = breakT := by rcases z with ⟨⟨zl⟩⟩; simp [breakW] at hz; simp [breakT, hz]
              clear hz
              cases r with
              | nil =>
                have HP : Hid (stepP (k : Int) true true true false (tl (x1 :: d1 :: (breakT :: []))) = none) := by
                  show stepP _ _ _ _ _ _ = _
                  simp [stepP, tailP, keepP, numP, hasP, tl, hp1, hnc, hdd, breakW, breakT]
                have C1 := hide (numOk (w0) wb x1 (d1 :: (breakT :: [])) HA0.out.words ⟨hp1, hnc⟩)
                try unfold breakT at C1
                obtain ⟨c1, c2, c3, c4⟩ := HA0.out.form
                have fl0 := HA0.out.flt
                go_wp2_with (first
                  | (go_at_call 51
                     refine C5.out.mono ?_
                     rintro e w5 ⟨rfl, rfl⟩
                     have KF := hide HA4.out.kept)
                  | (go_at_call 62
                     refine C4.out.mono ?_
                     rintro e w4 ⟨rfl, hw, kw⟩
                     have a := HA3.out.call hw kw
                     have HA4 : Hid (At W (w4) wb fb sb rb true true true false [] (k : Int) nc 0 (.slice va3 bs.length ca3) (.slice none 0 0) bs []) := a
                     obtain ⟨c1, c2, c3, c4⟩ := HA4.out.form
                     have fl4 := HA4.out.flt
                     clear hw kw a
                     have C5 := hide (number_none (w4) wb HA4.out.words)
                     unfold pan at C5)
                  | (go_at_call 60
                     refine C3.out.mono ?_
                     rintro e w3 ⟨va3, ca3, rfl, ho, hb⟩
                     have a := HA2.out.later hb
                     obtain ⟨y0, y1, y2, y3, y4, yf⟩ := a.step.cells
                     have z3 := yf 2
                     have sl3 := cell_lt y0
                     have HA3 : Hid (At W ((w3).setCell ⟨sb, 2, none⟩ (.slice va3 bs.length ca3)) wb fb sb rb true true true false (breakT :: []) (k : Int) nc 0 (.slice va3 bs.length ca3) (.slice none 0 0) bs []) := a.store 2 (.slice va3 bs.length ca3) rfl (ho.mono (HA2.out.kept.size)) a.keep
                     obtain ⟨c1, c2, c3, c4⟩ := HA3.out.form
                     have fl3 := HA3.out.flt
                     obtain ⟨_, _, _, b3, _, _⟩ := HA3.out.step.cells
                     have q3 := y2
                     clear hb a ho y0 y1 y2 y3 y4 yf
                     have C4 := hide (has_yes ((w3).setCell ⟨sb, 2, none⟩ (.slice va3 bs.length ca3)) wb breakT [] HA3.out.words)
                     try unfold breakT at C4)
                  | (go_at_call 61
                     refine C2.out.mono ?_
                     rintro e w2 ⟨rfl, hw, kw⟩
                     have a := HA1.out.call hw kw
                     have HA2 : Hid (At W (w2) wb fb sb rb true true true false (breakT :: []) (k : Int) nc 0 (.slice none 0 0) (.slice none 0 0) [] []) := a
                     obtain ⟨c1, c2, c3, c4⟩ := HA2.out.form
                     have fl2 := HA2.out.flt
                     clear hw kw a
                     have C3 := hide (dataOk d1 (w2) (HA2.out.tabs HT.out) hds hdd))
                  | (go_at_call 51
                     refine C1.out.mono ?_
                     rintro e w1 ⟨rfl, hw, kw⟩
                     have a := HA0.out.call hw kw
                     obtain ⟨y0, y1, y2, y3, y4, yf⟩ := a.step.cells
                     have z1 := yf 1
                     have sl1 := cell_lt y0
                     have HA1 : Hid (At W ((w1).setCell ⟨sb, 1, none⟩ (.int .i64 nc)) wb fb sb rb true true true false (d1 :: (breakT :: [])) (k : Int) nc 0 (.slice none 0 0) (.slice none 0 0) [] []) := a.store 1 (.int .i64 nc) rfl a.data a.keep
                     obtain ⟨c1, c2, c3, c4⟩ := HA1.out.form
                     have fl1 := HA1.out.flt
                     obtain ⟨_, _, _, b3, _, _⟩ := HA1.out.step.cells
                     have q1 := y1
                     clear hw kw a y0 y1 y2 y3 y4 yf
                     have C2 := hide (next_yes ((w1).setCell ⟨sb, 1, none⟩ (.int .i64 nc)) wb d1 (breakT :: []) HA1.out.words)
                     try unfold breakT at C2))
                exact ⟨rfl, KF.out, .inr ⟨HP.out, rfl⟩⟩
              | cons n q =>
                cases hpn : parseB n.data.toList maxWord
                · skip
                  have HP : Hid (stepP (k : Int) true true true false (tl (x1 :: d1 :: (breakT :: n :: q))) = none) := by
                    show stepP _ _ _ _ _ _ = _
                    simp [stepP, tailP, keepP, numP, hasP, tl, hp1, hnc, hdd, breakW, breakT, hpn]
                  have C1 := hide (numOk (w0) wb x1 (d1 :: (breakT :: n :: q)) HA0.out.words ⟨hp1, hnc⟩)
                  try unfold breakT at C1
                  obtain ⟨c1, c2, c3, c4⟩ := HA0.out.form
                  have fl0 := HA0.out.flt
                  go_wp2_with (first
                    | (go_at_call 51
                       refine C5.out.mono ?_
                       rintro e w5 ⟨rfl, hk⟩
                       have KF := hide (HA4.out.kept.trans hk)
                       clear hk)
                    | (go_at_call 62
                       refine C4.out.mono ?_
                       rintro e w4 ⟨rfl, hw, kw⟩
                       have a := HA3.out.call hw kw
                       have HA4 : Hid (At W (w4) wb fb sb rb true true true false (n :: q) (k : Int) nc 0 (.slice va3 bs.length ca3) (.slice none 0 0) bs []) := a
                       obtain ⟨c1, c2, c3, c4⟩ := HA4.out.form
                       have fl4 := HA4.out.flt
                       clear hw kw a
                       have C5 := hide (numBad (w4) wb n q HA4.out.words hpn)
                       unfold pan at C5)
                    | (go_at_call 60
                       refine C3.out.mono ?_
                       rintro e w3 ⟨va3, ca3, rfl, ho, hb⟩
                       have a := HA2.out.later hb
                       obtain ⟨y0, y1, y2, y3, y4, yf⟩ := a.step.cells
                       have z3 := yf 2
                       have sl3 := cell_lt y0
                       have HA3 : Hid (At W ((w3).setCell ⟨sb, 2, none⟩ (.slice va3 bs.length ca3)) wb fb sb rb true true true false (breakT :: n :: q) (k : Int) nc 0 (.slice va3 bs.length ca3) (.slice none 0 0) bs []) := a.store 2 (.slice va3 bs.length ca3) rfl (ho.mono (HA2.out.kept.size)) a.keep
                       obtain ⟨c1, c2, c3, c4⟩ := HA3.out.form
                       have fl3 := HA3.out.flt
                       obtain ⟨_, _, _, b3, _, _⟩ := HA3.out.step.cells
                       have q3 := y2
                       clear hb a ho y0 y1 y2 y3 y4 yf
                       have C4 := hide (has_yes ((w3).setCell ⟨sb, 2, none⟩ (.slice va3 bs.length ca3)) wb breakT (n :: q) HA3.out.words)
                       try unfold breakT at C4)
                    | (go_at_call 61
                       refine C2.out.mono ?_
                       rintro e w2 ⟨rfl, hw, kw⟩
                       have a := HA1.out.call hw kw
                       have HA2 : Hid (At W (w2) wb fb sb rb true true true false (breakT :: n :: q) (k : Int) nc 0 (.slice none 0 0) (.slice none 0 0) [] []) := a
                       obtain ⟨c1, c2, c3, c4⟩ := HA2.out.form
                       have fl2 := HA2.out.flt
                       clear hw kw a
                       have C3 := hide (dataOk d1 (w2) (HA2.out.tabs HT.out) hds hdd))
                    | (go_at_call 51
                       refine C1.out.mono ?_
                       rintro e w1 ⟨rfl, hw, kw⟩
                       have a := HA0.out.call hw kw
                       obtain ⟨y0, y1, y2, y3, y4, yf⟩ := a.step.cells
                       have z1 := yf 1
                       have sl1 := cell_lt y0
                       have HA1 : Hid (At W ((w1).setCell ⟨sb, 1, none⟩ (.int .i64 nc)) wb fb sb rb true true true false (d1 :: (breakT :: n :: q)) (k : Int) nc 0 (.slice none 0 0) (.slice none 0 0) [] []) := a.store 1 (.int .i64 nc) rfl a.data a.keep
                       obtain ⟨c1, c2, c3, c4⟩ := HA1.out.form
                       have fl1 := HA1.out.flt
                       obtain ⟨_, _, _, b3, _, _⟩ := HA1.out.step.cells
                       have q1 := y1
                       clear hw kw a y0 y1 y2 y3 y4 yf
                       have C2 := hide (next_yes ((w1).setCell ⟨sb, 1, none⟩ (.int .i64 nc)) wb d1 (breakT :: n :: q) HA1.out.words)
                       try unfold breakT at C2))
                  exact ⟨rfl, KF.out, .inr ⟨HP.out, rfl⟩⟩
                · obtain ⟨nb, hnb⟩ : ∃ nb, parseV n.data.toList maxWord = nb := ⟨_, rfl⟩
                  by_cases hn0 : nb = 0
                  · subst hn0
                    have HP : Hid (stepP (k : Int) true true true false (tl (x1 :: d1 :: (breakT :: n :: q))) = none) := by
                      show stepP _ _ _ _ _ _ = _
                      simp [stepP, tailP, keepP, numP, hasP, tl, hp1, hnc, hdd, breakW, breakT, hpn, hnb]
                    have C1 := hide (numOk (w0) wb x1 (d1 :: (breakT :: n :: q)) HA0.out.words ⟨hp1, hnc⟩)
                    try unfold breakT at C1
                    obtain ⟨c1, c2, c3, c4⟩ := HA0.out.form
                    have fl0 := HA0.out.flt
                    go_wp2_with (first
                      | (go_at_call 51
                         refine C5.out.mono ?_
                         rintro e w5 ⟨rfl, hw, kw⟩
                         have a := HA4.out.call hw kw
                         obtain ⟨y0, y1, y2, y3, y4, yf⟩ := a.step.cells
                         have z5 := yf 3
                         have sl5 := cell_lt y0
                         have HA5 : Hid (At W ((w5).setCell ⟨sb, 3, none⟩ (.int .i64 0)) wb fb sb rb true true true false q (k : Int) nc 0 (.slice va3 bs.length ca3) (.slice none 0 0) bs []) := a.store 3 (.int .i64 0) rfl a.data a.keep
                         obtain ⟨c1, c2, c3, c4⟩ := HA5.out.form
                         have fl5 := HA5.out.flt
                         obtain ⟨_, _, _, b3, _, _⟩ := HA5.out.step.cells
                         have q5 := y3
                         clear hw kw a y0 y1 y2 y3 y4 yf
                         have KF := hide HA5.out.kept)
                      | (go_at_call 62
                         refine C4.out.mono ?_
                         rintro e w4 ⟨rfl, hw, kw⟩
                         have a := HA3.out.call hw kw
                         have HA4 : Hid (At W (w4) wb fb sb rb true true true false (n :: q) (k : Int) nc 0 (.slice va3 bs.length ca3) (.slice none 0 0) bs []) := a
                         obtain ⟨c1, c2, c3, c4⟩ := HA4.out.form
                         have fl4 := HA4.out.flt
                         clear hw kw a
                         have C5 := hide (numOk (w4) wb n q HA4.out.words ⟨hpn, hnb⟩))
                      | (go_at_call 60
                         refine C3.out.mono ?_
                         rintro e w3 ⟨va3, ca3, rfl, ho, hb⟩
                         have a := HA2.out.later hb
                         obtain ⟨y0, y1, y2, y3, y4, yf⟩ := a.step.cells
                         have z3 := yf 2
                         have sl3 := cell_lt y0
                         have HA3 : Hid (At W ((w3).setCell ⟨sb, 2, none⟩ (.slice va3 bs.length ca3)) wb fb sb rb true true true false (breakT :: n :: q) (k : Int) nc 0 (.slice va3 bs.length ca3) (.slice none 0 0) bs []) := a.store 2 (.slice va3 bs.length ca3) rfl (ho.mono (HA2.out.kept.size)) a.keep
                         obtain ⟨c1, c2, c3, c4⟩ := HA3.out.form
                         have fl3 := HA3.out.flt
                         obtain ⟨_, _, _, b3, _, _⟩ := HA3.out.step.cells
                         have q3 := y2
                         clear hb a ho y0 y1 y2 y3 y4 yf
                         have C4 := hide (has_yes ((w3).setCell ⟨sb, 2, none⟩ (.slice va3 bs.length ca3)) wb breakT (n :: q) HA3.out.words)
                         try unfold breakT at C4)
                      | (go_at_call 61
                         refine C2.out.mono ?_
                         rintro e w2 ⟨rfl, hw, kw⟩
                         have a := HA1.out.call hw kw
                         have HA2 : Hid (At W (w2) wb fb sb rb true true true false (breakT :: n :: q) (k : Int) nc 0 (.slice none 0 0) (.slice none 0 0) [] []) := a
                         obtain ⟨c1, c2, c3, c4⟩ := HA2.out.form
                         have fl2 := HA2.out.flt
                         clear hw kw a
                         have C3 := hide (dataOk d1 (w2) (HA2.out.tabs HT.out) hds hdd))
                      | (go_at_call 51
                         refine C1.out.mono ?_
                         rintro e w1 ⟨rfl, hw, kw⟩
                         have a := HA0.out.call hw kw
                         obtain ⟨y0, y1, y2, y3, y4, yf⟩ := a.step.cells
                         have z1 := yf 1
                         have sl1 := cell_lt y0
                         have HA1 : Hid (At W ((w1).setCell ⟨sb, 1, none⟩ (.int .i64 nc)) wb fb sb rb true true true false (d1 :: (breakT :: n :: q)) (k : Int) nc 0 (.slice none 0 0) (.slice none 0 0) [] []) := a.store 1 (.int .i64 nc) rfl a.data a.keep
                         obtain ⟨c1, c2, c3, c4⟩ := HA1.out.form
                         have fl1 := HA1.out.flt
                         obtain ⟨_, _, _, b3, _, _⟩ := HA1.out.step.cells
                         have q1 := y1
                         clear hw kw a y0 y1 y2 y3 y4 yf
                         have C2 := hide (next_yes ((w1).setCell ⟨sb, 1, none⟩ (.int .i64 nc)) wb d1 (breakT :: n :: q) HA1.out.words)
                         try unfold breakT at C2))
                    exact ⟨rfl, KF.out, .inr ⟨HP.out, rfl⟩⟩
                  · have hnbb : (nb == 0) = false := by simpa using hn0
                    cases q with
                    | nil =>
                      have HP : Hid (stepP (k : Int) true true true false (tl (x1 :: d1 :: (breakT :: n :: []))) = some ⟨(k : Int), nc, bs, nb, []⟩) := by
                        show stepP _ _ _ _ _ _ = _
                        simp [stepP, tailP, keepP, numP, hasP, tl, hp1, hnc, hdd, breakW, breakT, hpn, hnb, hn0]
                      have C1 := hide (numOk (w0) wb x1 (d1 :: (breakT :: n :: [])) HA0.out.words ⟨hp1, hnc⟩)
                      try unfold breakT at C1
                      obtain ⟨c1, c2, c3, c4⟩ := HA0.out.form
                      have fl0 := HA0.out.flt
                      go_wp2_with (first
                        | (go_at_call 52
                           refine C7.out.mono ?_
                           rintro e w7 ⟨rfl, hw7⟩
                           rw [hw7]
                           clear hw7 w7
                           have a := HA6.out
                           have HA7 : Hid (At W (((w5).setCell ⟨sb, 3, none⟩ (.int .i64 nb)).setCell ⟨sb, 4, none⟩ (.slice none 0 0)) wb fb sb rb true true true false [] (k : Int) nc nb (.slice va3 bs.length ca3) (.slice none 0 0) bs []) := a
                           obtain ⟨c1, c2, c3, c4⟩ := HA7.out.form
                           have fl7 := HA7.out.flt
                           clear a)
                        | (go_at_call 63
                           refine C6.out.mono ?_
                           rintro e w6 ⟨rfl, hw6⟩
                           rw [hw6]
                           clear hw6 w6
                           have a := HA5.out
                           obtain ⟨y0, y1, y2, y3, y4, yf⟩ := a.step.cells
                           have z6 := yf 4
                           have sl6 := cell_lt y0
                           have HA6 : Hid (At W (((w5).setCell ⟨sb, 3, none⟩ (.int .i64 nb)).setCell ⟨sb, 4, none⟩ (.slice none 0 0)) wb fb sb rb true true true false [] (k : Int) nc nb (.slice va3 bs.length ca3) (.slice none 0 0) bs []) := a.store 4 (.slice none 0 0) rfl a.data (OwnI.nil _ _)
                           obtain ⟨c1, c2, c3, c4⟩ := HA6.out.form
                           have fl6 := HA6.out.flt
                           obtain ⟨_, _, _, b3, _, _⟩ := HA6.out.step.cells
                           have q6 := y4
                           clear a y0 y1 y2 y3 y4 yf
                           have C7 := hide (end_yes (((w5).setCell ⟨sb, 3, none⟩ (.int .i64 nb)).setCell ⟨sb, 4, none⟩ (.slice none 0 0)) wb HA6.out.words))
                        | (go_at_call 51
                           refine C5.out.mono ?_
                           rintro e w5 ⟨rfl, hw, kw⟩
                           have a := HA4.out.call hw kw
                           obtain ⟨y0, y1, y2, y3, y4, yf⟩ := a.step.cells
                           have z5 := yf 3
                           have sl5 := cell_lt y0
                           have HA5 : Hid (At W ((w5).setCell ⟨sb, 3, none⟩ (.int .i64 nb)) wb fb sb rb true true true false [] (k : Int) nc nb (.slice va3 bs.length ca3) (.slice none 0 0) bs []) := a.store 3 (.int .i64 nb) rfl a.data a.keep
                           obtain ⟨c1, c2, c3, c4⟩ := HA5.out.form
                           have fl5 := HA5.out.flt
                           obtain ⟨_, _, _, b3, _, _⟩ := HA5.out.step.cells
                           have q5 := y3
                           clear hw kw a y0 y1 y2 y3 y4 yf
                           have C6 := hide (keep_none ((w5).setCell ⟨sb, 3, none⟩ (.int .i64 nb)) wb [] HA5.out.words rfl))
                        | (go_at_call 62
                           refine C4.out.mono ?_
                           rintro e w4 ⟨rfl, hw, kw⟩
                           have a := HA3.out.call hw kw
                           have HA4 : Hid (At W (w4) wb fb sb rb true true true false (n :: []) (k : Int) nc 0 (.slice va3 bs.length ca3) (.slice none 0 0) bs []) := a
                           obtain ⟨c1, c2, c3, c4⟩ := HA4.out.form
                           have fl4 := HA4.out.flt
                           clear hw kw a
                           have C5 := hide (numOk (w4) wb n [] HA4.out.words ⟨hpn, hnb⟩))
                        | (go_at_call 60
                           refine C3.out.mono ?_
                           rintro e w3 ⟨va3, ca3, rfl, ho, hb⟩
                           have a := HA2.out.later hb
                           obtain ⟨y0, y1, y2, y3, y4, yf⟩ := a.step.cells
                           have z3 := yf 2
                           have sl3 := cell_lt y0
                           have HA3 : Hid (At W ((w3).setCell ⟨sb, 2, none⟩ (.slice va3 bs.length ca3)) wb fb sb rb true true true false (breakT :: n :: []) (k : Int) nc 0 (.slice va3 bs.length ca3) (.slice none 0 0) bs []) := a.store 2 (.slice va3 bs.length ca3) rfl (ho.mono (HA2.out.kept.size)) a.keep
                           obtain ⟨c1, c2, c3, c4⟩ := HA3.out.form
                           have fl3 := HA3.out.flt
                           obtain ⟨_, _, _, b3, _, _⟩ := HA3.out.step.cells
                           have q3 := y2
                           clear hb a ho y0 y1 y2 y3 y4 yf
                           have C4 := hide (has_yes ((w3).setCell ⟨sb, 2, none⟩ (.slice va3 bs.length ca3)) wb breakT (n :: []) HA3.out.words)
                           try unfold breakT at C4)
                        | (go_at_call 61
                           refine C2.out.mono ?_
                           rintro e w2 ⟨rfl, hw, kw⟩
                           have a := HA1.out.call hw kw
                           have HA2 : Hid (At W (w2) wb fb sb rb true true true false (breakT :: n :: []) (k : Int) nc 0 (.slice none 0 0) (.slice none 0 0) [] []) := a
                           obtain ⟨c1, c2, c3, c4⟩ := HA2.out.form
                           have fl2 := HA2.out.flt
                           clear hw kw a
                           have C3 := hide (dataOk d1 (w2) (HA2.out.tabs HT.out) hds hdd))
                        | (go_at_call 51
                           refine C1.out.mono ?_
                           rintro e w1 ⟨rfl, hw, kw⟩
                           have a := HA0.out.call hw kw
                           obtain ⟨y0, y1, y2, y3, y4, yf⟩ := a.step.cells
                           have z1 := yf 1
                           have sl1 := cell_lt y0
                           have HA1 : Hid (At W ((w1).setCell ⟨sb, 1, none⟩ (.int .i64 nc)) wb fb sb rb true true true false (d1 :: (breakT :: n :: [])) (k : Int) nc 0 (.slice none 0 0) (.slice none 0 0) [] []) := a.store 1 (.int .i64 nc) rfl a.data a.keep
                           obtain ⟨c1, c2, c3, c4⟩ := HA1.out.form
                           have fl1 := HA1.out.flt
                           obtain ⟨_, _, _, b3, _, _⟩ := HA1.out.step.cells
                           have q1 := y1
                           clear hw kw a y0 y1 y2 y3 y4 yf
                           have C2 := hide (next_yes ((w1).setCell ⟨sb, 1, none⟩ (.int .i64 nc)) wb d1 (breakT :: n :: []) HA1.out.words)
                           try unfold breakT at C2)
                        | (refine wpList_load_row rfl 40 (.tmp 6) rfl sb rfl 40 (#[.int .i64 (k : Int), .int .i64 nc, (.slice va3 bs.length ca3), .int .i64 nb, (.slice none 0 0)]) (0, 0) _ HA7.out.step Tryd.underlying40 rfl (by kernel_rfl) ?_)
                        | (refine wpList_store_row rfl 40 (.tmp 4) (.tmp 46) rfl rb (#[.int .i64 (k : Int), .int .i64 nc, (.slice va3 bs.length ca3), .int .i64 nb, (.slice none 0 0)]) rfl rfl 40 _ HA7.out.res (by kernel_rfl) rfl (by simp [Value.oneCell']) ?_))
                      obtain ⟨g1, g2, g3, g4⟩ := HA7.out.final
                      refine bodyPost_ret (results_cell_row rfl _ _ rb 40 _ (0, 0) _ rfl g1 Tryd.underlying40 rfl (by kernel_rfl)) rfl ⟨g4, .inl ⟨⟨(k : Int), nc, bs, nb, []⟩, _, _, HP.out, rfl, rfl, g2, g3⟩⟩
                    | cons y t =>
                      by_cases hy : y.data.toList = keepW
                      · have hyt : y = keepT := by rcases y with ⟨⟨yl⟩⟩; simp [keepW] at hy; simp [keepT, hy]
                        have HYT := hide hyt
                        clear hyt
                        have htl : t.length ≤ 1048576 := by simp at hl; omega
                        cases hnp : numsP (tl t) with
                        | none =>
                          have HP : Hid (stepP (k : Int) true true true false (tl (x1 :: d1 :: (breakT :: n :: (y :: t)))) = none) := by
                            show stepP _ _ _ _ _ _ = _
                            simp [stepP, tailP, keepP, numP, hasP, tl, hp1, hnc, hdd, breakW, breakT, hpn, hnb, hn0, hy, hnp]
                          clear hy
                          have C1 := hide (numOk (w0) wb x1 (d1 :: (breakT :: n :: (y :: t))) HA0.out.words ⟨hp1, hnc⟩)
                          try unfold breakT at C1
                          obtain ⟨c1, c2, c3, c4⟩ := HA0.out.form
                          have fl0 := HA0.out.flt
                          go_wp2_with (first
                            | (go_at_call 63
                               refine C6.out.mono ?_
                               rintro e w6 ⟨rfl, hk⟩
                               have KF := hide (HA5.out.kept.trans hk)
                               clear hk)
                            | (go_at_call 51
                               refine C5.out.mono ?_
                               rintro e w5 ⟨rfl, hw, kw⟩
                               have a := HA4.out.call hw kw
                               obtain ⟨y0, y1, y2, y3, y4, yf⟩ := a.step.cells
                               have z5 := yf 3
                               have sl5 := cell_lt y0
                               have HA5 : Hid (At W ((w5).setCell ⟨sb, 3, none⟩ (.int .i64 nb)) wb fb sb rb true true true false (y :: t) (k : Int) nc nb (.slice va3 bs.length ca3) (.slice none 0 0) bs []) := a.store 3 (.int .i64 nb) rfl a.data a.keep
                               obtain ⟨c1, c2, c3, c4⟩ := HA5.out.form
                               have fl5 := HA5.out.flt
                               obtain ⟨_, _, _, b3, _, _⟩ := HA5.out.step.cells
                               have q5 := y3
                               clear hw kw a y0 y1 y2 y3 y4 yf
                               have C6 := hide (keepBad ((w5).setCell ⟨sb, 3, none⟩ (.int .i64 nb)) wb y t HA5.out.words HYT.out htl (fun l e => by rw [hnp] at e; cases e))
                               unfold pan at C6)
                            | (go_at_call 62
                               refine C4.out.mono ?_
                               rintro e w4 ⟨rfl, hw, kw⟩
                               have a := HA3.out.call hw kw
                               have HA4 : Hid (At W (w4) wb fb sb rb true true true false (n :: (y :: t)) (k : Int) nc 0 (.slice va3 bs.length ca3) (.slice none 0 0) bs []) := a
                               obtain ⟨c1, c2, c3, c4⟩ := HA4.out.form
                               have fl4 := HA4.out.flt
                               clear hw kw a
                               have C5 := hide (numOk (w4) wb n (y :: t) HA4.out.words ⟨hpn, hnb⟩))
                            | (go_at_call 60
                               refine C3.out.mono ?_
                               rintro e w3 ⟨va3, ca3, rfl, ho, hb⟩
                               have a := HA2.out.later hb
                               obtain ⟨y0, y1, y2, y3, y4, yf⟩ := a.step.cells
                               have z3 := yf 2
                               have sl3 := cell_lt y0
                               have HA3 : Hid (At W ((w3).setCell ⟨sb, 2, none⟩ (.slice va3 bs.length ca3)) wb fb sb rb true true true false (breakT :: n :: (y :: t)) (k : Int) nc 0 (.slice va3 bs.length ca3) (.slice none 0 0) bs []) := a.store 2 (.slice va3 bs.length ca3) rfl (ho.mono (HA2.out.kept.size)) a.keep
                               obtain ⟨c1, c2, c3, c4⟩ := HA3.out.form
                               have fl3 := HA3.out.flt
                               obtain ⟨_, _, _, b3, _, _⟩ := HA3.out.step.cells
                               have q3 := y2
                               clear hb a ho y0 y1 y2 y3 y4 yf
                               have C4 := hide (has_yes ((w3).setCell ⟨sb, 2, none⟩ (.slice va3 bs.length ca3)) wb breakT (n :: (y :: t)) HA3.out.words)
                               try unfold breakT at C4)
                            | (go_at_call 61
                               refine C2.out.mono ?_
                               rintro e w2 ⟨rfl, hw, kw⟩
                               have a := HA1.out.call hw kw
                               have HA2 : Hid (At W (w2) wb fb sb rb true true true false (breakT :: n :: (y :: t)) (k : Int) nc 0 (.slice none 0 0) (.slice none 0 0) [] []) := a
                               obtain ⟨c1, c2, c3, c4⟩ := HA2.out.form
                               have fl2 := HA2.out.flt
                               clear hw kw a
                               have C3 := hide (dataOk d1 (w2) (HA2.out.tabs HT.out) hds hdd))
                            | (go_at_call 51
                               refine C1.out.mono ?_
                               rintro e w1 ⟨rfl, hw, kw⟩
                               have a := HA0.out.call hw kw
                               obtain ⟨y0, y1, y2, y3, y4, yf⟩ := a.step.cells
                               have z1 := yf 1
                               have sl1 := cell_lt y0
                               have HA1 : Hid (At W ((w1).setCell ⟨sb, 1, none⟩ (.int .i64 nc)) wb fb sb rb true true true false (d1 :: (breakT :: n :: (y :: t))) (k : Int) nc 0 (.slice none 0 0) (.slice none 0 0) [] []) := a.store 1 (.int .i64 nc) rfl a.data a.keep
                               obtain ⟨c1, c2, c3, c4⟩ := HA1.out.form
                               have fl1 := HA1.out.flt
                               obtain ⟨_, _, _, b3, _, _⟩ := HA1.out.step.cells
                               have q1 := y1
                               clear hw kw a y0 y1 y2 y3 y4 yf
                               have C2 := hide (next_yes ((w1).setCell ⟨sb, 1, none⟩ (.int .i64 nc)) wb d1 (breakT :: n :: (y :: t)) HA1.out.words)
                               try unfold breakT at C2))
                          exact ⟨rfl, KF.out, .inr ⟨HP.out, rfl⟩⟩
                        | some l =>
                          by_cases hl0 : l = []
                          · subst hl0
                            have HP : Hid (stepP (k : Int) true true true false (tl (x1 :: d1 :: (breakT :: n :: (y :: t)))) = none) := by
                              show stepP _ _ _ _ _ _ = _
                              simp [stepP, tailP, keepP, numP, hasP, tl, hp1, hnc, hdd, breakW, breakT, hpn, hnb, hn0, hy, hnp]
                            clear hy
                            have C1 := hide (numOk (w0) wb x1 (d1 :: (breakT :: n :: (y :: t))) HA0.out.words ⟨hp1, hnc⟩)
                            try unfold breakT at C1
                            obtain ⟨c1, c2, c3, c4⟩ := HA0.out.form
                            have fl0 := HA0.out.flt
                            go_wp2_with (first
                              | (go_at_call 63
                                 refine C6.out.mono ?_
                                 rintro e w6 ⟨rfl, hk⟩
                                 have KF := hide (HA5.out.kept.trans hk)
                                 clear hk)
                              | (go_at_call 51
                                 refine C5.out.mono ?_
                                 rintro e w5 ⟨rfl, hw, kw⟩
                                 have a := HA4.out.call hw kw
                                 obtain ⟨y0, y1, y2, y3, y4, yf⟩ := a.step.cells
                                 have z5 := yf 3
                                 have sl5 := cell_lt y0
                                 have HA5 : Hid (At W ((w5).setCell ⟨sb, 3, none⟩ (.int .i64 nb)) wb fb sb rb true true true false (y :: t) (k : Int) nc nb (.slice va3 bs.length ca3) (.slice none 0 0) bs []) := a.store 3 (.int .i64 nb) rfl a.data a.keep
                                 obtain ⟨c1, c2, c3, c4⟩ := HA5.out.form
                                 have fl5 := HA5.out.flt
                                 obtain ⟨_, _, _, b3, _, _⟩ := HA5.out.step.cells
                                 have q5 := y3
                                 clear hw kw a y0 y1 y2 y3 y4 yf
                                 have C6 := hide (keepBad ((w5).setCell ⟨sb, 3, none⟩ (.int .i64 nb)) wb y t HA5.out.words HYT.out htl (fun l e => by rw [hnp] at e; cases e; rfl))
                                 unfold pan at C6)
                              | (go_at_call 62
                                 refine C4.out.mono ?_
                                 rintro e w4 ⟨rfl, hw, kw⟩
                                 have a := HA3.out.call hw kw
                                 have HA4 : Hid (At W (w4) wb fb sb rb true true true false (n :: (y :: t)) (k : Int) nc 0 (.slice va3 bs.length ca3) (.slice none 0 0) bs []) := a
                                 obtain ⟨c1, c2, c3, c4⟩ := HA4.out.form
                                 have fl4 := HA4.out.flt
                                 clear hw kw a
                                 have C5 := hide (numOk (w4) wb n (y :: t) HA4.out.words ⟨hpn, hnb⟩))
                              | (go_at_call 60
                                 refine C3.out.mono ?_
                                 rintro e w3 ⟨va3, ca3, rfl, ho, hb⟩
                                 have a := HA2.out.later hb
                                 obtain ⟨y0, y1, y2, y3, y4, yf⟩ := a.step.cells
                                 have z3 := yf 2
                                 have sl3 := cell_lt y0
                                 have HA3 : Hid (At W ((w3).setCell ⟨sb, 2, none⟩ (.slice va3 bs.length ca3)) wb fb sb rb true true true false (breakT :: n :: (y :: t)) (k : Int) nc 0 (.slice va3 bs.length ca3) (.slice none 0 0) bs []) := a.store 2 (.slice va3 bs.length ca3) rfl (ho.mono (HA2.out.kept.size)) a.keep
                                 obtain ⟨c1, c2, c3, c4⟩ := HA3.out.form
                                 have fl3 := HA3.out.flt
                                 obtain ⟨_, _, _, b3, _, _⟩ := HA3.out.step.cells
                                 have q3 := y2
                                 clear hb a ho y0 y1 y2 y3 y4 yf
                                 have C4 := hide (has_yes ((w3).setCell ⟨sb, 2, none⟩ (.slice va3 bs.length ca3)) wb breakT (n :: (y :: t)) HA3.out.words)
                                 try unfold breakT at C4)
                              | (go_at_call 61
                                 refine C2.out.mono ?_
                                 rintro e w2 ⟨rfl, hw, kw⟩
                                 have a := HA1.out.call hw kw
                                 have HA2 : Hid (At W (w2) wb fb sb rb true true true false (breakT :: n :: (y :: t)) (k : Int) nc 0 (.slice none 0 0) (.slice none 0 0) [] []) := a
                                 obtain ⟨c1, c2, c3, c4⟩ := HA2.out.form
                                 have fl2 := HA2.out.flt
                                 clear hw kw a
                                 have C3 := hide (dataOk d1 (w2) (HA2.out.tabs HT.out) hds hdd))
                              | (go_at_call 51
                                 refine C1.out.mono ?_
                                 rintro e w1 ⟨rfl, hw, kw⟩
                                 have a := HA0.out.call hw kw
                                 obtain ⟨y0, y1, y2, y3, y4, yf⟩ := a.step.cells
                                 have z1 := yf 1
                                 have sl1 := cell_lt y0
                                 have HA1 : Hid (At W ((w1).setCell ⟨sb, 1, none⟩ (.int .i64 nc)) wb fb sb rb true true true false (d1 :: (breakT :: n :: (y :: t))) (k : Int) nc 0 (.slice none 0 0) (.slice none 0 0) [] []) := a.store 1 (.int .i64 nc) rfl a.data a.keep
                                 obtain ⟨c1, c2, c3, c4⟩ := HA1.out.form
                                 have fl1 := HA1.out.flt
                                 obtain ⟨_, _, _, b3, _, _⟩ := HA1.out.step.cells
                                 have q1 := y1
                                 clear hw kw a y0 y1 y2 y3 y4 yf
                                 have C2 := hide (next_yes ((w1).setCell ⟨sb, 1, none⟩ (.int .i64 nc)) wb d1 (breakT :: n :: (y :: t)) HA1.out.words)
                                 try unfold breakT at C2))
                            exact ⟨rfl, KF.out, .inr ⟨HP.out, rfl⟩⟩
                          · obtain ⟨l0, lr, hlr⟩ : ∃ a b, l = a :: b := by cases l with | nil => exact absurd rfl hl0 | cons a b => exact ⟨a, b, rfl⟩
                            have HP : Hid (stepP (k : Int) true true true false (tl (x1 :: d1 :: (breakT :: n :: (y :: t)))) = some ⟨(k : Int), nc, bs, nb, l⟩) := by
                              show stepP _ _ _ _ _ _ = _
                              simp [stepP, tailP, keepP, numP, hasP, tl, hp1, hnc, hdd, breakW, breakT, hpn, hnb, hn0, hy, hnp, hlr]
                            clear hlr l0 lr
                            clear hy
                            have C1 := hide (numOk (w0) wb x1 (d1 :: (breakT :: n :: (y :: t))) HA0.out.words ⟨hp1, hnc⟩)
                            try unfold breakT at C1
                            obtain ⟨c1, c2, c3, c4⟩ := HA0.out.form
                            have fl0 := HA0.out.flt
                            go_wp2_with (first
                              | (go_at_call 52
                                 refine C7.out.mono ?_
                                 rintro e w7 ⟨rfl, hw7⟩
                                 rw [hw7]
                                 clear hw7 w7
                                 have a := HA6.out
                                 have HA7 : Hid (At W ((w6).setCell ⟨sb, 4, none⟩ (.slice va6 l.length ca6)) wb fb sb rb true true true false [] (k : Int) nc nb (.slice va3 bs.length ca3) (.slice va6 l.length ca6) bs l) := a
                                 obtain ⟨c1, c2, c3, c4⟩ := HA7.out.form
                                 have fl7 := HA7.out.flt
                                 clear a)
                              | (go_at_call 63
                                 refine C6.out.mono ?_
                                 rintro e w6 ⟨va6, ca6, rfl, ho, hw, kw⟩
                                 have a := HA5.out.call hw kw
                                 obtain ⟨y0, y1, y2, y3, y4, yf⟩ := a.step.cells
                                 have z6 := yf 4
                                 have sl6 := cell_lt y0
                                 have HA6 : Hid (At W ((w6).setCell ⟨sb, 4, none⟩ (.slice va6 l.length ca6)) wb fb sb rb true true true false [] (k : Int) nc nb (.slice va3 bs.length ca3) (.slice va6 l.length ca6) bs l) := a.store 4 (.slice va6 l.length ca6) rfl a.data (ho.mono (HA5.out.kept.size))
                                 obtain ⟨c1, c2, c3, c4⟩ := HA6.out.form
                                 have fl6 := HA6.out.flt
                                 obtain ⟨_, _, _, b3, _, _⟩ := HA6.out.step.cells
                                 have q6 := y4
                                 clear hw kw a ho y0 y1 y2 y3 y4 yf
                                 have C7 := hide (end_yes ((w6).setCell ⟨sb, 4, none⟩ (.slice va6 l.length ca6)) wb HA6.out.words))
                              | (go_at_call 51
                                 refine C5.out.mono ?_
                                 rintro e w5 ⟨rfl, hw, kw⟩
                                 have a := HA4.out.call hw kw
                                 obtain ⟨y0, y1, y2, y3, y4, yf⟩ := a.step.cells
                                 have z5 := yf 3
                                 have sl5 := cell_lt y0
                                 have HA5 : Hid (At W ((w5).setCell ⟨sb, 3, none⟩ (.int .i64 nb)) wb fb sb rb true true true false (y :: t) (k : Int) nc nb (.slice va3 bs.length ca3) (.slice none 0 0) bs []) := a.store 3 (.int .i64 nb) rfl a.data a.keep
                                 obtain ⟨c1, c2, c3, c4⟩ := HA5.out.form
                                 have fl5 := HA5.out.flt
                                 obtain ⟨_, _, _, b3, _, _⟩ := HA5.out.step.cells
                                 have q5 := y3
                                 clear hw kw a y0 y1 y2 y3 y4 yf
                                 have C6 := hide (keepOk ((w5).setCell ⟨sb, 3, none⟩ (.int .i64 nb)) wb y t HA5.out.words HYT.out htl hnp hl0))
                              | (go_at_call 62
                                 refine C4.out.mono ?_
                                 rintro e w4 ⟨rfl, hw, kw⟩
                                 have a := HA3.out.call hw kw
                                 have HA4 : Hid (At W (w4) wb fb sb rb true true true false (n :: (y :: t)) (k : Int) nc 0 (.slice va3 bs.length ca3) (.slice none 0 0) bs []) := a
                                 obtain ⟨c1, c2, c3, c4⟩ := HA4.out.form
                                 have fl4 := HA4.out.flt
                                 clear hw kw a
                                 have C5 := hide (numOk (w4) wb n (y :: t) HA4.out.words ⟨hpn, hnb⟩))
                              | (go_at_call 60
                                 refine C3.out.mono ?_
                                 rintro e w3 ⟨va3, ca3, rfl, ho, hb⟩
                                 have a := HA2.out.later hb
                                 obtain ⟨y0, y1, y2, y3, y4, yf⟩ := a.step.cells
                                 have z3 := yf 2
                                 have sl3 := cell_lt y0
                                 have HA3 : Hid (At W ((w3).setCell ⟨sb, 2, none⟩ (.slice va3 bs.length ca3)) wb fb sb rb true true true false (breakT :: n :: (y :: t)) (k : Int) nc 0 (.slice va3 bs.length ca3) (.slice none 0 0) bs []) := a.store 2 (.slice va3 bs.length ca3) rfl (ho.mono (HA2.out.kept.size)) a.keep
                                 obtain ⟨c1, c2, c3, c4⟩ := HA3.out.form
                                 have fl3 := HA3.out.flt
                                 obtain ⟨_, _, _, b3, _, _⟩ := HA3.out.step.cells
                                 have q3 := y2
                                 clear hb a ho y0 y1 y2 y3 y4 yf
                                 have C4 := hide (has_yes ((w3).setCell ⟨sb, 2, none⟩ (.slice va3 bs.length ca3)) wb breakT (n :: (y :: t)) HA3.out.words)
                                 try unfold breakT at C4)
                              | (go_at_call 61
                                 refine C2.out.mono ?_
                                 rintro e w2 ⟨rfl, hw, kw⟩
                                 have a := HA1.out.call hw kw
                                 have HA2 : Hid (At W (w2) wb fb sb rb true true true false (breakT :: n :: (y :: t)) (k : Int) nc 0 (.slice none 0 0) (.slice none 0 0) [] []) := a
                                 obtain ⟨c1, c2, c3, c4⟩ := HA2.out.form
                                 have fl2 := HA2.out.flt
                                 clear hw kw a
                                 have C3 := hide (dataOk d1 (w2) (HA2.out.tabs HT.out) hds hdd))
                              | (go_at_call 51
                                 refine C1.out.mono ?_
                                 rintro e w1 ⟨rfl, hw, kw⟩
                                 have a := HA0.out.call hw kw
                                 obtain ⟨y0, y1, y2, y3, y4, yf⟩ := a.step.cells
                                 have z1 := yf 1
                                 have sl1 := cell_lt y0
                                 have HA1 : Hid (At W ((w1).setCell ⟨sb, 1, none⟩ (.int .i64 nc)) wb fb sb rb true true true false (d1 :: (breakT :: n :: (y :: t))) (k : Int) nc 0 (.slice none 0 0) (.slice none 0 0) [] []) := a.store 1 (.int .i64 nc) rfl a.data a.keep
                                 obtain ⟨c1, c2, c3, c4⟩ := HA1.out.form
                                 have fl1 := HA1.out.flt
                                 obtain ⟨_, _, _, b3, _, _⟩ := HA1.out.step.cells
                                 have q1 := y1
                                 clear hw kw a y0 y1 y2 y3 y4 yf
                                 have C2 := hide (next_yes ((w1).setCell ⟨sb, 1, none⟩ (.int .i64 nc)) wb d1 (breakT :: n :: (y :: t)) HA1.out.words)
                                 try unfold breakT at C2)
                              | (refine wpList_load_row rfl 40 (.tmp 6) rfl sb rfl 40 (#[.int .i64 (k : Int), .int .i64 nc, (.slice va3 bs.length ca3), .int .i64 nb, (.slice va6 l.length ca6)]) (0, 0) _ HA7.out.step Tryd.underlying40 rfl (by kernel_rfl) ?_)
                              | (refine wpList_store_row rfl 40 (.tmp 4) (.tmp 46) rfl rb (#[.int .i64 (k : Int), .int .i64 nc, (.slice va3 bs.length ca3), .int .i64 nb, (.slice va6 l.length ca6)]) rfl rfl 40 _ HA7.out.res (by kernel_rfl) rfl (by simp [Value.oneCell']) ?_))
                            obtain ⟨g1, g2, g3, g4⟩ := HA7.out.final
                            refine bodyPost_ret (results_cell_row rfl _ _ rb 40 _ (0, 0) _ rfl g1 Tryd.underlying40 rfl (by kernel_rfl)) rfl ⟨g4, .inl ⟨⟨(k : Int), nc, bs, nb, l⟩, _, _, HP.out, rfl, rfl, g2, g3⟩⟩
                      · skip
                        have HP : Hid (stepP (k : Int) true true true false (tl (x1 :: d1 :: (breakT :: n :: (y :: t)))) = none) := by
                          show stepP _ _ _ _ _ _ = _
                          simp [stepP, tailP, keepP, numP, hasP, tl, hp1, hnc, hdd, breakW, breakT, hpn, hnb, hn0, hy]
                        have C1 := hide (numOk (w0) wb x1 (d1 :: (breakT :: n :: (y :: t))) HA0.out.words ⟨hp1, hnc⟩)
                        try unfold breakT at C1
                        obtain ⟨c1, c2, c3, c4⟩ := HA0.out.form
                        have fl0 := HA0.out.flt
                        go_wp2_with (first
                          | (go_at_call 52
                             refine C7.out.mono ?_
                             rintro e w7 ⟨rfl, rfl⟩
                             have KF := hide HA6.out.kept)
                          | (go_at_call 63
                             refine C6.out.mono ?_
                             rintro e w6 ⟨rfl, hw6⟩
                             rw [hw6]
                             clear hw6 w6
                             have a := HA5.out
                             obtain ⟨y0, y1, y2, y3, y4, yf⟩ := a.step.cells
                             have z6 := yf 4
                             have sl6 := cell_lt y0
                             have HA6 : Hid (At W (((w5).setCell ⟨sb, 3, none⟩ (.int .i64 nb)).setCell ⟨sb, 4, none⟩ (.slice none 0 0)) wb fb sb rb true true true false (y :: t) (k : Int) nc nb (.slice va3 bs.length ca3) (.slice none 0 0) bs []) := a.store 4 (.slice none 0 0) rfl a.data (OwnI.nil _ _)
                             obtain ⟨c1, c2, c3, c4⟩ := HA6.out.form
                             have fl6 := HA6.out.flt
                             obtain ⟨_, _, _, b3, _, _⟩ := HA6.out.step.cells
                             have q6 := y4
                             clear a y0 y1 y2 y3 y4 yf
                             have C7 := hide (end_no (((w5).setCell ⟨sb, 3, none⟩ (.int .i64 nb)).setCell ⟨sb, 4, none⟩ (.slice none 0 0)) wb (y :: t) HA6.out.words (by simp))
                             unfold pan at C7)
                          | (go_at_call 51
                             refine C5.out.mono ?_
                             rintro e w5 ⟨rfl, hw, kw⟩
                             have a := HA4.out.call hw kw
                             obtain ⟨y0, y1, y2, y3, y4, yf⟩ := a.step.cells
                             have z5 := yf 3
                             have sl5 := cell_lt y0
                             have HA5 : Hid (At W ((w5).setCell ⟨sb, 3, none⟩ (.int .i64 nb)) wb fb sb rb true true true false (y :: t) (k : Int) nc nb (.slice va3 bs.length ca3) (.slice none 0 0) bs []) := a.store 3 (.int .i64 nb) rfl a.data a.keep
                             obtain ⟨c1, c2, c3, c4⟩ := HA5.out.form
                             have fl5 := HA5.out.flt
                             obtain ⟨_, _, _, b3, _, _⟩ := HA5.out.step.cells
                             have q5 := y3
                             clear hw kw a y0 y1 y2 y3 y4 yf
                             have C6 := hide (keep_none ((w5).setCell ⟨sb, 3, none⟩ (.int .i64 nb)) wb (y :: t) HA5.out.words (by simp [hasP, tl, hy])))
                          | (go_at_call 62
                             refine C4.out.mono ?_
                             rintro e w4 ⟨rfl, hw, kw⟩
                             have a := HA3.out.call hw kw
                             have HA4 : Hid (At W (w4) wb fb sb rb true true true false (n :: (y :: t)) (k : Int) nc 0 (.slice va3 bs.length ca3) (.slice none 0 0) bs []) := a
                             obtain ⟨c1, c2, c3, c4⟩ := HA4.out.form
                             have fl4 := HA4.out.flt
                             clear hw kw a
                             have C5 := hide (numOk (w4) wb n (y :: t) HA4.out.words ⟨hpn, hnb⟩))
                          | (go_at_call 60
                             refine C3.out.mono ?_
                             rintro e w3 ⟨va3, ca3, rfl, ho, hb⟩
                             have a := HA2.out.later hb
                             obtain ⟨y0, y1, y2, y3, y4, yf⟩ := a.step.cells
                             have z3 := yf 2
                             have sl3 := cell_lt y0
                             have HA3 : Hid (At W ((w3).setCell ⟨sb, 2, none⟩ (.slice va3 bs.length ca3)) wb fb sb rb true true true false (breakT :: n :: (y :: t)) (k : Int) nc 0 (.slice va3 bs.length ca3) (.slice none 0 0) bs []) := a.store 2 (.slice va3 bs.length ca3) rfl (ho.mono (HA2.out.kept.size)) a.keep
                             obtain ⟨c1, c2, c3, c4⟩ := HA3.out.form
                             have fl3 := HA3.out.flt
                             obtain ⟨_, _, _, b3, _, _⟩ := HA3.out.step.cells
                             have q3 := y2
                             clear hb a ho y0 y1 y2 y3 y4 yf
                             have C4 := hide (has_yes ((w3).setCell ⟨sb, 2, none⟩ (.slice va3 bs.length ca3)) wb breakT (n :: (y :: t)) HA3.out.words)
                             try unfold breakT at C4)
                          | (go_at_call 61
                             refine C2.out.mono ?_
                             rintro e w2 ⟨rfl, hw, kw⟩
                             have a := HA1.out.call hw kw
                             have HA2 : Hid (At W (w2) wb fb sb rb true true true false (breakT :: n :: (y :: t)) (k : Int) nc 0 (.slice none 0 0) (.slice none 0 0) [] []) := a
                             obtain ⟨c1, c2, c3, c4⟩ := HA2.out.form
                             have fl2 := HA2.out.flt
                             clear hw kw a
                             have C3 := hide (dataOk d1 (w2) (HA2.out.tabs HT.out) hds hdd))
                          | (go_at_call 51
                             refine C1.out.mono ?_
                             rintro e w1 ⟨rfl, hw, kw⟩
                             have a := HA0.out.call hw kw
                             obtain ⟨y0, y1, y2, y3, y4, yf⟩ := a.step.cells
                             have z1 := yf 1
                             have sl1 := cell_lt y0
                             have HA1 : Hid (At W ((w1).setCell ⟨sb, 1, none⟩ (.int .i64 nc)) wb fb sb rb true true true false (d1 :: (breakT :: n :: (y :: t))) (k : Int) nc 0 (.slice none 0 0) (.slice none 0 0) [] []) := a.store 1 (.int .i64 nc) rfl a.data a.keep
                             obtain ⟨c1, c2, c3, c4⟩ := HA1.out.form
                             have fl1 := HA1.out.flt
                             obtain ⟨_, _, _, b3, _, _⟩ := HA1.out.step.cells
                             have q1 := y1
                             clear hw kw a y0 y1 y2 y3 y4 yf
                             have C2 := hide (next_yes ((w1).setCell ⟨sb, 1, none⟩ (.int .i64 nc)) wb d1 (breakT :: n :: (y :: t)) HA1.out.words)
                             try unfold breakT at C2))
                        exact ⟨rfl, KF.out, .inr ⟨HP.out, rfl⟩⟩
            · skip
              have HP : Hid (stepP (k : Int) true true true false (tl (x1 :: d1 :: (z :: r))) = none) := by
                show stepP _ _ _ _ _ _ = _
                simp [stepP, tailP, keepP, numP, hasP, tl, hp1, hnc, hdd, hz]
              have C1 := hide (numOk (w0) wb x1 (d1 :: (z :: r)) HA0.out.words ⟨hp1, hnc⟩)
              obtain ⟨c1, c2, c3, c4⟩ := HA0.out.form
              have fl0 := HA0.out.flt
              go_wp2_with (first
                | (go_at_call 52
                   refine C5.out.mono ?_
                   rintro e w5 ⟨rfl, rfl⟩
                   have KF := hide HA4.out.kept)
                | (go_at_call 62
                   refine C4.out.mono ?_
                   rintro e w4 ⟨rfl, hw4⟩
                   rw [hw4]
                   clear hw4 w4
                   have a := HA3.out
                   have HA4 : Hid (At W ((w3).setCell ⟨sb, 2, none⟩ (.slice va3 bs.length ca3)) wb fb sb rb true true true false (z :: r) (k : Int) nc 0 (.slice va3 bs.length ca3) (.slice none 0 0) bs []) := a
                   obtain ⟨c1, c2, c3, c4⟩ := HA4.out.form
                   have fl4 := HA4.out.flt
                   clear a
                   have C5 := hide (end_no ((w3).setCell ⟨sb, 2, none⟩ (.slice va3 bs.length ca3)) wb (z :: r) HA4.out.words (by simp))
                   unfold pan at C5)
                | (go_at_call 60
                   refine C3.out.mono ?_
                   rintro e w3 ⟨va3, ca3, rfl, ho, hb⟩
                   have a := HA2.out.later hb
                   obtain ⟨y0, y1, y2, y3, y4, yf⟩ := a.step.cells
                   have z3 := yf 2
                   have sl3 := cell_lt y0
                   have HA3 : Hid (At W ((w3).setCell ⟨sb, 2, none⟩ (.slice va3 bs.length ca3)) wb fb sb rb true true true false (z :: r) (k : Int) nc 0 (.slice va3 bs.length ca3) (.slice none 0 0) bs []) := a.store 2 (.slice va3 bs.length ca3) rfl (ho.mono (HA2.out.kept.size)) a.keep
                   obtain ⟨c1, c2, c3, c4⟩ := HA3.out.form
                   have fl3 := HA3.out.flt
                   obtain ⟨_, _, _, b3, _, _⟩ := HA3.out.step.cells
                   have q3 := y2
                   clear hb a ho y0 y1 y2 y3 y4 yf
                   have C4 := hide (has_no ((w3).setCell ⟨sb, 2, none⟩ (.slice va3 bs.length ca3)) wb breakT (z :: r) HA3.out.words (fun x r e => by cases e; exact hz))
                   try unfold breakT at C4)
                | (go_at_call 61
                   refine C2.out.mono ?_
                   rintro e w2 ⟨rfl, hw, kw⟩
                   have a := HA1.out.call hw kw
                   have HA2 : Hid (At W (w2) wb fb sb rb true true true false (z :: r) (k : Int) nc 0 (.slice none 0 0) (.slice none 0 0) [] []) := a
                   obtain ⟨c1, c2, c3, c4⟩ := HA2.out.form
                   have fl2 := HA2.out.flt
                   clear hw kw a
                   have C3 := hide (dataOk d1 (w2) (HA2.out.tabs HT.out) hds hdd))
                | (go_at_call 51
                   refine C1.out.mono ?_
                   rintro e w1 ⟨rfl, hw, kw⟩
                   have a := HA0.out.call hw kw
                   obtain ⟨y0, y1, y2, y3, y4, yf⟩ := a.step.cells
                   have z1 := yf 1
                   have sl1 := cell_lt y0
                   have HA1 : Hid (At W ((w1).setCell ⟨sb, 1, none⟩ (.int .i64 nc)) wb fb sb rb true true true false (d1 :: (z :: r)) (k : Int) nc 0 (.slice none 0 0) (.slice none 0 0) [] []) := a.store 1 (.int .i64 nc) rfl a.data a.keep
                   obtain ⟨c1, c2, c3, c4⟩ := HA1.out.form
                   have fl1 := HA1.out.flt
                   obtain ⟨_, _, _, b3, _, _⟩ := HA1.out.step.cells
                   have q1 := y1
                   clear hw kw a y0 y1 y2 y3 y4 yf
                   have C2 := hide (next_yes ((w1).setCell ⟨sb, 1, none⟩ (.int .i64 nc)) wb d1 (z :: r) HA1.out.words)))
              exact ⟨rfl, KF.out, .inr ⟨HP.out, rfl⟩⟩
end Go.Proofs.YteaccpolmmkclaaDoor

set_option linter.unusedSimpArgs false
namespace Go.Proofs.YteaccpolmmkclaaDoor
open Go.RowKit

set_option maxHeartbeats 4000000 in
set_option maxRecDepth 1000000 in
theorem step_C (W : World) (wb : Nat) (ss : List ByteArray) (k : Nat) (hk : 1 ≤ k ∧ k ≤ 7) (T : Tabs W) (h6 : 6 ≤ wb) (hf : FormAt W k true false true false) (h : WordsAt W wb ss) (hl : ss.length ≤ 1048576) (hs : ∀ x ∈ ss, x.size ≤ 1073741823) :
    Calls Tryd.prog 50 #[.pointer (some ⟨wb, 0, none⟩), .int .i64 (k : Int)] W (StepPost W wb (k : Int) true false true false (tl ss)) := by
  obtain ⟨x, f0, f1, f2, f3, f4⟩ := hf
  have hfl := T.lt.1
  have i1 : (0 : Int) ≤ (k : Int) := by omega
  have i2 : (k : Int) < 8 := by omega
  obtain ⟨w0, fb, sb, rb, hw0, hfb, hsb, hrb, hA0⟩ := at_start W wb ss k x true false true false h
  have HA0 := hide hA0
  have HT := hide (And.intro T h6)
  have g0 := ((Below.refl _ W).alloc (Nat.le_refl _) (.cells #[.int .i64 0, .int .i64 0, .slice none 0 0, .int .i64 0, .slice none 0 0] 40))
  have e0 := (g0.cell (p := ⟨0, k * 5, none⟩) hfl).trans f0
  have e1 := (g0.cell (p := ⟨0, k * 5 + 1, none⟩) hfl).trans f1
  have e2 := (g0.cell (p := ⟨0, k * 5 + 2, none⟩) hfl).trans f2
  have e3 := (g0.cell (p := ⟨0, k * 5 + 3, none⟩) hfl).trans f3
  have e4 := (g0.cell (p := ⟨0, k * 5 + 4, none⟩) hfl).trans f4
  have HW0 := hide (And.intro hw0 (And.intro hfb (And.intro hsb hrb)))
  clear h T hA0 f0 f1 f2 f3 f4 g0 hw0 hfb hsb hrb
  go_enter Tryd.func50, Tryd.ntmps50
  go_upto_region 3 with fail
  rw [HW0.out.1, HW0.out.2.1, HW0.out.2.2.1, HW0.out.2.2.2]
  clear e0 e1 e2 e3 e4
  cases ss with
  | nil =>
    have HP : Hid (stepP (k : Int) true false true false (tl []) = none) := by
      show stepP _ _ _ _ _ _ = _
      simp [stepP, tailP, keepP, numP, hasP, tl]
    have C1 := hide (number_none (w0) wb HA0.out.words)
    unfold pan at C1
    obtain ⟨c1, c2, c3, c4⟩ := HA0.out.form
    have fl0 := HA0.out.flt
    go_wp2_with (first
      | (go_at_call 51
         refine C1.out.mono ?_
         rintro e w1 ⟨rfl, rfl⟩
         have KF := hide HA0.out.kept))
    exact ⟨rfl, KF.out, .inr ⟨HP.out, rfl⟩⟩
  | cons x1 r1 =>
    cases hp1 : parseB x1.data.toList maxWord
    · skip
      have HP : Hid (stepP (k : Int) true false true false (tl (x1 :: r1)) = none) := by
        show stepP _ _ _ _ _ _ = _
        simp [stepP, tailP, keepP, numP, hasP, tl, hp1]
      have C1 := hide (numBad (w0) wb x1 r1 HA0.out.words hp1)
      unfold pan at C1
      obtain ⟨c1, c2, c3, c4⟩ := HA0.out.form
      have fl0 := HA0.out.flt
      go_wp2_with (first
        | (go_at_call 51
           refine C1.out.mono ?_
           rintro e w1 ⟨rfl, hk⟩
           have KF := hide (HA0.out.kept.trans hk)
           clear hk))
      exact ⟨rfl, KF.out, .inr ⟨HP.out, rfl⟩⟩
    · obtain ⟨nc, hnc⟩ : ∃ nc, parseV x1.data.toList maxWord = nc := ⟨_, rfl⟩
      cases r1 with
      | nil =>
        have HP : Hid (stepP (k : Int) true false true false (tl (x1 :: [])) = some ⟨(k : Int), nc, [], 0, []⟩) := by
          show stepP _ _ _ _ _ _ = _
          simp [stepP, tailP, keepP, numP, hasP, tl, hp1, hnc]
        have C1 := hide (numOk (w0) wb x1 [] HA0.out.words ⟨hp1, hnc⟩)
        obtain ⟨c1, c2, c3, c4⟩ := HA0.out.form
        have fl0 := HA0.out.flt
        go_wp2_with (first
          | (go_at_call 52
             refine C3.out.mono ?_
             rintro e w3 ⟨rfl, hw3⟩
             rw [hw3]
             clear hw3 w3
             have a := HA2.out
             have HA3 : Hid (At W ((w1).setCell ⟨sb, 1, none⟩ (.int .i64 nc)) wb fb sb rb true false true false [] (k : Int) nc 0 (.slice none 0 0) (.slice none 0 0) [] []) := a
             obtain ⟨c1, c2, c3, c4⟩ := HA3.out.form
             have fl3 := HA3.out.flt
             clear a)
          | (go_at_call 62
             refine C2.out.mono ?_
             rintro e w2 ⟨rfl, hw2⟩
             rw [hw2]
             clear hw2 w2
             have a := HA1.out
             have HA2 : Hid (At W ((w1).setCell ⟨sb, 1, none⟩ (.int .i64 nc)) wb fb sb rb true false true false [] (k : Int) nc 0 (.slice none 0 0) (.slice none 0 0) [] []) := a
             obtain ⟨c1, c2, c3, c4⟩ := HA2.out.form
             have fl2 := HA2.out.flt
             clear a
             have C3 := hide (end_yes ((w1).setCell ⟨sb, 1, none⟩ (.int .i64 nc)) wb HA2.out.words))
          | (go_at_call 51
             refine C1.out.mono ?_
             rintro e w1 ⟨rfl, hw, kw⟩
             have a := HA0.out.call hw kw
             obtain ⟨y0, y1, y2, y3, y4, yf⟩ := a.step.cells
             have z1 := yf 1
             have sl1 := cell_lt y0
             have HA1 : Hid (At W ((w1).setCell ⟨sb, 1, none⟩ (.int .i64 nc)) wb fb sb rb true false true false [] (k : Int) nc 0 (.slice none 0 0) (.slice none 0 0) [] []) := a.store 1 (.int .i64 nc) rfl a.data a.keep
             obtain ⟨c1, c2, c3, c4⟩ := HA1.out.form
             have fl1 := HA1.out.flt
             obtain ⟨_, _, _, b3, _, _⟩ := HA1.out.step.cells
             have q1 := y1
             clear hw kw a y0 y1 y2 y3 y4 yf
             have C2 := hide (has_no ((w1).setCell ⟨sb, 1, none⟩ (.int .i64 nc)) wb breakT [] HA1.out.words (fun x r e => by cases e))
             try unfold breakT at C2)
          | (refine wpList_load_row rfl 40 (.tmp 6) rfl sb rfl 40 (#[.int .i64 (k : Int), .int .i64 nc, (.slice none 0 0), .int .i64 0, (.slice none 0 0)]) (0, 0) _ HA3.out.step Tryd.underlying40 rfl (by kernel_rfl) ?_)
          | (refine wpList_store_row rfl 40 (.tmp 4) (.tmp 46) rfl rb (#[.int .i64 (k : Int), .int .i64 nc, (.slice none 0 0), .int .i64 0, (.slice none 0 0)]) rfl rfl 40 _ HA3.out.res (by kernel_rfl) rfl (by simp [Value.oneCell']) ?_))
        obtain ⟨g1, g2, g3, g4⟩ := HA3.out.final
        refine bodyPost_ret (results_cell_row rfl _ _ rb 40 _ (0, 0) _ rfl g1 Tryd.underlying40 rfl (by kernel_rfl)) rfl ⟨g4, .inl ⟨⟨(k : Int), nc, [], 0, []⟩, _, _, HP.out, rfl, rfl, g2, g3⟩⟩
      | cons z r =>
        by_cases hz : z.data.toList = breakW
        · obtain rfl : z = breakT := by rcases z with ⟨⟨zl⟩⟩; simp [breakW] at hz; simp [breakT, hz]
          clear hz
          cases r with
          | nil =>
            have HP : Hid (stepP (k : Int) true false true false (tl (x1 :: (breakT :: []))) = none) := by
              show stepP _ _ _ _ _ _ = _
              simp [stepP, tailP, keepP, numP, hasP, tl, hp1, hnc, breakW, breakT]
            have C1 := hide (numOk (w0) wb x1 (breakT :: []) HA0.out.words ⟨hp1, hnc⟩)
            try unfold breakT at C1
            obtain ⟨c1, c2, c3, c4⟩ := HA0.out.form
            have fl0 := HA0.out.flt
            go_wp2_with (first
              | (go_at_call 51
                 refine C3.out.mono ?_
                 rintro e w3 ⟨rfl, rfl⟩
                 have KF := hide HA2.out.kept)
              | (go_at_call 62
                 refine C2.out.mono ?_
                 rintro e w2 ⟨rfl, hw, kw⟩
                 have a := HA1.out.call hw kw
                 have HA2 : Hid (At W (w2) wb fb sb rb true false true false [] (k : Int) nc 0 (.slice none 0 0) (.slice none 0 0) [] []) := a
                 obtain ⟨c1, c2, c3, c4⟩ := HA2.out.form
                 have fl2 := HA2.out.flt
                 clear hw kw a
                 have C3 := hide (number_none (w2) wb HA2.out.words)
                 unfold pan at C3)
              | (go_at_call 51
                 refine C1.out.mono ?_
                 rintro e w1 ⟨rfl, hw, kw⟩
                 have a := HA0.out.call hw kw
                 obtain ⟨y0, y1, y2, y3, y4, yf⟩ := a.step.cells
                 have z1 := yf 1
                 have sl1 := cell_lt y0
                 have HA1 : Hid (At W ((w1).setCell ⟨sb, 1, none⟩ (.int .i64 nc)) wb fb sb rb true false true false (breakT :: []) (k : Int) nc 0 (.slice none 0 0) (.slice none 0 0) [] []) := a.store 1 (.int .i64 nc) rfl a.data a.keep
                 obtain ⟨c1, c2, c3, c4⟩ := HA1.out.form
                 have fl1 := HA1.out.flt
                 obtain ⟨_, _, _, b3, _, _⟩ := HA1.out.step.cells
                 have q1 := y1
                 clear hw kw a y0 y1 y2 y3 y4 yf
                 have C2 := hide (has_yes ((w1).setCell ⟨sb, 1, none⟩ (.int .i64 nc)) wb breakT [] HA1.out.words)
                 try unfold breakT at C2))
            exact ⟨rfl, KF.out, .inr ⟨HP.out, rfl⟩⟩
          | cons n q =>
            cases hpn : parseB n.data.toList maxWord
            · skip
              have HP : Hid (stepP (k : Int) true false true false (tl (x1 :: (breakT :: n :: q))) = none) := by
                show stepP _ _ _ _ _ _ = _
                simp [stepP, tailP, keepP, numP, hasP, tl, hp1, hnc, breakW, breakT, hpn]
              have C1 := hide (numOk (w0) wb x1 (breakT :: n :: q) HA0.out.words ⟨hp1, hnc⟩)
              try unfold breakT at C1
              obtain ⟨c1, c2, c3, c4⟩ := HA0.out.form
              have fl0 := HA0.out.flt
              go_wp2_with (first
                | (go_at_call 51
                   refine C3.out.mono ?_
                   rintro e w3 ⟨rfl, hk⟩
                   have KF := hide (HA2.out.kept.trans hk)
                   clear hk)
                | (go_at_call 62
                   refine C2.out.mono ?_
                   rintro e w2 ⟨rfl, hw, kw⟩
                   have a := HA1.out.call hw kw
                   have HA2 : Hid (At W (w2) wb fb sb rb true false true false (n :: q) (k : Int) nc 0 (.slice none 0 0) (.slice none 0 0) [] []) := a
                   obtain ⟨c1, c2, c3, c4⟩ := HA2.out.form
                   have fl2 := HA2.out.flt
                   clear hw kw a
                   have C3 := hide (numBad (w2) wb n q HA2.out.words hpn)
                   unfold pan at C3)
                | (go_at_call 51
                   refine C1.out.mono ?_
                   rintro e w1 ⟨rfl, hw, kw⟩
                   have a := HA0.out.call hw kw
                   obtain ⟨y0, y1, y2, y3, y4, yf⟩ := a.step.cells
                   have z1 := yf 1
                   have sl1 := cell_lt y0
                   have HA1 : Hid (At W ((w1).setCell ⟨sb, 1, none⟩ (.int .i64 nc)) wb fb sb rb true false true false (breakT :: n :: q) (k : Int) nc 0 (.slice none 0 0) (.slice none 0 0) [] []) := a.store 1 (.int .i64 nc) rfl a.data a.keep
                   obtain ⟨c1, c2, c3, c4⟩ := HA1.out.form
                   have fl1 := HA1.out.flt
                   obtain ⟨_, _, _, b3, _, _⟩ := HA1.out.step.cells
                   have q1 := y1
                   clear hw kw a y0 y1 y2 y3 y4 yf
                   have C2 := hide (has_yes ((w1).setCell ⟨sb, 1, none⟩ (.int .i64 nc)) wb breakT (n :: q) HA1.out.words)
                   try unfold breakT at C2))
              exact ⟨rfl, KF.out, .inr ⟨HP.out, rfl⟩⟩
            · obtain ⟨nb, hnb⟩ : ∃ nb, parseV n.data.toList maxWord = nb := ⟨_, rfl⟩
              by_cases hn0 : nb = 0
              · subst hn0
                have HP : Hid (stepP (k : Int) true false true false (tl (x1 :: (breakT :: n :: q))) = none) := by
                  show stepP _ _ _ _ _ _ = _
                  simp [stepP, tailP, keepP, numP, hasP, tl, hp1, hnc, breakW, breakT, hpn, hnb]
                have C1 := hide (numOk (w0) wb x1 (breakT :: n :: q) HA0.out.words ⟨hp1, hnc⟩)
                try unfold breakT at C1
                obtain ⟨c1, c2, c3, c4⟩ := HA0.out.form
                have fl0 := HA0.out.flt
                go_wp2_with (first
                  | (go_at_call 51
                     refine C3.out.mono ?_
                     rintro e w3 ⟨rfl, hw, kw⟩
                     have a := HA2.out.call hw kw
                     obtain ⟨y0, y1, y2, y3, y4, yf⟩ := a.step.cells
                     have z3 := yf 3
                     have sl3 := cell_lt y0
                     have HA3 : Hid (At W ((w3).setCell ⟨sb, 3, none⟩ (.int .i64 0)) wb fb sb rb true false true false q (k : Int) nc 0 (.slice none 0 0) (.slice none 0 0) [] []) := a.store 3 (.int .i64 0) rfl a.data a.keep
                     obtain ⟨c1, c2, c3, c4⟩ := HA3.out.form
                     have fl3 := HA3.out.flt
                     obtain ⟨_, _, _, b3, _, _⟩ := HA3.out.step.cells
                     have q3 := y3
                     clear hw kw a y0 y1 y2 y3 y4 yf
                     have KF := hide HA3.out.kept)
                  | (go_at_call 62
                     refine C2.out.mono ?_
                     rintro e w2 ⟨rfl, hw, kw⟩
                     have a := HA1.out.call hw kw
                     have HA2 : Hid (At W (w2) wb fb sb rb true false true false (n :: q) (k : Int) nc 0 (.slice none 0 0) (.slice none 0 0) [] []) := a
                     obtain ⟨c1, c2, c3, c4⟩ := HA2.out.form
                     have fl2 := HA2.out.flt
                     clear hw kw a
                     have C3 := hide (numOk (w2) wb n q HA2.out.words ⟨hpn, hnb⟩))
                  | (go_at_call 51
                     refine C1.out.mono ?_
                     rintro e w1 ⟨rfl, hw, kw⟩
                     have a := HA0.out.call hw kw
                     obtain ⟨y0, y1, y2, y3, y4, yf⟩ := a.step.cells
                     have z1 := yf 1
                     have sl1 := cell_lt y0
                     have HA1 : Hid (At W ((w1).setCell ⟨sb, 1, none⟩ (.int .i64 nc)) wb fb sb rb true false true false (breakT :: n :: q) (k : Int) nc 0 (.slice none 0 0) (.slice none 0 0) [] []) := a.store 1 (.int .i64 nc) rfl a.data a.keep
                     obtain ⟨c1, c2, c3, c4⟩ := HA1.out.form
                     have fl1 := HA1.out.flt
                     obtain ⟨_, _, _, b3, _, _⟩ := HA1.out.step.cells
                     have q1 := y1
                     clear hw kw a y0 y1 y2 y3 y4 yf
                     have C2 := hide (has_yes ((w1).setCell ⟨sb, 1, none⟩ (.int .i64 nc)) wb breakT (n :: q) HA1.out.words)
                     try unfold breakT at C2))
                exact ⟨rfl, KF.out, .inr ⟨HP.out, rfl⟩⟩
              · have hnbb : (nb == 0) = false := by simpa using hn0
                cases q with
                | nil =>
                  have HP : Hid (stepP (k : Int) true false true false (tl (x1 :: (breakT :: n :: []))) = some ⟨(k : Int), nc, [], nb, []⟩) := by
                    show stepP _ _ _ _ _ _ = _
                    simp [stepP, tailP, keepP, numP, hasP, tl, hp1, hnc, breakW, breakT, hpn, hnb, hn0]
                  have C1 := hide (numOk (w0) wb x1 (breakT :: n :: []) HA0.out.words ⟨hp1, hnc⟩)
                  try unfold breakT at C1
                  obtain ⟨c1, c2, c3, c4⟩ := HA0.out.form
                  have fl0 := HA0.out.flt
                  go_wp2_with (first
                    | (go_at_call 52
                       refine C5.out.mono ?_
                       rintro e w5 ⟨rfl, hw5⟩
                       rw [hw5]
                       clear hw5 w5
                       have a := HA4.out
                       have HA5 : Hid (At W (((w3).setCell ⟨sb, 3, none⟩ (.int .i64 nb)).setCell ⟨sb, 4, none⟩ (.slice none 0 0)) wb fb sb rb true false true false [] (k : Int) nc nb (.slice none 0 0) (.slice none 0 0) [] []) := a
                       obtain ⟨c1, c2, c3, c4⟩ := HA5.out.form
                       have fl5 := HA5.out.flt
                       clear a)
                    | (go_at_call 63
                       refine C4.out.mono ?_
                       rintro e w4 ⟨rfl, hw4⟩
                       rw [hw4]
                       clear hw4 w4
                       have a := HA3.out
                       obtain ⟨y0, y1, y2, y3, y4, yf⟩ := a.step.cells
                       have z4 := yf 4
                       have sl4 := cell_lt y0
                       have HA4 : Hid (At W (((w3).setCell ⟨sb, 3, none⟩ (.int .i64 nb)).setCell ⟨sb, 4, none⟩ (.slice none 0 0)) wb fb sb rb true false true false [] (k : Int) nc nb (.slice none 0 0) (.slice none 0 0) [] []) := a.store 4 (.slice none 0 0) rfl a.data (OwnI.nil _ _)
                       obtain ⟨c1, c2, c3, c4⟩ := HA4.out.form
                       have fl4 := HA4.out.flt
                       obtain ⟨_, _, _, b3, _, _⟩ := HA4.out.step.cells
                       have q4 := y4
                       clear a y0 y1 y2 y3 y4 yf
                       have C5 := hide (end_yes (((w3).setCell ⟨sb, 3, none⟩ (.int .i64 nb)).setCell ⟨sb, 4, none⟩ (.slice none 0 0)) wb HA4.out.words))
                    | (go_at_call 51
                       refine C3.out.mono ?_
                       rintro e w3 ⟨rfl, hw, kw⟩
                       have a := HA2.out.call hw kw
                       obtain ⟨y0, y1, y2, y3, y4, yf⟩ := a.step.cells
                       have z3 := yf 3
                       have sl3 := cell_lt y0
                       have HA3 : Hid (At W ((w3).setCell ⟨sb, 3, none⟩ (.int .i64 nb)) wb fb sb rb true false true false [] (k : Int) nc nb (.slice none 0 0) (.slice none 0 0) [] []) := a.store 3 (.int .i64 nb) rfl a.data a.keep
                       obtain ⟨c1, c2, c3, c4⟩ := HA3.out.form
                       have fl3 := HA3.out.flt
                       obtain ⟨_, _, _, b3, _, _⟩ := HA3.out.step.cells
                       have q3 := y3
                       clear hw kw a y0 y1 y2 y3 y4 yf
                       have C4 := hide (keep_none ((w3).setCell ⟨sb, 3, none⟩ (.int .i64 nb)) wb [] HA3.out.words rfl))
                    | (go_at_call 62
                       refine C2.out.mono ?_
                       rintro e w2 ⟨rfl, hw, kw⟩
                       have a := HA1.out.call hw kw
                       have HA2 : Hid (At W (w2) wb fb sb rb true false true false (n :: []) (k : Int) nc 0 (.slice none 0 0) (.slice none 0 0) [] []) := a
                       obtain ⟨c1, c2, c3, c4⟩ := HA2.out.form
                       have fl2 := HA2.out.flt
                       clear hw kw a
                       have C3 := hide (numOk (w2) wb n [] HA2.out.words ⟨hpn, hnb⟩))
                    | (go_at_call 51
                       refine C1.out.mono ?_
                       rintro e w1 ⟨rfl, hw, kw⟩
                       have a := HA0.out.call hw kw
                       obtain ⟨y0, y1, y2, y3, y4, yf⟩ := a.step.cells
                       have z1 := yf 1
                       have sl1 := cell_lt y0
                       have HA1 : Hid (At W ((w1).setCell ⟨sb, 1, none⟩ (.int .i64 nc)) wb fb sb rb true false true false (breakT :: n :: []) (k : Int) nc 0 (.slice none 0 0) (.slice none 0 0) [] []) := a.store 1 (.int .i64 nc) rfl a.data a.keep
                       obtain ⟨c1, c2, c3, c4⟩ := HA1.out.form
                       have fl1 := HA1.out.flt
                       obtain ⟨_, _, _, b3, _, _⟩ := HA1.out.step.cells
                       have q1 := y1
                       clear hw kw a y0 y1 y2 y3 y4 yf
                       have C2 := hide (has_yes ((w1).setCell ⟨sb, 1, none⟩ (.int .i64 nc)) wb breakT (n :: []) HA1.out.words)
                       try unfold breakT at C2)
                    | (refine wpList_load_row rfl 40 (.tmp 6) rfl sb rfl 40 (#[.int .i64 (k : Int), .int .i64 nc, (.slice none 0 0), .int .i64 nb, (.slice none 0 0)]) (0, 0) _ HA5.out.step Tryd.underlying40 rfl (by kernel_rfl) ?_)
                    | (refine wpList_store_row rfl 40 (.tmp 4) (.tmp 46) rfl rb (#[.int .i64 (k : Int), .int .i64 nc, (.slice none 0 0), .int .i64 nb, (.slice none 0 0)]) rfl rfl 40 _ HA5.out.res (by kernel_rfl) rfl (by simp [Value.oneCell']) ?_))
                  obtain ⟨g1, g2, g3, g4⟩ := HA5.out.final
                  refine bodyPost_ret (results_cell_row rfl _ _ rb 40 _ (0, 0) _ rfl g1 Tryd.underlying40 rfl (by kernel_rfl)) rfl ⟨g4, .inl ⟨⟨(k : Int), nc, [], nb, []⟩, _, _, HP.out, rfl, rfl, g2, g3⟩⟩
                | cons y t =>
                  by_cases hy : y.data.toList = keepW
                  · have hyt : y = keepT := by rcases y with ⟨⟨yl⟩⟩; simp [keepW] at hy; simp [keepT, hy]
                    have HYT := hide hyt
                    clear hyt
                    have htl : t.length ≤ 1048576 := by simp at hl; omega
                    cases hnp : numsP (tl t) with
                    | none =>
                      have HP : Hid (stepP (k : Int) true false true false (tl (x1 :: (breakT :: n :: (y :: t)))) = none) := by
                        show stepP _ _ _ _ _ _ = _
                        simp [stepP, tailP, keepP, numP, hasP, tl, hp1, hnc, breakW, breakT, hpn, hnb, hn0, hy, hnp]
                      clear hy
                      have C1 := hide (numOk (w0) wb x1 (breakT :: n :: (y :: t)) HA0.out.words ⟨hp1, hnc⟩)
                      try unfold breakT at C1
                      obtain ⟨c1, c2, c3, c4⟩ := HA0.out.form
                      have fl0 := HA0.out.flt
                      go_wp2_with (first
                        | (go_at_call 63
                           refine C4.out.mono ?_
                           rintro e w4 ⟨rfl, hk⟩
                           have KF := hide (HA3.out.kept.trans hk)
                           clear hk)
                        | (go_at_call 51
                           refine C3.out.mono ?_
                           rintro e w3 ⟨rfl, hw, kw⟩
                           have a := HA2.out.call hw kw
                           obtain ⟨y0, y1, y2, y3, y4, yf⟩ := a.step.cells
                           have z3 := yf 3
                           have sl3 := cell_lt y0
                           have HA3 : Hid (At W ((w3).setCell ⟨sb, 3, none⟩ (.int .i64 nb)) wb fb sb rb true false true false (y :: t) (k : Int) nc nb (.slice none 0 0) (.slice none 0 0) [] []) := a.store 3 (.int .i64 nb) rfl a.data a.keep
                           obtain ⟨c1, c2, c3, c4⟩ := HA3.out.form
                           have fl3 := HA3.out.flt
                           obtain ⟨_, _, _, b3, _, _⟩ := HA3.out.step.cells
                           have q3 := y3
                           clear hw kw a y0 y1 y2 y3 y4 yf
                           have C4 := hide (keepBad ((w3).setCell ⟨sb, 3, none⟩ (.int .i64 nb)) wb y t HA3.out.words HYT.out htl (fun l e => by rw [hnp] at e; cases e))
                           unfold pan at C4)
                        | (go_at_call 62
                           refine C2.out.mono ?_
                           rintro e w2 ⟨rfl, hw, kw⟩
                           have a := HA1.out.call hw kw
                           have HA2 : Hid (At W (w2) wb fb sb rb true false true false (n :: (y :: t)) (k : Int) nc 0 (.slice none 0 0) (.slice none 0 0) [] []) := a
                           obtain ⟨c1, c2, c3, c4⟩ := HA2.out.form
                           have fl2 := HA2.out.flt
                           clear hw kw a
                           have C3 := hide (numOk (w2) wb n (y :: t) HA2.out.words ⟨hpn, hnb⟩))
                        | (go_at_call 51
                           refine C1.out.mono ?_
                           rintro e w1 ⟨rfl, hw, kw⟩
                           have a := HA0.out.call hw kw
                           obtain ⟨y0, y1, y2, y3, y4, yf⟩ := a.step.cells
                           have z1 := yf 1
                           have sl1 := cell_lt y0
                           have HA1 : Hid (At W ((w1).setCell ⟨sb, 1, none⟩ (.int .i64 nc)) wb fb sb rb true false true false (breakT :: n :: (y :: t)) (k : Int) nc 0 (.slice none 0 0) (.slice none 0 0) [] []) := a.store 1 (.int .i64 nc) rfl a.data a.keep
                           obtain ⟨c1, c2, c3, c4⟩ := HA1.out.form
                           have fl1 := HA1.out.flt
                           obtain ⟨_, _, _, b3, _, _⟩ := HA1.out.step.cells
                           have q1 := y1
                           clear hw kw a y0 y1 y2 y3 y4 yf
                           have C2 := hide (has_yes ((w1).setCell ⟨sb, 1, none⟩ (.int .i64 nc)) wb breakT (n :: (y :: t)) HA1.out.words)
                           try unfold breakT at C2))
                      exact ⟨rfl, KF.out, .inr ⟨HP.out, rfl⟩⟩
                    | some l =>
                      by_cases hl0 : l = []
                      · subst hl0
                        have HP : Hid (stepP (k : Int) true false true false (tl (x1 :: (breakT :: n :: (y :: t)))) = none) := by
                          show stepP _ _ _ _ _ _ = _
                          simp [stepP, tailP, keepP, numP, hasP, tl, hp1, hnc, breakW, breakT, hpn, hnb, hn0, hy, hnp]
                        clear hy
                        have C1 := hide (numOk (w0) wb x1 (breakT :: n :: (y :: t)) HA0.out.words ⟨hp1, hnc⟩)
                        try unfold breakT at C1
                        obtain ⟨c1, c2, c3, c4⟩ := HA0.out.form
                        have fl0 := HA0.out.flt
                        go_wp2_with (first
                          | (go_at_call 63
                             refine C4.out.mono ?_
                             rintro e w4 ⟨rfl, hk⟩
                             have KF := hide (HA3.out.kept.trans hk)
                             clear hk)
                          | (go_at_call 51
                             refine C3.out.mono ?_
                             rintro e w3 ⟨rfl, hw, kw⟩
                             have a := HA2.out.call hw kw
                             obtain ⟨y0, y1, y2, y3, y4, yf⟩ := a.step.cells
                             have z3 := yf 3
                             have sl3 := cell_lt y0
                             have HA3 : Hid (At W ((w3).setCell ⟨sb, 3, none⟩ (.int .i64 nb)) wb fb sb rb true false true false (y :: t) (k : Int) nc nb (.slice none 0 0) (.slice none 0 0) [] []) := a.store 3 (.int .i64 nb) rfl a.data a.keep
                             obtain ⟨c1, c2, c3, c4⟩ := HA3.out.form
                             have fl3 := HA3.out.flt
                             obtain ⟨_, _, _, b3, _, _⟩ := HA3.out.step.cells
                             have q3 := y3
                             clear hw kw a y0 y1 y2 y3 y4 yf
                             have C4 := hide (keepBad ((w3).setCell ⟨sb, 3, none⟩ (.int .i64 nb)) wb y t HA3.out.words HYT.out htl (fun l e => by rw [hnp] at e; cases e; rfl))
                             unfold pan at C4)
                          | (go_at_call 62
                             refine C2.out.mono ?_
                             rintro e w2 ⟨rfl, hw, kw⟩
                             have a := HA1.out.call hw kw
                             have HA2 : Hid (At W (w2) wb fb sb rb true false true false (n :: (y :: t)) (k : Int) nc 0 (.slice none 0 0) (.slice none 0 0) [] []) := a
                             obtain ⟨c1, c2, c3, c4⟩ := HA2.out.form
                             have fl2 := HA2.out.flt
                             clear hw kw a
                             have C3 := hide (numOk (w2) wb n (y :: t) HA2.out.words ⟨hpn, hnb⟩))
                          | (go_at_call 51
                             refine C1.out.mono ?_
                             rintro e w1 ⟨rfl, hw, kw⟩
                             have a := HA0.out.call hw kw
                             obtain ⟨y0, y1, y2, y3, y4, yf⟩ := a.step.cells
                             have z1 := yf 1
                             have sl1 := cell_lt y0
                             have HA1 : Hid (At W ((w1).setCell ⟨sb, 1, none⟩ (.int .i64 nc)) wb fb sb rb true false true false (breakT :: n :: (y :: t)) (k : Int) nc 0 (.slice none 0 0) (.slice none 0 0) [] []) := a.store 1 (.int .i64 nc) rfl a.data a.keep
                             obtain ⟨c1, c2, c3, c4⟩ := HA1.out.form
                             have fl1 := HA1.out.flt
                             obtain ⟨_, _, _, b3, _, _⟩ := HA1.out.step.cells
                             have q1 := y1
                             clear hw kw a y0 y1 y2 y3 y4 yf
                             have C2 := hide (has_yes ((w1).setCell ⟨sb, 1, none⟩ (.int .i64 nc)) wb breakT (n :: (y :: t)) HA1.out.words)
                             try unfold breakT at C2))
                        exact ⟨rfl, KF.out, .inr ⟨HP.out, rfl⟩⟩
                      · obtain ⟨l0, lr, hlr⟩ : ∃ a b, l = a :: b := by cases l with | nil => exact absurd rfl hl0 | cons a b => exact ⟨a, b, rfl⟩
                        have HP : Hid (stepP (k : Int) true false true false (tl (x1 :: (breakT :: n :: (y :: t)))) = some ⟨(k : Int), nc, [], nb, l⟩) := by
                          show stepP _ _ _ _ _ _ = _
                          simp [stepP, tailP, keepP, numP, hasP, tl, hp1, hnc, breakW, breakT, hpn, hnb, hn0, hy, hnp, hlr]
                        clear hlr l0 lr
                        clear hy
                        have C1 := hide (numOk (w0) wb x1 (breakT :: n :: (y :: t)) HA0.out.words ⟨hp1, hnc⟩)
                        try unfold breakT at C1
                        obtain ⟨c1, c2, c3, c4⟩ := HA0.out.form
                        have fl0 := HA0.out.flt
                        go_wp2_with (first
                          | (go_at_call 52
                             refine C5.out.mono ?_
                             rintro e w5 ⟨rfl, hw5⟩
                             rw [hw5]
                             clear hw5 w5
                             have a := HA4.out
                             have HA5 : Hid (At W ((w4).setCell ⟨sb, 4, none⟩ (.slice va4 l.length ca4)) wb fb sb rb true false true false [] (k : Int) nc nb (.slice none 0 0) (.slice va4 l.length ca4) [] l) := a
                             obtain ⟨c1, c2, c3, c4⟩ := HA5.out.form
                             have fl5 := HA5.out.flt
                             clear a)
                          | (go_at_call 63
                             refine C4.out.mono ?_
                             rintro e w4 ⟨va4, ca4, rfl, ho, hw, kw⟩
                             have a := HA3.out.call hw kw
                             obtain ⟨y0, y1, y2, y3, y4, yf⟩ := a.step.cells
                             have z4 := yf 4
                             have sl4 := cell_lt y0
                             have HA4 : Hid (At W ((w4).setCell ⟨sb, 4, none⟩ (.slice va4 l.length ca4)) wb fb sb rb true false true false [] (k : Int) nc nb (.slice none 0 0) (.slice va4 l.length ca4) [] l) := a.store 4 (.slice va4 l.length ca4) rfl a.data (ho.mono (HA3.out.kept.size))
                             obtain ⟨c1, c2, c3, c4⟩ := HA4.out.form
                             have fl4 := HA4.out.flt
                             obtain ⟨_, _, _, b3, _, _⟩ := HA4.out.step.cells
                             have q4 := y4
                             clear hw kw a ho y0 y1 y2 y3 y4 yf
                             have C5 := hide (end_yes ((w4).setCell ⟨sb, 4, none⟩ (.slice va4 l.length ca4)) wb HA4.out.words))
                          | (go_at_call 51
                             refine C3.out.mono ?_
                             rintro e w3 ⟨rfl, hw, kw⟩
                             have a := HA2.out.call hw kw
                             obtain ⟨y0, y1, y2, y3, y4, yf⟩ := a.step.cells
                             have z3 := yf 3
                             have sl3 := cell_lt y0
                             have HA3 : Hid (At W ((w3).setCell ⟨sb, 3, none⟩ (.int .i64 nb)) wb fb sb rb true false true false (y :: t) (k : Int) nc nb (.slice none 0 0) (.slice none 0 0) [] []) := a.store 3 (.int .i64 nb) rfl a.data a.keep
                             obtain ⟨c1, c2, c3, c4⟩ := HA3.out.form
                             have fl3 := HA3.out.flt
                             obtain ⟨_, _, _, b3, _, _⟩ := HA3.out.step.cells
                             have q3 := y3
                             clear hw kw a y0 y1 y2 y3 y4 yf
                             have C4 := hide (keepOk ((w3).setCell ⟨sb, 3, none⟩ (.int .i64 nb)) wb y t HA3.out.words HYT.out htl hnp hl0))
                          | (go_at_call 62
                             refine C2.out.mono ?_
                             rintro e w2 ⟨rfl, hw, kw⟩
                             have a := HA1.out.call hw kw
                             have HA2 : Hid (At W (w2) wb fb sb rb true false true false (n :: (y :: t)) (k : Int) nc 0 (.slice none 0 0) (.slice none 0 0) [] []) := a
                             obtain ⟨c1, c2, c3, c4⟩ := HA2.out.form
                             have fl2 := HA2.out.flt
                             clear hw kw a
                             have C3 := hide (numOk (w2) wb n (y :: t) HA2.out.words ⟨hpn, hnb⟩))
                          | (go_at_call 51
                             refine C1.out.mono ?_
                             rintro e w1 ⟨rfl, hw, kw⟩
                             have a := HA0.out.call hw kw
                             obtain ⟨y0, y1, y2, y3, y4, yf⟩ := a.step.cells
                             have z1 := yf 1
                             have sl1 := cell_lt y0
                             have HA1 : Hid (At W ((w1).setCell ⟨sb, 1, none⟩ (.int .i64 nc)) wb fb sb rb true false true false (breakT :: n :: (y :: t)) (k : Int) nc 0 (.slice none 0 0) (.slice none 0 0) [] []) := a.store 1 (.int .i64 nc) rfl a.data a.keep
                             obtain ⟨c1, c2, c3, c4⟩ := HA1.out.form
                             have fl1 := HA1.out.flt
                             obtain ⟨_, _, _, b3, _, _⟩ := HA1.out.step.cells
                             have q1 := y1
                             clear hw kw a y0 y1 y2 y3 y4 yf
                             have C2 := hide (has_yes ((w1).setCell ⟨sb, 1, none⟩ (.int .i64 nc)) wb breakT (n :: (y :: t)) HA1.out.words)
                             try unfold breakT at C2)
                          | (refine wpList_load_row rfl 40 (.tmp 6) rfl sb rfl 40 (#[.int .i64 (k : Int), .int .i64 nc, (.slice none 0 0), .int .i64 nb, (.slice va4 l.length ca4)]) (0, 0) _ HA5.out.step Tryd.underlying40 rfl (by kernel_rfl) ?_)
                          | (refine wpList_store_row rfl 40 (.tmp 4) (.tmp 46) rfl rb (#[.int .i64 (k : Int), .int .i64 nc, (.slice none 0 0), .int .i64 nb, (.slice va4 l.length ca4)]) rfl rfl 40 _ HA5.out.res (by kernel_rfl) rfl (by simp [Value.oneCell']) ?_))
                        obtain ⟨g1, g2, g3, g4⟩ := HA5.out.final
                        refine bodyPost_ret (results_cell_row rfl _ _ rb 40 _ (0, 0) _ rfl g1 Tryd.underlying40 rfl (by kernel_rfl)) rfl ⟨g4, .inl ⟨⟨(k : Int), nc, [], nb, l⟩, _, _, HP.out, rfl, rfl, g2, g3⟩⟩
                  · skip
                    have HP : Hid (stepP (k : Int) true false true false (tl (x1 :: (breakT :: n :: (y :: t)))) = none) := by
                      show stepP _ _ _ _ _ _ = _
                      simp [stepP, tailP, keepP, numP, hasP, tl, hp1, hnc, breakW, breakT, hpn, hnb, hn0, hy]
                    have C1 := hide (numOk (w0) wb x1 (breakT :: n :: (y :: t)) HA0.out.words ⟨hp1, hnc⟩)
                    try unfold breakT at C1
                    obtain ⟨c1, c2, c3, c4⟩ := HA0.out.form
                    have fl0 := HA0.out.flt
                    go_wp2_with (first
                      | (go_at_call 52
                         refine C5.out.mono ?_
                         rintro e w5 ⟨rfl, rfl⟩
                         have KF := hide HA4.out.kept)
                      | (go_at_call 63
                         refine C4.out.mono ?_
                         rintro e w4 ⟨rfl, hw4⟩
                         rw [hw4]
                         clear hw4 w4
                         have a := HA3.out
                         obtain ⟨y0, y1, y2, y3, y4, yf⟩ := a.step.cells
                         have z4 := yf 4
                         have sl4 := cell_lt y0
                         have HA4 : Hid (At W (((w3).setCell ⟨sb, 3, none⟩ (.int .i64 nb)).setCell ⟨sb, 4, none⟩ (.slice none 0 0)) wb fb sb rb true false true false (y :: t) (k : Int) nc nb (.slice none 0 0) (.slice none 0 0) [] []) := a.store 4 (.slice none 0 0) rfl a.data (OwnI.nil _ _)
                         obtain ⟨c1, c2, c3, c4⟩ := HA4.out.form
                         have fl4 := HA4.out.flt
                         obtain ⟨_, _, _, b3, _, _⟩ := HA4.out.step.cells
                         have q4 := y4
                         clear a y0 y1 y2 y3 y4 yf
                         have C5 := hide (end_no (((w3).setCell ⟨sb, 3, none⟩ (.int .i64 nb)).setCell ⟨sb, 4, none⟩ (.slice none 0 0)) wb (y :: t) HA4.out.words (by simp))
                         unfold pan at C5)
                      | (go_at_call 51
                         refine C3.out.mono ?_
                         rintro e w3 ⟨rfl, hw, kw⟩
                         have a := HA2.out.call hw kw
                         obtain ⟨y0, y1, y2, y3, y4, yf⟩ := a.step.cells
                         have z3 := yf 3
                         have sl3 := cell_lt y0
                         have HA3 : Hid (At W ((w3).setCell ⟨sb, 3, none⟩ (.int .i64 nb)) wb fb sb rb true false true false (y :: t) (k : Int) nc nb (.slice none 0 0) (.slice none 0 0) [] []) := a.store 3 (.int .i64 nb) rfl a.data a.keep
                         obtain ⟨c1, c2, c3, c4⟩ := HA3.out.form
                         have fl3 := HA3.out.flt
                         obtain ⟨_, _, _, b3, _, _⟩ := HA3.out.step.cells
                         have q3 := y3
                         clear hw kw a y0 y1 y2 y3 y4 yf
                         have C4 := hide (keep_none ((w3).setCell ⟨sb, 3, none⟩ (.int .i64 nb)) wb (y :: t) HA3.out.words (by simp [hasP, tl, hy])))
                      | (go_at_call 62
                         refine C2.out.mono ?_
                         rintro e w2 ⟨rfl, hw, kw⟩
                         have a := HA1.out.call hw kw
                         have HA2 : Hid (At W (w2) wb fb sb rb true false true false (n :: (y :: t)) (k : Int) nc 0 (.slice none 0 0) (.slice none 0 0) [] []) := a
                         obtain ⟨c1, c2, c3, c4⟩ := HA2.out.form
                         have fl2 := HA2.out.flt
                         clear hw kw a
                         have C3 := hide (numOk (w2) wb n (y :: t) HA2.out.words ⟨hpn, hnb⟩))
                      | (go_at_call 51
                         refine C1.out.mono ?_
                         rintro e w1 ⟨rfl, hw, kw⟩
                         have a := HA0.out.call hw kw
                         obtain ⟨y0, y1, y2, y3, y4, yf⟩ := a.step.cells
                         have z1 := yf 1
                         have sl1 := cell_lt y0
                         have HA1 : Hid (At W ((w1).setCell ⟨sb, 1, none⟩ (.int .i64 nc)) wb fb sb rb true false true false (breakT :: n :: (y :: t)) (k : Int) nc 0 (.slice none 0 0) (.slice none 0 0) [] []) := a.store 1 (.int .i64 nc) rfl a.data a.keep
                         obtain ⟨c1, c2, c3, c4⟩ := HA1.out.form
                         have fl1 := HA1.out.flt
                         obtain ⟨_, _, _, b3, _, _⟩ := HA1.out.step.cells
                         have q1 := y1
                         clear hw kw a y0 y1 y2 y3 y4 yf
                         have C2 := hide (has_yes ((w1).setCell ⟨sb, 1, none⟩ (.int .i64 nc)) wb breakT (n :: (y :: t)) HA1.out.words)
                         try unfold breakT at C2))
                    exact ⟨rfl, KF.out, .inr ⟨HP.out, rfl⟩⟩
        · skip
          have HP : Hid (stepP (k : Int) true false true false (tl (x1 :: (z :: r))) = none) := by
            show stepP _ _ _ _ _ _ = _
            simp [stepP, tailP, keepP, numP, hasP, tl, hp1, hnc, hz]
          have C1 := hide (numOk (w0) wb x1 (z :: r) HA0.out.words ⟨hp1, hnc⟩)
          obtain ⟨c1, c2, c3, c4⟩ := HA0.out.form
          have fl0 := HA0.out.flt
          go_wp2_with (first
            | (go_at_call 52
               refine C3.out.mono ?_
               rintro e w3 ⟨rfl, rfl⟩
               have KF := hide HA2.out.kept)
            | (go_at_call 62
               refine C2.out.mono ?_
               rintro e w2 ⟨rfl, hw2⟩
               rw [hw2]
               clear hw2 w2
               have a := HA1.out
               have HA2 : Hid (At W ((w1).setCell ⟨sb, 1, none⟩ (.int .i64 nc)) wb fb sb rb true false true false (z :: r) (k : Int) nc 0 (.slice none 0 0) (.slice none 0 0) [] []) := a
               obtain ⟨c1, c2, c3, c4⟩ := HA2.out.form
               have fl2 := HA2.out.flt
               clear a
               have C3 := hide (end_no ((w1).setCell ⟨sb, 1, none⟩ (.int .i64 nc)) wb (z :: r) HA2.out.words (by simp))
               unfold pan at C3)
            | (go_at_call 51
               refine C1.out.mono ?_
               rintro e w1 ⟨rfl, hw, kw⟩
               have a := HA0.out.call hw kw
               obtain ⟨y0, y1, y2, y3, y4, yf⟩ := a.step.cells
               have z1 := yf 1
               have sl1 := cell_lt y0
               have HA1 : Hid (At W ((w1).setCell ⟨sb, 1, none⟩ (.int .i64 nc)) wb fb sb rb true false true false (z :: r) (k : Int) nc 0 (.slice none 0 0) (.slice none 0 0) [] []) := a.store 1 (.int .i64 nc) rfl a.data a.keep
               obtain ⟨c1, c2, c3, c4⟩ := HA1.out.form
               have fl1 := HA1.out.flt
               obtain ⟨_, _, _, b3, _, _⟩ := HA1.out.step.cells
               have q1 := y1
               clear hw kw a y0 y1 y2 y3 y4 yf
               have C2 := hide (has_no ((w1).setCell ⟨sb, 1, none⟩ (.int .i64 nc)) wb breakT (z :: r) HA1.out.words (fun x r e => by cases e; exact hz))
               try unfold breakT at C2))
          exact ⟨rfl, KF.out, .inr ⟨HP.out, rfl⟩⟩
end Go.Proofs.YteaccpolmmkclaaDoor

namespace Go.Proofs.YteaccpolmmkclaaDoor
open Go.RowKit

/-- What the words' step answers. -/
def StepOut (W : World) (wb : Nat) (k : Int) (l : List Tx) (e : Ending) (w' : World) : Prop :=
  Kept (fun j => j = wb) W w' ∧ ((∃ p dv kv, stepK k l = some p ∧ p.kind = k ∧ e = .returned (.agg #[.int .i64 k, .int .i64 p.conn, dv, .int .i64 p.brk, kv]) ∧ Own w' W.heap.size dv p.data ∧ OwnI w' W.heap.size kv p.keep) ∨ (stepK k l = none ∧ e = pan 192))
theorem Tabs.form {w : World} (h : Tabs w) : FormAt w 1 true false false false ∧ FormAt w 2 true true true false ∧ FormAt w 3 true false true false ∧ FormAt w 4 false false true false ∧ FormAt w 5 false false false false ∧ FormAt w 6 false false false true ∧ FormAt w 7 false false true false := by
  obtain ⟨t, fz, hl⟩ := h.forms
  refine ⟨⟨⟨#[111, 112, 101, 110]⟩, ?_⟩, ⟨⟨#[102, 101, 101, 100]⟩, ?_⟩, ⟨⟨#[104, 97, 110, 103]⟩, ?_⟩, ⟨⟨#[116, 105, 99, 107]⟩, ?_⟩, ⟨⟨#[100, 114, 97, 105, 110]⟩, ?_⟩, ⟨⟨#[99, 114, 97, 115, 104]⟩, ?_⟩, ⟨⟨#[115, 116, 97, 114, 116]⟩, ?_⟩⟩ <;> simp [World.cell?, hl, formsA]
theorem step_all (W : World) (wb : Nat) (ss : List ByteArray) (k : Int) (hk : 1 ≤ k ∧ k ≤ 7) (T : Tabs W) (h6 : 6 ≤ wb) (h : WordsAt W wb ss) (hl : ss.length ≤ 1048576) (hs : ∀ x ∈ ss, x.size ≤ 1073741823) :
    Calls Tryd.prog 50 #[.pointer (some ⟨wb, 0, none⟩), .int .i64 k] W (StepOut W wb k (tl ss)) := by
  obtain ⟨f1, f2, f3, f4, f5, f6, f7⟩ := T.form
  rcases (show k = (1 : Nat) ∨ k = (2 : Nat) ∨ k = (3 : Nat) ∨ k = (4 : Nat) ∨ k = (5 : Nat) ∨ k = (6 : Nat) ∨ k = (7 : Nat) by omega) with rfl | rfl | rfl | rfl | rfl | rfl | rfl
  · exact step_A W wb ss 1 (by omega) T h6 f1 h hl hs
  · exact step_B W wb ss 2 (by omega) T h6 f2 h hl hs
  · exact step_C W wb ss 3 (by omega) T h6 f3 h hl hs
  · exact step_D W wb ss 4 (by omega) T h6 f4 h hl hs
  · exact step_E W wb ss 5 (by omega) T h6 f5 h hl hs
  · exact step_G W wb ss 6 (by omega) T h6 f6 h hl hs
  · exact step_D W wb ss 7 (by omega) T h6 f7 h hl hs
end Go.Proofs.YteaccpolmmkclaaDoor
