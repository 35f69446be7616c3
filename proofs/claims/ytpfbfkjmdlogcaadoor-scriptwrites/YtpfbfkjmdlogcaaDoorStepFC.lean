/-
  The walk of the words' step: the form C.
-/
import Derived.Test.YtpfbfkjmdlogcaaDoorStepA
import Derived.Deep.Cut
set_option linter.unusedSimpArgs false
namespace Go.Proofs.YtpfbfkjmdlogcaaDoor
open Go.RowKit

set_option maxHeartbeats 4000000 in
set_option maxRecDepth 1000000 in
theorem step_C (W : World) (wb : Nat) (ss : List ByteArray) (k : Nat) (hk : 1 ≤ k ∧ k ≤ 7) (T : Tabs W) (h6 : 6 ≤ wb) (hf : FormAt W k true false true false) (h : WordsAt W wb ss) (hl : ss.length ≤ 1048576) (hs : ∀ x ∈ ss, x.size ≤ 1073741823) :
    Calls Tryd.prog 64 #[.pointer (some ⟨wb, 0, none⟩), .int .i64 (k : Int)] W (StepPost W wb (k : Int) true false true false (tl ss)) := by
  obtain ⟨x, f0, f1, f2, f3, f4⟩ := hf
  have hfl := T.lt.1
  have i1 : (0 : Int) ≤ (k : Int) := by omega
  have i2 : (k : Int) < 8 := by omega
  obtain ⟨w0, fb, sb, rb, hw0, hfb, hsb, hrb, hA0⟩ := at_start W wb ss k x true false true false h
  have HA0 := hide hA0
  have HT := hide (And.intro T h6)
  have g0 := ((Below.refl _ W).alloc (Nat.le_refl _) (.cells #[.int .i64 0, .int .i64 0, .slice none 0 0, .int .i64 0, .slice none 0 0] 44))
  have e0 := (g0.cell (p := ⟨0, k * 5, none⟩) hfl).trans f0
  have e1 := (g0.cell (p := ⟨0, k * 5 + 1, none⟩) hfl).trans f1
  have e2 := (g0.cell (p := ⟨0, k * 5 + 2, none⟩) hfl).trans f2
  have e3 := (g0.cell (p := ⟨0, k * 5 + 3, none⟩) hfl).trans f3
  have e4 := (g0.cell (p := ⟨0, k * 5 + 4, none⟩) hfl).trans f4
  have HW0 := hide (And.intro hw0 (And.intro hfb (And.intro hsb hrb)))
  clear h T hA0 f0 f1 f2 f3 f4 g0 hw0 hfb hsb hrb
  go_enter Tryd.func64, Tryd.ntmps64
  go_upto_region 3 with fail
  rw [HW0.out.1, HW0.out.2.1, HW0.out.2.2.1, HW0.out.2.2.2]
  clear e0 e1 e2 e3 e4
  cases ss with
  | nil =>
    have HP : Hid (stepP (k : Int) true false true false (tl []) = none) := by
      show stepP _ _ _ _ _ _ = _
      simp [stepP, tailP, keepP, numP, hasP, tl]
    have C1 := hide (number_none (w0) wb HA0.out.words)
    unfold pan at C1
    obtain ⟨c1, c2, c3, c4⟩ := HA0.out.form
    have fl0 := HA0.out.flt
    go_wp2_with (first
      | (go_at_call 65
         refine C1.out.mono ?_
         rintro e w1 ⟨rfl, rfl⟩
         have KF := hide HA0.out.kept))
    exact ⟨rfl, KF.out, .inr ⟨HP.out, rfl⟩⟩
  | cons x1 r1 =>
    cases hp1 : parseB x1.data.toList maxWord
    · skip
      have HP : Hid (stepP (k : Int) true false true false (tl (x1 :: r1)) = none) := by
        show stepP _ _ _ _ _ _ = _
        simp [stepP, tailP, keepP, numP, hasP, tl, hp1]
      have C1 := hide (numBad (w0) wb x1 r1 HA0.out.words hp1)
      unfold pan at C1
      obtain ⟨c1, c2, c3, c4⟩ := HA0.out.form
      have fl0 := HA0.out.flt
      go_wp2_with (first
        | (go_at_call 65
           refine C1.out.mono ?_
           rintro e w1 ⟨rfl, hk⟩
           have KF := hide (HA0.out.kept.trans hk)
           clear hk))
      exact ⟨rfl, KF.out, .inr ⟨HP.out, rfl⟩⟩
    · obtain ⟨nc, hnc⟩ : ∃ nc, parseV x1.data.toList maxWord = nc := ⟨_, rfl⟩
      cases r1 with
      | nil =>
        have HP : Hid (stepP (k : Int) true false true false (tl (x1 :: [])) = some ⟨(k : Int), nc, [], 0, []⟩) := by
          show stepP _ _ _ _ _ _ = _
          simp [stepP, tailP, keepP, numP, hasP, tl, hp1, hnc]
        have C1 := hide (numOk (w0) wb x1 [] HA0.out.words ⟨hp1, hnc⟩)
        obtain ⟨c1, c2, c3, c4⟩ := HA0.out.form
        have fl0 := HA0.out.flt
        go_wp2_with (first
          | (go_at_call 66
             refine C3.out.mono ?_
             rintro e w3 ⟨rfl, hw3⟩
             rw [hw3]
             clear hw3 w3
             have a := HA2.out
             have HA3 : Hid (At W ((w1).setCell ⟨sb, 1, none⟩ (.int .i64 nc)) wb fb sb rb true false true false [] (k : Int) nc 0 (.slice none 0 0) (.slice none 0 0) [] []) := a
             obtain ⟨c1, c2, c3, c4⟩ := HA3.out.form
             have fl3 := HA3.out.flt
             clear a)
          | (go_at_call 75
             refine C2.out.mono ?_
             rintro e w2 ⟨rfl, hw2⟩
             rw [hw2]
             clear hw2 w2
             have a := HA1.out
             have HA2 : Hid (At W ((w1).setCell ⟨sb, 1, none⟩ (.int .i64 nc)) wb fb sb rb true false true false [] (k : Int) nc 0 (.slice none 0 0) (.slice none 0 0) [] []) := a
             obtain ⟨c1, c2, c3, c4⟩ := HA2.out.form
             have fl2 := HA2.out.flt
             clear a
             have C3 := hide (end_yes ((w1).setCell ⟨sb, 1, none⟩ (.int .i64 nc)) wb HA2.out.words))
          | (go_at_call 65
             refine C1.out.mono ?_
             rintro e w1 ⟨rfl, hw, kw⟩
             have a := HA0.out.call hw kw
             obtain ⟨y0, y1, y2, y3, y4, yf⟩ := a.step.cells
             have z1 := yf 1
             have sl1 := cell_lt y0
             have HA1 : Hid (At W ((w1).setCell ⟨sb, 1, none⟩ (.int .i64 nc)) wb fb sb rb true false true false [] (k : Int) nc 0 (.slice none 0 0) (.slice none 0 0) [] []) := a.store 1 (.int .i64 nc) rfl a.data a.keep
             obtain ⟨c1, c2, c3, c4⟩ := HA1.out.form
             have fl1 := HA1.out.flt
             obtain ⟨_, _, _, b3, _, _⟩ := HA1.out.step.cells
             have q1 := y1
             clear hw kw a y0 y1 y2 y3 y4 yf
             have C2 := hide (has_no ((w1).setCell ⟨sb, 1, none⟩ (.int .i64 nc)) wb breakT [] HA1.out.words (fun x r e => by cases e))
             try unfold breakT at C2)
          | (refine wpList_load_row rfl 44 (.tmp 6) rfl sb rfl 44 (#[.int .i64 (k : Int), .int .i64 nc, (.slice none 0 0), .int .i64 0, (.slice none 0 0)]) (0, 0) _ HA3.out.step Tryd.underlying44 rfl (by kernel_rfl) ?_)
          | (refine wpList_store_row rfl 44 (.tmp 4) (.tmp 46) rfl rb (#[.int .i64 (k : Int), .int .i64 nc, (.slice none 0 0), .int .i64 0, (.slice none 0 0)]) rfl rfl 44 _ HA3.out.res (by kernel_rfl) rfl (by simp [Value.oneCell']) ?_))
        obtain ⟨g1, g2, g3, g4⟩ := HA3.out.final
        refine bodyPost_ret (results_cell_row rfl _ _ rb 44 _ (0, 0) _ rfl g1 Tryd.underlying44 rfl (by kernel_rfl)) rfl ⟨g4, .inl ⟨⟨(k : Int), nc, [], 0, []⟩, _, _, HP.out, rfl, rfl, g2, g3⟩⟩
      | cons z r =>
        by_cases hz : z.data.toList = breakW
        · obtain rfl : z = breakT := by rcases z with ⟨⟨zl⟩⟩; simp [breakW] at hz; simp [breakT, hz]
          clear hz
          cases r with
          | nil =>
            have HP : Hid (stepP (k : Int) true false true false (tl (x1 :: (breakT :: []))) = none) := by
              show stepP _ _ _ _ _ _ = _
              simp [stepP, tailP, keepP, numP, hasP, tl, hp1, hnc, breakW, breakT]
            have C1 := hide (numOk (w0) wb x1 (breakT :: []) HA0.out.words ⟨hp1, hnc⟩)
            try unfold breakT at C1
            obtain ⟨c1, c2, c3, c4⟩ := HA0.out.form
            have fl0 := HA0.out.flt
            go_wp2_with (first
              | (go_at_call 65
                 refine C3.out.mono ?_
                 rintro e w3 ⟨rfl, rfl⟩
                 have KF := hide HA2.out.kept)
              | (go_at_call 75
                 refine C2.out.mono ?_
                 rintro e w2 ⟨rfl, hw, kw⟩
                 have a := HA1.out.call hw kw
                 have HA2 : Hid (At W (w2) wb fb sb rb true false true false [] (k : Int) nc 0 (.slice none 0 0) (.slice none 0 0) [] []) := a
                 obtain ⟨c1, c2, c3, c4⟩ := HA2.out.form
                 have fl2 := HA2.out.flt
                 clear hw kw a
                 have C3 := hide (number_none (w2) wb HA2.out.words)
                 unfold pan at C3)
              | (go_at_call 65
                 refine C1.out.mono ?_
                 rintro e w1 ⟨rfl, hw, kw⟩
                 have a := HA0.out.call hw kw
                 obtain ⟨y0, y1, y2, y3, y4, yf⟩ := a.step.cells
                 have z1 := yf 1
                 have sl1 := cell_lt y0
                 have HA1 : Hid (At W ((w1).setCell ⟨sb, 1, none⟩ (.int .i64 nc)) wb fb sb rb true false true false (breakT :: []) (k : Int) nc 0 (.slice none 0 0) (.slice none 0 0) [] []) := a.store 1 (.int .i64 nc) rfl a.data a.keep
                 obtain ⟨c1, c2, c3, c4⟩ := HA1.out.form
                 have fl1 := HA1.out.flt
                 obtain ⟨_, _, _, b3, _, _⟩ := HA1.out.step.cells
                 have q1 := y1
                 clear hw kw a y0 y1 y2 y3 y4 yf
                 have C2 := hide (has_yes ((w1).setCell ⟨sb, 1, none⟩ (.int .i64 nc)) wb breakT [] HA1.out.words)
                 try unfold breakT at C2))
            exact ⟨rfl, KF.out, .inr ⟨HP.out, rfl⟩⟩
          | cons n q =>
            cases hpn : parseB n.data.toList maxWord
            · skip
              have HP : Hid (stepP (k : Int) true false true false (tl (x1 :: (breakT :: n :: q))) = none) := by
                show stepP _ _ _ _ _ _ = _
                simp [stepP, tailP, keepP, numP, hasP, tl, hp1, hnc, breakW, breakT, hpn]
              have C1 := hide (numOk (w0) wb x1 (breakT :: n :: q) HA0.out.words ⟨hp1, hnc⟩)
              try unfold breakT at C1
              obtain ⟨c1, c2, c3, c4⟩ := HA0.out.form
              have fl0 := HA0.out.flt
              go_wp2_with (first
                | (go_at_call 65
                   refine C3.out.mono ?_
                   rintro e w3 ⟨rfl, hk⟩
                   have KF := hide (HA2.out.kept.trans hk)
                   clear hk)
                | (go_at_call 75
                   refine C2.out.mono ?_
                   rintro e w2 ⟨rfl, hw, kw⟩
                   have a := HA1.out.call hw kw
                   have HA2 : Hid (At W (w2) wb fb sb rb true false true false (n :: q) (k : Int) nc 0 (.slice none 0 0) (.slice none 0 0) [] []) := a
                   obtain ⟨c1, c2, c3, c4⟩ := HA2.out.form
                   have fl2 := HA2.out.flt
                   clear hw kw a
                   have C3 := hide (numBad (w2) wb n q HA2.out.words hpn)
                   unfold pan at C3)
                | (go_at_call 65
                   refine C1.out.mono ?_
                   rintro e w1 ⟨rfl, hw, kw⟩
                   have a := HA0.out.call hw kw
                   obtain ⟨y0, y1, y2, y3, y4, yf⟩ := a.step.cells
                   have z1 := yf 1
                   have sl1 := cell_lt y0
                   have HA1 : Hid (At W ((w1).setCell ⟨sb, 1, none⟩ (.int .i64 nc)) wb fb sb rb true false true false (breakT :: n :: q) (k : Int) nc 0 (.slice none 0 0) (.slice none 0 0) [] []) := a.store 1 (.int .i64 nc) rfl a.data a.keep
                   obtain ⟨c1, c2, c3, c4⟩ := HA1.out.form
                   have fl1 := HA1.out.flt
                   obtain ⟨_, _, _, b3, _, _⟩ := HA1.out.step.cells
                   have q1 := y1
                   clear hw kw a y0 y1 y2 y3 y4 yf
                   have C2 := hide (has_yes ((w1).setCell ⟨sb, 1, none⟩ (.int .i64 nc)) wb breakT (n :: q) HA1.out.words)
                   try unfold breakT at C2))
              exact ⟨rfl, KF.out, .inr ⟨HP.out, rfl⟩⟩
            · obtain ⟨nb, hnb⟩ : ∃ nb, parseV n.data.toList maxWord = nb := ⟨_, rfl⟩
              by_cases hn0 : nb = 0
              · subst hn0
                have HP : Hid (stepP (k : Int) true false true false (tl (x1 :: (breakT :: n :: q))) = none) := by
                  show stepP _ _ _ _ _ _ = _
                  simp [stepP, tailP, keepP, numP, hasP, tl, hp1, hnc, breakW, breakT, hpn, hnb]
                have C1 := hide (numOk (w0) wb x1 (breakT :: n :: q) HA0.out.words ⟨hp1, hnc⟩)
                try unfold breakT at C1
                obtain ⟨c1, c2, c3, c4⟩ := HA0.out.form
                have fl0 := HA0.out.flt
                go_wp2_with (first
                  | (go_at_call 65
                     refine C3.out.mono ?_
                     rintro e w3 ⟨rfl, hw, kw⟩
                     have a := HA2.out.call hw kw
                     obtain ⟨y0, y1, y2, y3, y4, yf⟩ := a.step.cells
                     have z3 := yf 3
                     have sl3 := cell_lt y0
                     have HA3 : Hid (At W ((w3).setCell ⟨sb, 3, none⟩ (.int .i64 0)) wb fb sb rb true false true false q (k : Int) nc 0 (.slice none 0 0) (.slice none 0 0) [] []) := a.store 3 (.int .i64 0) rfl a.data a.keep
                     obtain ⟨c1, c2, c3, c4⟩ := HA3.out.form
                     have fl3 := HA3.out.flt
                     obtain ⟨_, _, _, b3, _, _⟩ := HA3.out.step.cells
                     have q3 := y3
                     clear hw kw a y0 y1 y2 y3 y4 yf
                     have KF := hide HA3.out.kept)
                  | (go_at_call 75
                     refine C2.out.mono ?_
                     rintro e w2 ⟨rfl, hw, kw⟩
                     have a := HA1.out.call hw kw
                     have HA2 : Hid (At W (w2) wb fb sb rb true false true false (n :: q) (k : Int) nc 0 (.slice none 0 0) (.slice none 0 0) [] []) := a
                     obtain ⟨c1, c2, c3, c4⟩ := HA2.out.form
                     have fl2 := HA2.out.flt
                     clear hw kw a
                     have C3 := hide (numOk (w2) wb n q HA2.out.words ⟨hpn, hnb⟩))
                  | (go_at_call 65
                     refine C1.out.mono ?_
                     rintro e w1 ⟨rfl, hw, kw⟩
                     have a := HA0.out.call hw kw
                     obtain ⟨y0, y1, y2, y3, y4, yf⟩ := a.step.cells
                     have z1 := yf 1
                     have sl1 := cell_lt y0
                     have HA1 : Hid (At W ((w1).setCell ⟨sb, 1, none⟩ (.int .i64 nc)) wb fb sb rb true false true false (breakT :: n :: q) (k : Int) nc 0 (.slice none 0 0) (.slice none 0 0) [] []) := a.store 1 (.int .i64 nc) rfl a.data a.keep
                     obtain ⟨c1, c2, c3, c4⟩ := HA1.out.form
                     have fl1 := HA1.out.flt
                     obtain ⟨_, _, _, b3, _, _⟩ := HA1.out.step.cells
                     have q1 := y1
                     clear hw kw a y0 y1 y2 y3 y4 yf
                     have C2 := hide (has_yes ((w1).setCell ⟨sb, 1, none⟩ (.int .i64 nc)) wb breakT (n :: q) HA1.out.words)
                     try unfold breakT at C2))
                exact ⟨rfl, KF.out, .inr ⟨HP.out, rfl⟩⟩
              · have hnbb : (nb == 0) = false := by simpa using hn0
                cases q with
                | nil =>
                  have HP : Hid (stepP (k : Int) true false true false (tl (x1 :: (breakT :: n :: []))) = some ⟨(k : Int), nc, [], nb, []⟩) := by
                    show stepP _ _ _ _ _ _ = _
                    simp [stepP, tailP, keepP, numP, hasP, tl, hp1, hnc, breakW, breakT, hpn, hnb, hn0]
                  have C1 := hide (numOk (w0) wb x1 (breakT :: n :: []) HA0.out.words ⟨hp1, hnc⟩)
                  try unfold breakT at C1
                  obtain ⟨c1, c2, c3, c4⟩ := HA0.out.form
                  have fl0 := HA0.out.flt
                  go_wp2_with (first
                    | (go_at_call 66
                       refine C5.out.mono ?_
                       rintro e w5 ⟨rfl, hw5⟩
                       rw [hw5]
                       clear hw5 w5
                       have a := HA4.out
                       have HA5 : Hid (At W (((w3).setCell ⟨sb, 3, none⟩ (.int .i64 nb)).setCell ⟨sb, 4, none⟩ (.slice none 0 0)) wb fb sb rb true false true false [] (k : Int) nc nb (.slice none 0 0) (.slice none 0 0) [] []) := a
                       obtain ⟨c1, c2, c3, c4⟩ := HA5.out.form
                       have fl5 := HA5.out.flt
                       clear a)
                    | (go_at_call 76
                       refine C4.out.mono ?_
                       rintro e w4 ⟨rfl, hw4⟩
                       rw [hw4]
                       clear hw4 w4
                       have a := HA3.out
                       obtain ⟨y0, y1, y2, y3, y4, yf⟩ := a.step.cells
                       have z4 := yf 4
                       have sl4 := cell_lt y0
                       have HA4 : Hid (At W (((w3).setCell ⟨sb, 3, none⟩ (.int .i64 nb)).setCell ⟨sb, 4, none⟩ (.slice none 0 0)) wb fb sb rb true false true false [] (k : Int) nc nb (.slice none 0 0) (.slice none 0 0) [] []) := a.store 4 (.slice none 0 0) rfl a.data (OwnI.nil _ _)
                       obtain ⟨c1, c2, c3, c4⟩ := HA4.out.form
                       have fl4 := HA4.out.flt
                       obtain ⟨_, _, _, b3, _, _⟩ := HA4.out.step.cells
                       have q4 := y4
                       clear a y0 y1 y2 y3 y4 yf
                       have C5 := hide (end_yes (((w3).setCell ⟨sb, 3, none⟩ (.int .i64 nb)).setCell ⟨sb, 4, none⟩ (.slice none 0 0)) wb HA4.out.words))
                    | (go_at_call 65
                       refine C3.out.mono ?_
                       rintro e w3 ⟨rfl, hw, kw⟩
                       have a := HA2.out.call hw kw
                       obtain ⟨y0, y1, y2, y3, y4, yf⟩ := a.step.cells
                       have z3 := yf 3
                       have sl3 := cell_lt y0
                       have HA3 : Hid (At W ((w3).setCell ⟨sb, 3, none⟩ (.int .i64 nb)) wb fb sb rb true false true false [] (k : Int) nc nb (.slice none 0 0) (.slice none 0 0) [] []) := a.store 3 (.int .i64 nb) rfl a.data a.keep
                       obtain ⟨c1, c2, c3, c4⟩ := HA3.out.form
                       have fl3 := HA3.out.flt
                       obtain ⟨_, _, _, b3, _, _⟩ := HA3.out.step.cells
                       have q3 := y3
                       clear hw kw a y0 y1 y2 y3 y4 yf
                       have C4 := hide (keep_none ((w3).setCell ⟨sb, 3, none⟩ (.int .i64 nb)) wb [] HA3.out.words rfl))
                    | (go_at_call 75
                       refine C2.out.mono ?_
                       rintro e w2 ⟨rfl, hw, kw⟩
                       have a := HA1.out.call hw kw
                       have HA2 : Hid (At W (w2) wb fb sb rb true false true false (n :: []) (k : Int) nc 0 (.slice none 0 0) (.slice none 0 0) [] []) := a
                       obtain ⟨c1, c2, c3, c4⟩ := HA2.out.form
                       have fl2 := HA2.out.flt
                       clear hw kw a
                       have C3 := hide (numOk (w2) wb n [] HA2.out.words ⟨hpn, hnb⟩))
                    | (go_at_call 65
                       refine C1.out.mono ?_
                       rintro e w1 ⟨rfl, hw, kw⟩
                       have a := HA0.out.call hw kw
                       obtain ⟨y0, y1, y2, y3, y4, yf⟩ := a.step.cells
                       have z1 := yf 1
                       have sl1 := cell_lt y0
                       have HA1 : Hid (At W ((w1).setCell ⟨sb, 1, none⟩ (.int .i64 nc)) wb fb sb rb true false true false (breakT :: n :: []) (k : Int) nc 0 (.slice none 0 0) (.slice none 0 0) [] []) := a.store 1 (.int .i64 nc) rfl a.data a.keep
                       obtain ⟨c1, c2, c3, c4⟩ := HA1.out.form
                       have fl1 := HA1.out.flt
                       obtain ⟨_, _, _, b3, _, _⟩ := HA1.out.step.cells
                       have q1 := y1
                       clear hw kw a y0 y1 y2 y3 y4 yf
                       have C2 := hide (has_yes ((w1).setCell ⟨sb, 1, none⟩ (.int .i64 nc)) wb breakT (n :: []) HA1.out.words)
                       try unfold breakT at C2)
                    | (refine wpList_load_row rfl 44 (.tmp 6) rfl sb rfl 44 (#[.int .i64 (k : Int), .int .i64 nc, (.slice none 0 0), .int .i64 nb, (.slice none 0 0)]) (0, 0) _ HA5.out.step Tryd.underlying44 rfl (by kernel_rfl) ?_)
                    | (refine wpList_store_row rfl 44 (.tmp 4) (.tmp 46) rfl rb (#[.int .i64 (k : Int), .int .i64 nc, (.slice none 0 0), .int .i64 nb, (.slice none 0 0)]) rfl rfl 44 _ HA5.out.res (by kernel_rfl) rfl (by simp [Value.oneCell']) ?_))
                  obtain ⟨g1, g2, g3, g4⟩ := HA5.out.final
                  refine bodyPost_ret (results_cell_row rfl _ _ rb 44 _ (0, 0) _ rfl g1 Tryd.underlying44 rfl (by kernel_rfl)) rfl ⟨g4, .inl ⟨⟨(k : Int), nc, [], nb, []⟩, _, _, HP.out, rfl, rfl, g2, g3⟩⟩
                | cons y t =>
                  by_cases hy : y.data.toList = keepW
                  · have hyt : y = keepT := by rcases y with ⟨⟨yl⟩⟩; simp [keepW] at hy; simp [keepT, hy]
                    have HYT := hide hyt
                    clear hyt
                    have htl : t.length ≤ 1048576 := by simp at hl; omega
                    cases hnp : numsP (tl t) with
                    | none =>
                      have HP : Hid (stepP (k : Int) true false true false (tl (x1 :: (breakT :: n :: (y :: t)))) = none) := by
                        show stepP _ _ _ _ _ _ = _
                        simp [stepP, tailP, keepP, numP, hasP, tl, hp1, hnc, breakW, breakT, hpn, hnb, hn0, hy, hnp]
                      clear hy
                      have C1 := hide (numOk (w0) wb x1 (breakT :: n :: (y :: t)) HA0.out.words ⟨hp1, hnc⟩)
                      try unfold breakT at C1
                      obtain ⟨c1, c2, c3, c4⟩ := HA0.out.form
                      have fl0 := HA0.out.flt
                      go_wp2_with (first
                        | (go_at_call 76
                           refine C4.out.mono ?_
                           rintro e w4 ⟨rfl, hk⟩
                           have KF := hide (HA3.out.kept.trans hk)
                           clear hk)
                        | (go_at_call 65
                           refine C3.out.mono ?_
                           rintro e w3 ⟨rfl, hw, kw⟩
                           have a := HA2.out.call hw kw
                           obtain ⟨y0, y1, y2, y3, y4, yf⟩ := a.step.cells
                           have z3 := yf 3
                           have sl3 := cell_lt y0
                           have HA3 : Hid (At W ((w3).setCell ⟨sb, 3, none⟩ (.int .i64 nb)) wb fb sb rb true false true false (y :: t) (k : Int) nc nb (.slice none 0 0) (.slice none 0 0) [] []) := a.store 3 (.int .i64 nb) rfl a.data a.keep
                           obtain ⟨c1, c2, c3, c4⟩ := HA3.out.form
                           have fl3 := HA3.out.flt
                           obtain ⟨_, _, _, b3, _, _⟩ := HA3.out.step.cells
                           have q3 := y3
                           clear hw kw a y0 y1 y2 y3 y4 yf
                           have C4 := hide (keepBad ((w3).setCell ⟨sb, 3, none⟩ (.int .i64 nb)) wb y t HA3.out.words HYT.out htl (fun l e => by rw [hnp] at e; cases e))
                           unfold pan at C4)
                        | (go_at_call 75
                           refine C2.out.mono ?_
                           rintro e w2 ⟨rfl, hw, kw⟩
                           have a := HA1.out.call hw kw
                           have HA2 : Hid (At W (w2) wb fb sb rb true false true false (n :: (y :: t)) (k : Int) nc 0 (.slice none 0 0) (.slice none 0 0) [] []) := a
                           obtain ⟨c1, c2, c3, c4⟩ := HA2.out.form
                           have fl2 := HA2.out.flt
                           clear hw kw a
                           have C3 := hide (numOk (w2) wb n (y :: t) HA2.out.words ⟨hpn, hnb⟩))
                        | (go_at_call 65
                           refine C1.out.mono ?_
                           rintro e w1 ⟨rfl, hw, kw⟩
                           have a := HA0.out.call hw kw
                           obtain ⟨y0, y1, y2, y3, y4, yf⟩ := a.step.cells
                           have z1 := yf 1
                           have sl1 := cell_lt y0
                           have HA1 : Hid (At W ((w1).setCell ⟨sb, 1, none⟩ (.int .i64 nc)) wb fb sb rb true false true false (breakT :: n :: (y :: t)) (k : Int) nc 0 (.slice none 0 0) (.slice none 0 0) [] []) := a.store 1 (.int .i64 nc) rfl a.data a.keep
                           obtain ⟨c1, c2, c3, c4⟩ := HA1.out.form
                           have fl1 := HA1.out.flt
                           obtain ⟨_, _, _, b3, _, _⟩ := HA1.out.step.cells
                           have q1 := y1
                           clear hw kw a y0 y1 y2 y3 y4 yf
                           have C2 := hide (has_yes ((w1).setCell ⟨sb, 1, none⟩ (.int .i64 nc)) wb breakT (n :: (y :: t)) HA1.out.words)
                           try unfold breakT at C2))
                      exact ⟨rfl, KF.out, .inr ⟨HP.out, rfl⟩⟩
                    | some l =>
                      by_cases hl0 : l = []
                      · subst hl0
                        have HP : Hid (stepP (k : Int) true false true false (tl (x1 :: (breakT :: n :: (y :: t)))) = none) := by
                          show stepP _ _ _ _ _ _ = _
                          simp [stepP, tailP, keepP, numP, hasP, tl, hp1, hnc, breakW, breakT, hpn, hnb, hn0, hy, hnp]
                        clear hy
                        have C1 := hide (numOk (w0) wb x1 (breakT :: n :: (y :: t)) HA0.out.words ⟨hp1, hnc⟩)
                        try unfold breakT at C1
                        obtain ⟨c1, c2, c3, c4⟩ := HA0.out.form
                        have fl0 := HA0.out.flt
                        go_wp2_with (first
                          | (go_at_call 76
                             refine C4.out.mono ?_
                             rintro e w4 ⟨rfl, hk⟩
                             have KF := hide (HA3.out.kept.trans hk)
                             clear hk)
                          | (go_at_call 65
                             refine C3.out.mono ?_
                             rintro e w3 ⟨rfl, hw, kw⟩
                             have a := HA2.out.call hw kw
                             obtain ⟨y0, y1, y2, y3, y4, yf⟩ := a.step.cells
                             have z3 := yf 3
                             have sl3 := cell_lt y0
                             have HA3 : Hid (At W ((w3).setCell ⟨sb, 3, none⟩ (.int .i64 nb)) wb fb sb rb true false true false (y :: t) (k : Int) nc nb (.slice none 0 0) (.slice none 0 0) [] []) := a.store 3 (.int .i64 nb) rfl a.data a.keep
                             obtain ⟨c1, c2, c3, c4⟩ := HA3.out.form
                             have fl3 := HA3.out.flt
                             obtain ⟨_, _, _, b3, _, _⟩ := HA3.out.step.cells
                             have q3 := y3
                             clear hw kw a y0 y1 y2 y3 y4 yf
                             have C4 := hide (keepBad ((w3).setCell ⟨sb, 3, none⟩ (.int .i64 nb)) wb y t HA3.out.words HYT.out htl (fun l e => by rw [hnp] at e; cases e; rfl))
                             unfold pan at C4)
                          | (go_at_call 75
                             refine C2.out.mono ?_
                             rintro e w2 ⟨rfl, hw, kw⟩
                             have a := HA1.out.call hw kw
                             have HA2 : Hid (At W (w2) wb fb sb rb true false true false (n :: (y :: t)) (k : Int) nc 0 (.slice none 0 0) (.slice none 0 0) [] []) := a
                             obtain ⟨c1, c2, c3, c4⟩ := HA2.out.form
                             have fl2 := HA2.out.flt
                             clear hw kw a
                             have C3 := hide (numOk (w2) wb n (y :: t) HA2.out.words ⟨hpn, hnb⟩))
                          | (go_at_call 65
                             refine C1.out.mono ?_
                             rintro e w1 ⟨rfl, hw, kw⟩
                             have a := HA0.out.call hw kw
                             obtain ⟨y0, y1, y2, y3, y4, yf⟩ := a.step.cells
                             have z1 := yf 1
                             have sl1 := cell_lt y0
                             have HA1 : Hid (At W ((w1).setCell ⟨sb, 1, none⟩ (.int .i64 nc)) wb fb sb rb true false true false (breakT :: n :: (y :: t)) (k : Int) nc 0 (.slice none 0 0) (.slice none 0 0) [] []) := a.store 1 (.int .i64 nc) rfl a.data a.keep
                             obtain ⟨c1, c2, c3, c4⟩ := HA1.out.form
                             have fl1 := HA1.out.flt
                             obtain ⟨_, _, _, b3, _, _⟩ := HA1.out.step.cells
                             have q1 := y1
                             clear hw kw a y0 y1 y2 y3 y4 yf
                             have C2 := hide (has_yes ((w1).setCell ⟨sb, 1, none⟩ (.int .i64 nc)) wb breakT (n :: (y :: t)) HA1.out.words)
                             try unfold breakT at C2))
                        exact ⟨rfl, KF.out, .inr ⟨HP.out, rfl⟩⟩
                      · obtain ⟨l0, lr, hlr⟩ : ∃ a b, l = a :: b := by cases l with | nil => exact absurd rfl hl0 | cons a b => exact ⟨a, b, rfl⟩
                        have HP : Hid (stepP (k : Int) true false true false (tl (x1 :: (breakT :: n :: (y :: t)))) = some ⟨(k : Int), nc, [], nb, l⟩) := by
                          show stepP _ _ _ _ _ _ = _
                          simp [stepP, tailP, keepP, numP, hasP, tl, hp1, hnc, breakW, breakT, hpn, hnb, hn0, hy, hnp, hlr]
                        clear hlr l0 lr
                        clear hy
                        have C1 := hide (numOk (w0) wb x1 (breakT :: n :: (y :: t)) HA0.out.words ⟨hp1, hnc⟩)
                        try unfold breakT at C1
                        obtain ⟨c1, c2, c3, c4⟩ := HA0.out.form
                        have fl0 := HA0.out.flt
                        go_wp2_with (first
                          | (go_at_call 66
                             refine C5.out.mono ?_
                             rintro e w5 ⟨rfl, hw5⟩
                             rw [hw5]
                             clear hw5 w5
                             have a := HA4.out
                             have HA5 : Hid (At W ((w4).setCell ⟨sb, 4, none⟩ (.slice va4 l.length ca4)) wb fb sb rb true false true false [] (k : Int) nc nb (.slice none 0 0) (.slice va4 l.length ca4) [] l) := a
                             obtain ⟨c1, c2, c3, c4⟩ := HA5.out.form
                             have fl5 := HA5.out.flt
                             clear a)
                          | (go_at_call 76
                             refine C4.out.mono ?_
                             rintro e w4 ⟨va4, ca4, rfl, ho, hw, kw⟩
                             have a := HA3.out.call hw kw
                             obtain ⟨y0, y1, y2, y3, y4, yf⟩ := a.step.cells
                             have z4 := yf 4
                             have sl4 := cell_lt y0
                             have HA4 : Hid (At W ((w4).setCell ⟨sb, 4, none⟩ (.slice va4 l.length ca4)) wb fb sb rb true false true false [] (k : Int) nc nb (.slice none 0 0) (.slice va4 l.length ca4) [] l) := a.store 4 (.slice va4 l.length ca4) rfl a.data (ho.mono (HA3.out.kept.size))
                             obtain ⟨c1, c2, c3, c4⟩ := HA4.out.form
                             have fl4 := HA4.out.flt
                             obtain ⟨_, _, _, b3, _, _⟩ := HA4.out.step.cells
                             have q4 := y4
                             clear hw kw a ho y0 y1 y2 y3 y4 yf
                             have C5 := hide (end_yes ((w4).setCell ⟨sb, 4, none⟩ (.slice va4 l.length ca4)) wb HA4.out.words))
                          | (go_at_call 65
                             refine C3.out.mono ?_
                             rintro e w3 ⟨rfl, hw, kw⟩
                             have a := HA2.out.call hw kw
                             obtain ⟨y0, y1, y2, y3, y4, yf⟩ := a.step.cells
                             have z3 := yf 3
                             have sl3 := cell_lt y0
                             have HA3 : Hid (At W ((w3).setCell ⟨sb, 3, none⟩ (.int .i64 nb)) wb fb sb rb true false true false (y :: t) (k : Int) nc nb (.slice none 0 0) (.slice none 0 0) [] []) := a.store 3 (.int .i64 nb) rfl a.data a.keep
                             obtain ⟨c1, c2, c3, c4⟩ := HA3.out.form
                             have fl3 := HA3.out.flt
                             obtain ⟨_, _, _, b3, _, _⟩ := HA3.out.step.cells
                             have q3 := y3
                             clear hw kw a y0 y1 y2 y3 y4 yf
                             have C4 := hide (keepOk ((w3).setCell ⟨sb, 3, none⟩ (.int .i64 nb)) wb y t HA3.out.words HYT.out htl hnp hl0))
                          | (go_at_call 75
                             refine C2.out.mono ?_
                             rintro e w2 ⟨rfl, hw, kw⟩
                             have a := HA1.out.call hw kw
                             have HA2 : Hid (At W (w2) wb fb sb rb true false true false (n :: (y :: t)) (k : Int) nc 0 (.slice none 0 0) (.slice none 0 0) [] []) := a
                             obtain ⟨c1, c2, c3, c4⟩ := HA2.out.form
                             have fl2 := HA2.out.flt
                             clear hw kw a
                             have C3 := hide (numOk (w2) wb n (y :: t) HA2.out.words ⟨hpn, hnb⟩))
                          | (go_at_call 65
                             refine C1.out.mono ?_
                             rintro e w1 ⟨rfl, hw, kw⟩
                             have a := HA0.out.call hw kw
                             obtain ⟨y0, y1, y2, y3, y4, yf⟩ := a.step.cells
                             have z1 := yf 1
                             have sl1 := cell_lt y0
                             have HA1 : Hid (At W ((w1).setCell ⟨sb, 1, none⟩ (.int .i64 nc)) wb fb sb rb true false true false (breakT :: n :: (y :: t)) (k : Int) nc 0 (.slice none 0 0) (.slice none 0 0) [] []) := a.store 1 (.int .i64 nc) rfl a.data a.keep
                             obtain ⟨c1, c2, c3, c4⟩ := HA1.out.form
                             have fl1 := HA1.out.flt
                             obtain ⟨_, _, _, b3, _, _⟩ := HA1.out.step.cells
                             have q1 := y1
                             clear hw kw a y0 y1 y2 y3 y4 yf
                             have C2 := hide (has_yes ((w1).setCell ⟨sb, 1, none⟩ (.int .i64 nc)) wb breakT (n :: (y :: t)) HA1.out.words)
                             try unfold breakT at C2)
                          | (refine wpList_load_row rfl 44 (.tmp 6) rfl sb rfl 44 (#[.int .i64 (k : Int), .int .i64 nc, (.slice none 0 0), .int .i64 nb, (.slice va4 l.length ca4)]) (0, 0) _ HA5.out.step Tryd.underlying44 rfl (by kernel_rfl) ?_)
                          | (refine wpList_store_row rfl 44 (.tmp 4) (.tmp 46) rfl rb (#[.int .i64 (k : Int), .int .i64 nc, (.slice none 0 0), .int .i64 nb, (.slice va4 l.length ca4)]) rfl rfl 44 _ HA5.out.res (by kernel_rfl) rfl (by simp [Value.oneCell']) ?_))
                        obtain ⟨g1, g2, g3, g4⟩ := HA5.out.final
                        refine bodyPost_ret (results_cell_row rfl _ _ rb 44 _ (0, 0) _ rfl g1 Tryd.underlying44 rfl (by kernel_rfl)) rfl ⟨g4, .inl ⟨⟨(k : Int), nc, [], nb, l⟩, _, _, HP.out, rfl, rfl, g2, g3⟩⟩
                  · skip
                    have HP : Hid (stepP (k : Int) true false true false (tl (x1 :: (breakT :: n :: (y :: t)))) = none) := by
                      show stepP _ _ _ _ _ _ = _
                      simp [stepP, tailP, keepP, numP, hasP, tl, hp1, hnc, breakW, breakT, hpn, hnb, hn0, hy]
                    have C1 := hide (numOk (w0) wb x1 (breakT :: n :: (y :: t)) HA0.out.words ⟨hp1, hnc⟩)
                    try unfold breakT at C1
                    obtain ⟨c1, c2, c3, c4⟩ := HA0.out.form
                    have fl0 := HA0.out.flt
                    go_wp2_with (first
                      | (go_at_call 66
                         refine C5.out.mono ?_
                         rintro e w5 ⟨rfl, rfl⟩
                         have KF := hide HA4.out.kept)
                      | (go_at_call 76
                         refine C4.out.mono ?_
                         rintro e w4 ⟨rfl, hw4⟩
                         rw [hw4]
                         clear hw4 w4
                         have a := HA3.out
                         obtain ⟨y0, y1, y2, y3, y4, yf⟩ := a.step.cells
                         have z4 := yf 4
                         have sl4 := cell_lt y0
                         have HA4 : Hid (At W (((w3).setCell ⟨sb, 3, none⟩ (.int .i64 nb)).setCell ⟨sb, 4, none⟩ (.slice none 0 0)) wb fb sb rb true false true false (y :: t) (k : Int) nc nb (.slice none 0 0) (.slice none 0 0) [] []) := a.store 4 (.slice none 0 0) rfl a.data (OwnI.nil _ _)
                         obtain ⟨c1, c2, c3, c4⟩ := HA4.out.form
                         have fl4 := HA4.out.flt
                         obtain ⟨_, _, _, b3, _, _⟩ := HA4.out.step.cells
                         have q4 := y4
                         clear a y0 y1 y2 y3 y4 yf
                         have C5 := hide (end_no (((w3).setCell ⟨sb, 3, none⟩ (.int .i64 nb)).setCell ⟨sb, 4, none⟩ (.slice none 0 0)) wb (y :: t) HA4.out.words (by simp))
                         unfold pan at C5)
                      | (go_at_call 65
                         refine C3.out.mono ?_
                         rintro e w3 ⟨rfl, hw, kw⟩
                         have a := HA2.out.call hw kw
                         obtain ⟨y0, y1, y2, y3, y4, yf⟩ := a.step.cells
                         have z3 := yf 3
                         have sl3 := cell_lt y0
                         have HA3 : Hid (At W ((w3).setCell ⟨sb, 3, none⟩ (.int .i64 nb)) wb fb sb rb true false true false (y :: t) (k : Int) nc nb (.slice none 0 0) (.slice none 0 0) [] []) := a.store 3 (.int .i64 nb) rfl a.data a.keep
                         obtain ⟨c1, c2, c3, c4⟩ := HA3.out.form
                         have fl3 := HA3.out.flt
                         obtain ⟨_, _, _, b3, _, _⟩ := HA3.out.step.cells
                         have q3 := y3
                         clear hw kw a y0 y1 y2 y3 y4 yf
                         have C4 := hide (keep_none ((w3).setCell ⟨sb, 3, none⟩ (.int .i64 nb)) wb (y :: t) HA3.out.words (by simp [hasP, tl, hy])))
                      | (go_at_call 75
                         refine C2.out.mono ?_
                         rintro e w2 ⟨rfl, hw, kw⟩
                         have a := HA1.out.call hw kw
                         have HA2 : Hid (At W (w2) wb fb sb rb true false true false (n :: (y :: t)) (k : Int) nc 0 (.slice none 0 0) (.slice none 0 0) [] []) := a
                         obtain ⟨c1, c2, c3, c4⟩ := HA2.out.form
                         have fl2 := HA2.out.flt
                         clear hw kw a
                         have C3 := hide (numOk (w2) wb n (y :: t) HA2.out.words ⟨hpn, hnb⟩))
                      | (go_at_call 65
                         refine C1.out.mono ?_
                         rintro e w1 ⟨rfl, hw, kw⟩
                         have a := HA0.out.call hw kw
                         obtain ⟨y0, y1, y2, y3, y4, yf⟩ := a.step.cells
                         have z1 := yf 1
                         have sl1 := cell_lt y0
                         have HA1 : Hid (At W ((w1).setCell ⟨sb, 1, none⟩ (.int .i64 nc)) wb fb sb rb true false true false (breakT :: n :: (y :: t)) (k : Int) nc 0 (.slice none 0 0) (.slice none 0 0) [] []) := a.store 1 (.int .i64 nc) rfl a.data a.keep
                         obtain ⟨c1, c2, c3, c4⟩ := HA1.out.form
                         have fl1 := HA1.out.flt
                         obtain ⟨_, _, _, b3, _, _⟩ := HA1.out.step.cells
                         have q1 := y1
                         clear hw kw a y0 y1 y2 y3 y4 yf
                         have C2 := hide (has_yes ((w1).setCell ⟨sb, 1, none⟩ (.int .i64 nc)) wb breakT (n :: (y :: t)) HA1.out.words)
                         try unfold breakT at C2))
                    exact ⟨rfl, KF.out, .inr ⟨HP.out, rfl⟩⟩
        · skip
          have HP : Hid (stepP (k : Int) true false true false (tl (x1 :: (z :: r))) = none) := by
            show stepP _ _ _ _ _ _ = _
            simp [stepP, tailP, keepP, numP, hasP, tl, hp1, hnc, hz]
          have C1 := hide (numOk (w0) wb x1 (z :: r) HA0.out.words ⟨hp1, hnc⟩)
          obtain ⟨c1, c2, c3, c4⟩ := HA0.out.form
          have fl0 := HA0.out.flt
          go_wp2_with (first
            | (go_at_call 66
               refine C3.out.mono ?_
               rintro e w3 ⟨rfl, rfl⟩
               have KF := hide HA2.out.kept)
            | (go_at_call 75
               refine C2.out.mono ?_
               rintro e w2 ⟨rfl, hw2⟩
               rw [hw2]
               clear hw2 w2
               have a := HA1.out
               have HA2 : Hid (At W ((w1).setCell ⟨sb, 1, none⟩ (.int .i64 nc)) wb fb sb rb true false true false (z :: r) (k : Int) nc 0 (.slice none 0 0) (.slice none 0 0) [] []) := a
               obtain ⟨c1, c2, c3, c4⟩ := HA2.out.form
               have fl2 := HA2.out.flt
               clear a
               have C3 := hide (end_no ((w1).setCell ⟨sb, 1, none⟩ (.int .i64 nc)) wb (z :: r) HA2.out.words (by simp))
               unfold pan at C3)
            | (go_at_call 65
               refine C1.out.mono ?_
               rintro e w1 ⟨rfl, hw, kw⟩
               have a := HA0.out.call hw kw
               obtain ⟨y0, y1, y2, y3, y4, yf⟩ := a.step.cells
               have z1 := yf 1
               have sl1 := cell_lt y0
               have HA1 : Hid (At W ((w1).setCell ⟨sb, 1, none⟩ (.int .i64 nc)) wb fb sb rb true false true false (z :: r) (k : Int) nc 0 (.slice none 0 0) (.slice none 0 0) [] []) := a.store 1 (.int .i64 nc) rfl a.data a.keep
               obtain ⟨c1, c2, c3, c4⟩ := HA1.out.form
               have fl1 := HA1.out.flt
               obtain ⟨_, _, _, b3, _, _⟩ := HA1.out.step.cells
               have q1 := y1
               clear hw kw a y0 y1 y2 y3 y4 yf
               have C2 := hide (has_no ((w1).setCell ⟨sb, 1, none⟩ (.int .i64 nc)) wb breakT (z :: r) HA1.out.words (fun x r e => by cases e; exact hz))
               try unfold breakT at C2))
          exact ⟨rfl, KF.out, .inr ⟨HP.out, rfl⟩⟩
end Go.Proofs.YtpfbfkjmdlogcaaDoor
