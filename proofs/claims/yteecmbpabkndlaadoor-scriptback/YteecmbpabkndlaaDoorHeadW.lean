/-
  The walk of the reader's head.
-/
import Derived.Test.YteecmbpabkndlaaDoorConf
import Derived.Test.YteecmbpabkndlaaDoorStepAll
namespace Go.Proofs.YteecmbpabkndlaaDoor
open Go.RowKit

/-- The reader at rb: its config, its steps, whether the head is read, how many lines were begun. -/
def RdBox (w : World) (rb : Nat) (j s q : Int) (sv : Value) (hd : Bool) (n : Int) : Prop := w.heap[rb]? = some (.cells #[.int .i64 j, .int .i64 s, .int .i64 q, sv, .bool hd, .int .i64 n] 51 (0, 0))
theorem RdBox.cells {w : World} {rb : Nat} {j s q : Int} {sv : Value} {hd : Bool} {n : Int} (h : RdBox w rb j s q sv hd n) : w.cell? ⟨rb, 0, none⟩ = some (.int .i64 j) ∧ w.cell? ⟨rb, 1, none⟩ = some (.int .i64 s) ∧ w.cell? ⟨rb, 2, none⟩ = some (.int .i64 q) ∧ w.cell? ⟨rb, 3, none⟩ = some sv ∧ w.cell? ⟨rb, 4, none⟩ = some (.bool hd) ∧ w.cell? ⟨rb, 5, none⟩ = some (.int .i64 n) ∧ (∀ i, w.frozen? ⟨rb, i, none⟩ = false) ∧ rb < w.heap.size := by
  have hl := (Array.getElem?_eq_some_iff.1 h).1
  unfold RdBox at h
  refine ⟨?_, ?_, ?_, ?_, ?_, ?_, fun i => ?_, hl⟩ <;> simp only [World.cell?, World.frozen?, h] <;> rfl
theorem RdBox.kept {w w' : World} {rb : Nat} {j s q : Int} {sv : Value} {hd : Bool} {n : Int} {P : Nat → Prop} (h : RdBox w rb j s q sv hd n) (hk : Kept P w w') (hP : ¬ P rb) : RdBox w' rb j s q sv hd n := (hk.block rb (Array.getElem?_eq_some_iff.1 h).1 hP).trans h
def stintT : ByteArray := ⟨#[115, 116, 105, 110, 116]⟩
set_option maxHeartbeats 1000000 in
set_option maxRecDepth 1000000 in
theorem head_word (W : World) (rb : Nat) (x : ByteArray) (v : Value) (hx : x.data.toList ≠ stintW) (hv : ∃ a m c, v = .slice a m c) :
    Calls Tryd.prog 45 #[.pointer (some ⟨rb, 0, none⟩), .string x, v] W fun e w' => e = pan 191 ∧ Below W.heap.size W w' := by
  obtain ⟨a, m, c, rfl⟩ := hv
  have hne : (x.toList == [115, 116, 105, 110, 116]) = false := by rw [ByteArray.toList_eq, beq_eq_false_iff_ne]; exact hx
  unfold pan
  go_enter Tryd.func45, Tryd.ntmps45
  go_wp2_with fail
  exact ⟨rfl, rfl, (Below.refl _ W).alloc (Nat.le_refl _) _⟩
/-- Words in a slice whose row is of texts. -/
def WordsV (W : World) (v : Value) (ss : List ByteArray) : Prop := ∃ a c, v = .slice a ss.length c ∧ IsStrs W a c ss ∧ ∀ b o, a = some ⟨b, o, none⟩ → ∃ cur, W.heap[b]? = some (.cells cur 9 (0, 0))
theorem WordsV.box {W : World} {v : Value} {ss : List ByteArray} (h : WordsV W v ss) : WordsAt (W.alloc (.cells #[v] 79)) W.heap.size ss := by
  obtain ⟨a, c, rfl, h1, h2⟩ := h
  have hb : Below W.heap.size W (W.alloc (.cells #[.slice a ss.length c] 79)) := (Below.refl _ W).alloc (Nat.le_refl _) _
  refine ⟨a, c, heap_alloc_new W _, h1.below hb, fun b o e => ?_⟩
  obtain ⟨cur, hc⟩ := h2 b o e
  have hl := (Array.getElem?_eq_some_iff.1 hc).1
  exact ⟨by omega, cur, (hb.block b hl).trans hc⟩
/-- What head leaves. -/
def HeadPost (W : World) (rb : Nat) (j s q : Int) (sv : Value) (hd : Bool) (n : Int) (r : Except Int (Int × Int × Int)) (e : Ending) (w' : World) : Prop :=
  Kept (fun i => i = rb) W w' ∧ match r with | .ok (a, b, c) => e = .returned (.tuple #[]) ∧ RdBox w' rb a b c sv true n | .error c => e = pan c ∧ RdBox w' rb j s q sv hd n
theorem rd_after {W w0 w' : World} {rb wb : Nat} {j s q : Int} {sv : Value} {hd : Bool} {n : Int} (h : RdBox W rb j s q sv hd n) (b0 : Below W.heap.size W w0) (hwb : W.heap.size = wb) (hk : Kept (fun i => i = wb) w0 w') : RdBox w' rb j s q sv hd n := by
  have hl := h.cells.2.2.2.2.2.2.2
  exact RdBox.kept (show RdBox w0 rb j s q sv hd n from (b0.block rb hl).trans h) hk (by omega)
theorem kept_after {W w0 w' : World} {rb wb : Nat} (b0 : Below W.heap.size W w0) (hwb : W.heap.size = wb) (hk : Kept (fun i => i = wb) w0 w') : Kept (fun i => i = rb) W w' := (Kept.ofBelow b0).step hk (fun i hi e => by omega)
theorem head_fail {W w0 w' : World} {rb wb : Nat} {j s q : Int} {sv : Value} {hd : Bool} {n c : Int} (h : RdBox W rb j s q sv hd n) (b0 : Below W.heap.size W w0) (hwb : W.heap.size = wb) (hk : Kept (fun i => i = wb) w0 w') : HeadPost W rb j s q sv hd n (.error c) (pan c) w' :=
  ⟨kept_after b0 hwb hk, rfl, rd_after h b0 hwb hk⟩
theorem head_done {W w0 w' : World} {rb wb : Nat} {j s q : Int} {sv : Value} {hd : Bool} {n a1 a2 a3 : Int} (b0 : Below W.heap.size W w0) (hwb : W.heap.size = wb) (hk : Kept (fun i => i = wb) w0 w') (hr : RdBox w' rb j s q sv hd n) : HeadPost W rb j s q sv hd n (.ok (a1, a2, a3)) (.returned (.tuple #[])) ((((w'.setCell ⟨rb, 0, none⟩ (.int .i64 a1)).setCell ⟨rb, 1, none⟩ (.int .i64 a2)).setCell ⟨rb, 2, none⟩ (.int .i64 a3)).setCell ⟨rb, 4, none⟩ (.bool true)) := by
  have k1 : Kept (fun i => i = rb) w' ((((w'.setCell ⟨rb, 0, none⟩ (.int .i64 a1)).setCell ⟨rb, 1, none⟩ (.int .i64 a2)).setCell ⟨rb, 2, none⟩ (.int .i64 a3)).setCell ⟨rb, 4, none⟩ (.bool true)) := (((Kept.setCell (fun i => i = rb) _ _ _ _ rfl).trans (Kept.setCell (fun i => i = rb) _ _ _ _ rfl)).trans (Kept.setCell (fun i => i = rb) _ _ _ _ rfl)).trans (Kept.setCell (fun i => i = rb) _ _ _ _ rfl)
  exact ⟨(kept_after b0 hwb hk).trans k1, rfl, (set_cells (set_cells (set_cells (set_cells hr 0 _).1 1 _).1 2 _).1 4 _).1⟩
set_option maxHeartbeats 2000000 in
set_option maxRecDepth 1000000 in
theorem head_any (W : World) (rb : Nat) (x : ByteArray) (v : Value) (ss : List ByteArray) (j s q : Int) (sv : Value) (hd : Bool) (n : Int) (hx : x.data.toList = stintW) (hw : WordsV W v ss) (hr : RdBox W rb j s q sv hd n) :
    Calls Tryd.prog 45 #[.pointer (some ⟨rb, 0, none⟩), .string x, v] W (HeadPost W rb j s q sv hd n (headP x.data.toList (tl ss))) := by
  have HW0 := hide hw.box
  obtain ⟨av, cv, hv, _⟩ := hw
  subst hv
  have HR := hide hr
  have hrl := hr.cells.2.2.2.2.2.2.2
  obtain ⟨ml, hml⟩ : ∃ ml, ss.length = ml := ⟨_, rfl⟩
  rw [hml] at HW0 ⊢
  clear hml
  generalize hw0 : W.alloc (.cells #[.slice av ml cv] 79) = w0 at HW0
  have B0 : Below W.heap.size W w0 := by rw [← hw0]; exact (Below.refl _ W).alloc (Nat.le_refl _) _
  have HB0 := hide B0
  have hz0 := B0.size
  obtain ⟨wb, hwb⟩ : ∃ wb, W.heap.size = wb := ⟨_, rfl⟩
  rw [hwb] at HW0
  have HWB := hide hwb
  have hse : (x.toList == [115, 116, 105, 110, 116]) = true := by rw [ByteArray.toList_eq, beq_iff_eq]; exact hx
  clear hr B0
  cases ss with
  | nil =>
    have HP : Hid (headP x.data.toList (tl []) = .error 192) := by
      show headP _ _ = _
      simp [headP, hx, numP, tl]
    rw [HP.out]
    clear hx HP
    have C1 := hide (number_none w0 wb HW0.out)
    unfold pan at C1
    go_enter Tryd.func45, Tryd.ntmps45
    go_upto_region 3 with fail
    go_wp2_with (first
      | (go_at_call 65
         refine C1.out.mono ?_
         rintro e w1 ⟨rfl, hw1⟩
         have KF : Hid (Kept (fun i => i = wb) w0 w1) := by rw [hw1]; exact Kept.refl _ w0
         clear hw1))
    exact ⟨rfl, head_fail HR.out HB0.out HWB.out KF.out⟩
  | cons n1 r1 =>
    cases p1 : parseB n1.data.toList maxWord
    · skip
      have HP : Hid (headP x.data.toList (tl (n1 :: r1)) = .error 192) := by
        show headP _ _ = _
        simp [headP, hx, numP, tl, p1]
      rw [HP.out]
      clear hx HP
      have C1 := hide (numBad w0 wb n1 r1 HW0.out p1)
      unfold pan at C1
      go_enter Tryd.func45, Tryd.ntmps45
      go_upto_region 3 with fail
      go_wp2_with (first
        | (go_at_call 65
           refine C1.out.mono ?_
           rintro e w1 ⟨rfl, hk1⟩
           have KF : Hid (Kept (fun i => i = wb) w0 w1) := (Kept.refl _ w0).trans hk1
           clear hk1))
      exact ⟨rfl, head_fail HR.out HB0.out HWB.out KF.out⟩
    · obtain ⟨a1, h1⟩ : ∃ a1, parseV n1.data.toList maxWord = a1 := ⟨_, rfl⟩
      cases r1 with
      | nil =>
        have HP : Hid (headP x.data.toList (tl (n1 :: [])) = .error 192) := by
          show headP _ _ = _
          simp [headP, hx, numP, tl, p1]
        rw [HP.out]
        clear hx HP
        have C1 := hide (numOk w0 wb n1 [] HW0.out ⟨p1, h1⟩)
        go_enter Tryd.func45, Tryd.ntmps45
        go_upto_region 3 with fail
        go_wp2_with (first
          | (go_at_call 65
             refine C2.out.mono ?_
             rintro e w2 ⟨rfl, hw2⟩
             have KF : Hid (Kept (fun i => i = wb) w0 w2) := by rw [hw2]; exact KB1.out
             clear hw2)
          | (go_at_call 65
             refine C1.out.mono ?_
             rintro e w1 ⟨rfl, hw1, hk1⟩
             have HW1 := hide hw1
             have KB1 : Hid (Kept (fun i => i = wb) w0 w1) := hk1
             clear hw1 hk1
             have C2 := hide (number_none w1 wb HW1.out)
             unfold pan at C2))
        exact ⟨rfl, head_fail HR.out HB0.out HWB.out KF.out⟩
      | cons n2 r2 =>
        cases p2 : parseB n2.data.toList maxWord
        · skip
          have HP : Hid (headP x.data.toList (tl (n1 :: n2 :: r2)) = .error 192) := by
            show headP _ _ = _
            simp [headP, hx, numP, tl, p1, p2]
          rw [HP.out]
          clear hx HP
          have C1 := hide (numOk w0 wb n1 (n2 :: r2) HW0.out ⟨p1, h1⟩)
          go_enter Tryd.func45, Tryd.ntmps45
          go_upto_region 3 with fail
          go_wp2_with (first
            | (go_at_call 65
               refine C2.out.mono ?_
               rintro e w2 ⟨rfl, hk2⟩
               have KF : Hid (Kept (fun i => i = wb) w0 w2) := (KB1.out).trans hk2
               clear hk2)
            | (go_at_call 65
               refine C1.out.mono ?_
               rintro e w1 ⟨rfl, hw1, hk1⟩
               have HW1 := hide hw1
               have KB1 : Hid (Kept (fun i => i = wb) w0 w1) := hk1
               clear hw1 hk1
               have C2 := hide (numBad w1 wb n2 r2 HW1.out p2)
               unfold pan at C2))
          exact ⟨rfl, head_fail HR.out HB0.out HWB.out KF.out⟩
        · obtain ⟨a2, h2⟩ : ∃ a2, parseV n2.data.toList maxWord = a2 := ⟨_, rfl⟩
          cases r2 with
          | nil =>
            have HP : Hid (headP x.data.toList (tl (n1 :: n2 :: [])) = .error 192) := by
              show headP _ _ = _
              simp [headP, hx, numP, tl, p1, p2]
            rw [HP.out]
            clear hx HP
            have C1 := hide (numOk w0 wb n1 (n2 :: []) HW0.out ⟨p1, h1⟩)
            go_enter Tryd.func45, Tryd.ntmps45
            go_upto_region 3 with fail
            go_wp2_with (first
              | (go_at_call 65
                 refine C3.out.mono ?_
                 rintro e w3 ⟨rfl, hw3⟩
                 have KF : Hid (Kept (fun i => i = wb) w0 w3) := by rw [hw3]; exact KB2.out
                 clear hw3)
              | (go_at_call 65
                 refine C2.out.mono ?_
                 rintro e w2 ⟨rfl, hw2, hk2⟩
                 have HW2 := hide hw2
                 have KB2 : Hid (Kept (fun i => i = wb) w0 w2) := KB1.out.trans hk2
                 clear hw2 hk2
                 have C3 := hide (number_none w2 wb HW2.out)
                 unfold pan at C3)
              | (go_at_call 65
                 refine C1.out.mono ?_
                 rintro e w1 ⟨rfl, hw1, hk1⟩
                 have HW1 := hide hw1
                 have KB1 : Hid (Kept (fun i => i = wb) w0 w1) := hk1
                 clear hw1 hk1
                 have C2 := hide (numOk w1 wb n2 [] HW1.out ⟨p2, h2⟩)))
            exact ⟨rfl, head_fail HR.out HB0.out HWB.out KF.out⟩
          | cons n3 r3 =>
            cases p3 : parseB n3.data.toList maxWord
            · skip
              have HP : Hid (headP x.data.toList (tl (n1 :: n2 :: n3 :: r3)) = .error 192) := by
                show headP _ _ = _
                simp [headP, hx, numP, tl, p1, p2, p3]
              rw [HP.out]
              clear hx HP
              have C1 := hide (numOk w0 wb n1 (n2 :: n3 :: r3) HW0.out ⟨p1, h1⟩)
              go_enter Tryd.func45, Tryd.ntmps45
              go_upto_region 3 with fail
              go_wp2_with (first
                | (go_at_call 65
                   refine C3.out.mono ?_
                   rintro e w3 ⟨rfl, hk3⟩
                   have KF : Hid (Kept (fun i => i = wb) w0 w3) := (KB2.out).trans hk3
                   clear hk3)
                | (go_at_call 65
                   refine C2.out.mono ?_
                   rintro e w2 ⟨rfl, hw2, hk2⟩
                   have HW2 := hide hw2
                   have KB2 : Hid (Kept (fun i => i = wb) w0 w2) := KB1.out.trans hk2
                   clear hw2 hk2
                   have C3 := hide (numBad w2 wb n3 r3 HW2.out p3)
                   unfold pan at C3)
                | (go_at_call 65
                   refine C1.out.mono ?_
                   rintro e w1 ⟨rfl, hw1, hk1⟩
                   have HW1 := hide hw1
                   have KB1 : Hid (Kept (fun i => i = wb) w0 w1) := hk1
                   clear hw1 hk1
                   have C2 := hide (numOk w1 wb n2 (n3 :: r3) HW1.out ⟨p2, h2⟩)))
              exact ⟨rfl, head_fail HR.out HB0.out HWB.out KF.out⟩
            · obtain ⟨a3, h3⟩ : ∃ a3, parseV n3.data.toList maxWord = a3 := ⟨_, rfl⟩
              cases r3 with
              | cons n4 r4 =>
                have HP : Hid (headP x.data.toList (tl (n1 :: n2 :: n3 :: n4 :: r4)) = .error 192) := by
                  show headP _ _ = _
                  simp [headP, hx, numP, tl, p1, p2, p3]
                rw [HP.out]
                clear hx HP
                have C1 := hide (numOk w0 wb n1 (n2 :: n3 :: (n4 :: r4)) HW0.out ⟨p1, h1⟩)
                go_enter Tryd.func45, Tryd.ntmps45
                go_upto_region 3 with fail
                go_wp2_with (first
                  | (go_at_call 66
                     refine C4.out.mono ?_
                     rintro e w4 ⟨rfl, hw4⟩
                     have KF : Hid (Kept (fun i => i = wb) w0 w4) := by rw [hw4]; exact KB4.out
                     clear hw4)
                  | (go_at_call 65
                     refine C3.out.mono ?_
                     rintro e w3 ⟨rfl, hw3, hk3⟩
                     have HW3 := hide hw3
                     have KB3 : Hid (Kept (fun i => i = wb) w0 w3) := KB2.out.trans hk3
                     clear hw3 hk3
                     have al : Below w3.heap.size w3 (w3.alloc (.cells #[.int .i64 a1, .int .i64 a2, .int .i64 a3] 28)) := (Below.refl _ w3).alloc (Nat.le_refl _) _
                     have HW4 := hide (HW3.out.later al)
                     have KB4 : Hid (Kept (fun i => i = wb) w0 (w3.alloc (.cells #[.int .i64 a1, .int .i64 a2, .int .i64 a3] 28))) := KB3.out.trans (Kept.ofBelow al)
                     clear al
                     have C4 := hide (end_no (w3.alloc (.cells #[.int .i64 a1, .int .i64 a2, .int .i64 a3] 28)) wb (n4 :: r4) HW4.out (by simp))
                     unfold pan at C4)
                  | (go_at_call 65
                     refine C2.out.mono ?_
                     rintro e w2 ⟨rfl, hw2, hk2⟩
                     have HW2 := hide hw2
                     have KB2 : Hid (Kept (fun i => i = wb) w0 w2) := KB1.out.trans hk2
                     clear hw2 hk2
                     have C3 := hide (numOk w2 wb n3 (n4 :: r4) HW2.out ⟨p3, h3⟩))
                  | (go_at_call 65
                     refine C1.out.mono ?_
                     rintro e w1 ⟨rfl, hw1, hk1⟩
                     have HW1 := hide hw1
                     have KB1 : Hid (Kept (fun i => i = wb) w0 w1) := hk1
                     clear hw1 hk1
                     have C2 := hide (numOk w1 wb n2 (n3 :: (n4 :: r4)) HW1.out ⟨p2, h2⟩)))
                exact ⟨rfl, head_fail HR.out HB0.out HWB.out KF.out⟩
              | nil =>
                cases hc : configB a1 a2 a3
                · have hce : configE a1 a2 a3 = 103 := by simp [configE, hc]
                  have HP : Hid (headP x.data.toList (tl (n1 :: n2 :: n3 :: [])) = .error 190) := by
                    show headP _ _ = _
                    simp [headP, hx, numP, tl, p1, p2, p3, h1, h2, h3, hc]
                  rw [HP.out]
                  clear hx HP
                  have C1 := hide (numOk w0 wb n1 (n2 :: n3 :: []) HW0.out ⟨p1, h1⟩)
                  go_enter Tryd.func45, Tryd.ntmps45
                  go_upto_region 3 with fail
                  go_wp2_with (first
                    | (go_at_call 33
                       refine (C5.out _).mono ?_
                       rintro e w5 ⟨rfl, hb5⟩
                       have KF : Hid (Kept (fun i => i = wb) w0 w5) := KB4.out.trans (Kept.ofBelow hb5)
                       have xb := (hb5.block w3.heap.size (by simp)).trans (heap_alloc_new w3 _)
                       have XB := hide xb
                       have d0 : w5.cell? ⟨w3.heap.size, 0, none⟩ = some (.int .i64 a1) := by simp [World.cell?, xb]
                       have d1 : w5.cell? ⟨w3.heap.size, 1, none⟩ = some (.int .i64 a2) := by simp [World.cell?, xb]
                       have d2 : w5.cell? ⟨w3.heap.size, 2, none⟩ = some (.int .i64 a3) := by simp [World.cell?, xb]
                       have RK := rd_after HR.out HB0.out HWB.out KF.out
                       obtain ⟨y0, y1, y2, y3, y4, y5, yf, yl⟩ := RK.cells
                       have y0f := yf 0
                       have y1f := yf 1
                       have y2f := yf 2
                       have y4f := yf 4
                       have HRK := hide RK
                       have hl3 := KB3.out.size
                       clear hb5 xb RK yf)
                    | (go_at_call 66
                       refine C4.out.mono ?_
                       rintro e w4 ⟨rfl, hw4⟩
                       rw [hw4]
                       clear hw4 w4
                       have C5 := hide (fun w => checkConfig_any a1 a2 a3 w)
                       rw [hce] at C5)
                    | (go_at_call 65
                       refine C3.out.mono ?_
                       rintro e w3 ⟨rfl, hw3, hk3⟩
                       have HW3 := hide hw3
                       have KB3 : Hid (Kept (fun i => i = wb) w0 w3) := KB2.out.trans hk3
                       clear hw3 hk3
                       have al : Below w3.heap.size w3 (w3.alloc (.cells #[.int .i64 a1, .int .i64 a2, .int .i64 a3] 28)) := (Below.refl _ w3).alloc (Nat.le_refl _) _
                       have HW4 := hide (HW3.out.later al)
                       have KB4 : Hid (Kept (fun i => i = wb) w0 (w3.alloc (.cells #[.int .i64 a1, .int .i64 a2, .int .i64 a3] 28))) := KB3.out.trans (Kept.ofBelow al)
                       clear al
                       have C4 := hide (end_yes (w3.alloc (.cells #[.int .i64 a1, .int .i64 a2, .int .i64 a3] 28)) wb HW4.out))
                    | (go_at_call 65
                       refine C2.out.mono ?_
                       rintro e w2 ⟨rfl, hw2, hk2⟩
                       have HW2 := hide hw2
                       have KB2 : Hid (Kept (fun i => i = wb) w0 w2) := KB1.out.trans hk2
                       clear hw2 hk2
                       have C3 := hide (numOk w2 wb n3 [] HW2.out ⟨p3, h3⟩))
                    | (go_at_call 65
                       refine C1.out.mono ?_
                       rintro e w1 ⟨rfl, hw1, hk1⟩
                       have HW1 := hide hw1
                       have KB1 : Hid (Kept (fun i => i = wb) w0 w1) := hk1
                       clear hw1 hk1
                       have C2 := hide (numOk w1 wb n2 (n3 :: []) HW1.out ⟨p2, h2⟩)))
                  exact ⟨rfl, head_fail HR.out HB0.out HWB.out KF.out⟩
                · have hce : configE a1 a2 a3 = 0 := by simp [configE, hc]
                  have HP : Hid (headP x.data.toList (tl (n1 :: n2 :: n3 :: [])) = .ok (a1, a2, a3)) := by
                    show headP _ _ = _
                    simp [headP, hx, numP, tl, p1, p2, p3, h1, h2, h3, hc]
                  rw [HP.out]
                  clear hx HP
                  have C1 := hide (numOk w0 wb n1 (n2 :: n3 :: []) HW0.out ⟨p1, h1⟩)
                  go_enter Tryd.func45, Tryd.ntmps45
                  go_upto_region 3 with fail
                  go_wp2_with (first
                    | (go_at_call 33
                       refine (C5.out _).mono ?_
                       rintro e w5 ⟨rfl, hb5⟩
                       have KF : Hid (Kept (fun i => i = wb) w0 w5) := KB4.out.trans (Kept.ofBelow hb5)
                       have xb := (hb5.block w3.heap.size (by simp)).trans (heap_alloc_new w3 _)
                       have XB := hide xb
                       have d0 : w5.cell? ⟨w3.heap.size, 0, none⟩ = some (.int .i64 a1) := by simp [World.cell?, xb]
                       have d1 : w5.cell? ⟨w3.heap.size, 1, none⟩ = some (.int .i64 a2) := by simp [World.cell?, xb]
                       have d2 : w5.cell? ⟨w3.heap.size, 2, none⟩ = some (.int .i64 a3) := by simp [World.cell?, xb]
                       have RK := rd_after HR.out HB0.out HWB.out KF.out
                       obtain ⟨y0, y1, y2, y3, y4, y5, yf, yl⟩ := RK.cells
                       have y0f := yf 0
                       have y1f := yf 1
                       have y2f := yf 2
                       have y4f := yf 4
                       have HRK := hide RK
                       have hl3 := KB3.out.size
                       clear hb5 xb RK yf)
                    | (go_at_call 66
                       refine C4.out.mono ?_
                       rintro e w4 ⟨rfl, hw4⟩
                       rw [hw4]
                       clear hw4 w4
                       have C5 := hide (fun w => checkConfig_any a1 a2 a3 w)
                       rw [hce] at C5)
                    | (go_at_call 65
                       refine C3.out.mono ?_
                       rintro e w3 ⟨rfl, hw3, hk3⟩
                       have HW3 := hide hw3
                       have KB3 : Hid (Kept (fun i => i = wb) w0 w3) := KB2.out.trans hk3
                       clear hw3 hk3
                       have al : Below w3.heap.size w3 (w3.alloc (.cells #[.int .i64 a1, .int .i64 a2, .int .i64 a3] 28)) := (Below.refl _ w3).alloc (Nat.le_refl _) _
                       have HW4 := hide (HW3.out.later al)
                       have KB4 : Hid (Kept (fun i => i = wb) w0 (w3.alloc (.cells #[.int .i64 a1, .int .i64 a2, .int .i64 a3] 28))) := KB3.out.trans (Kept.ofBelow al)
                       clear al
                       have C4 := hide (end_yes (w3.alloc (.cells #[.int .i64 a1, .int .i64 a2, .int .i64 a3] 28)) wb HW4.out))
                    | (go_at_call 65
                       refine C2.out.mono ?_
                       rintro e w2 ⟨rfl, hw2, hk2⟩
                       have HW2 := hide hw2
                       have KB2 : Hid (Kept (fun i => i = wb) w0 w2) := KB1.out.trans hk2
                       clear hw2 hk2
                       have C3 := hide (numOk w2 wb n3 [] HW2.out ⟨p3, h3⟩))
                    | (go_at_call 65
                       refine C1.out.mono ?_
                       rintro e w1 ⟨rfl, hw1, hk1⟩
                       have HW1 := hide hw1
                       have KB1 : Hid (Kept (fun i => i = wb) w0 w1) := hk1
                       clear hw1 hk1
                       have C2 := hide (numOk w1 wb n2 (n3 :: []) HW1.out ⟨p2, h2⟩)))
                  go_end0
                  exact head_done HB0.out HWB.out KF.out HRK.out
end Go.Proofs.YteecmbpabkndlaaDoor
