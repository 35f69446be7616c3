/-
  HeadW, KeepsG, RStepL.
-/
import Derived.Test.YteaccpolmmkclaaDoorConf
import Derived.Test.YteaccpolmmkclaaDoorStpA
import Derived.Test.YteaccpolmmkclaaDoorMemA
import Derived.Deep.AppendSrc
import Derived.OwnWalk
import Derived.Deep.RegionLaw
namespace Go.Proofs.YteaccpolmmkclaaDoor
open Go.RowKit

/-- The reader at rb: its config, its steps, whether the head is read, how many lines were begun. -/
def RdBox (w : World) (rb : Nat) (j s q : Int) (sv : Value) (hd : Bool) (n : Int) : Prop := w.heap[rb]? = some (.cells #[.int .i64 j, .int .i64 s, .int .i64 q, sv, .bool hd, .int .i64 n] 44 (0, 0))
theorem RdBox.cells {w : World} {rb : Nat} {j s q : Int} {sv : Value} {hd : Bool} {n : Int} (h : RdBox w rb j s q sv hd n) : w.cell? ⟨rb, 0, none⟩ = some (.int .i64 j) ∧ w.cell? ⟨rb, 1, none⟩ = some (.int .i64 s) ∧ w.cell? ⟨rb, 2, none⟩ = some (.int .i64 q) ∧ w.cell? ⟨rb, 3, none⟩ = some sv ∧ w.cell? ⟨rb, 4, none⟩ = some (.bool hd) ∧ w.cell? ⟨rb, 5, none⟩ = some (.int .i64 n) ∧ (∀ i, w.frozen? ⟨rb, i, none⟩ = false) ∧ rb < w.heap.size := by
  have hl := (Array.getElem?_eq_some_iff.1 h).1
  unfold RdBox at h
  refine ⟨?_, ?_, ?_, ?_, ?_, ?_, fun i => ?_, hl⟩ <;> simp only [World.cell?, World.frozen?, h] <;> rfl
theorem RdBox.kept {w w' : World} {rb : Nat} {j s q : Int} {sv : Value} {hd : Bool} {n : Int} {P : Nat → Prop} (h : RdBox w rb j s q sv hd n) (hk : Kept P w w') (hP : ¬ P rb) : RdBox w' rb j s q sv hd n := (hk.block rb (Array.getElem?_eq_some_iff.1 h).1 hP).trans h
def stintT : ByteArray := ⟨#[115, 116, 105, 110, 116]⟩
set_option maxHeartbeats 1000000 in
set_option maxRecDepth 1000000 in
theorem head_word (W : World) (rb : Nat) (x : ByteArray) (v : Value) (hx : x.data.toList ≠ stintW) (hv : ∃ a m c, v = .slice a m c) :
    Calls Tryd.prog 33 #[.pointer (some ⟨rb, 0, none⟩), .string x, v] W fun e w' => e = pan 191 ∧ Below W.heap.size W w' := by
  obtain ⟨a, m, c, rfl⟩ := hv
  have hne : (x.toList == [115, 116, 105, 110, 116]) = false := by rw [ByteArray.toList_eq, beq_eq_false_iff_ne]; exact hx
  unfold pan
  go_enter Tryd.func33, Tryd.ntmps33
  go_wp2_with fail
  exact ⟨rfl, rfl, (Below.refl _ W).alloc (Nat.le_refl _) _⟩
/-- Words in a slice whose row is of texts. -/
def WordsV (W : World) (v : Value) (ss : List ByteArray) : Prop := ∃ a c, v = .slice a ss.length c ∧ IsStrs W a c ss ∧ ∀ b o, a = some ⟨b, o, none⟩ → ∃ cur, W.heap[b]? = some (.cells cur 9 (0, 0))
theorem WordsV.box {W : World} {v : Value} {ss : List ByteArray} (h : WordsV W v ss) : WordsAt (W.alloc (.cells #[v] 72)) W.heap.size ss := by
  obtain ⟨a, c, rfl, h1, h2⟩ := h
  have hb : Below W.heap.size W (W.alloc (.cells #[.slice a ss.length c] 72)) := (Below.refl _ W).alloc (Nat.le_refl _) _
  refine ⟨a, c, heap_alloc_new W _, h1.below hb, fun b o e => ?_⟩
  obtain ⟨cur, hc⟩ := h2 b o e
  have hl := (Array.getElem?_eq_some_iff.1 hc).1
  exact ⟨by omega, cur, (hb.block b hl).trans hc⟩
/-- What head leaves. -/
def HeadPost (W : World) (rb : Nat) (j s q : Int) (sv : Value) (hd : Bool) (n : Int) (r : Except Int (Int × Int × Int)) (e : Ending) (w' : World) : Prop :=
  Kept (fun i => i = rb) W w' ∧ match r with | .ok (a, b, c) => e = .returned (.tuple #[]) ∧ RdBox w' rb a b c sv true n | .error c => e = pan c ∧ RdBox w' rb j s q sv hd n
theorem rd_after {W w0 w' : World} {rb wb : Nat} {j s q : Int} {sv : Value} {hd : Bool} {n : Int} (h : RdBox W rb j s q sv hd n) (b0 : Below W.heap.size W w0) (hwb : W.heap.size = wb) (hk : Kept (fun i => i = wb) w0 w') : RdBox w' rb j s q sv hd n := by
  have hl := h.cells.2.2.2.2.2.2.2
  exact RdBox.kept (show RdBox w0 rb j s q sv hd n from (b0.block rb hl).trans h) hk (by omega)
theorem kept_after {W w0 w' : World} {rb wb : Nat} (b0 : Below W.heap.size W w0) (hwb : W.heap.size = wb) (hk : Kept (fun i => i = wb) w0 w') : Kept (fun i => i = rb) W w' := (Kept.ofBelow b0).step hk (fun i hi e => by omega)
theorem head_fail {W w0 w' : World} {rb wb : Nat} {j s q : Int} {sv : Value} {hd : Bool} {n c : Int} (h : RdBox W rb j s q sv hd n) (b0 : Below W.heap.size W w0) (hwb : W.heap.size = wb) (hk : Kept (fun i => i = wb) w0 w') : HeadPost W rb j s q sv hd n (.error c) (pan c) w' :=
  ⟨kept_after b0 hwb hk, rfl, rd_after h b0 hwb hk⟩
theorem head_done {W w0 w' : World} {rb wb : Nat} {j s q : Int} {sv : Value} {hd : Bool} {n a1 a2 a3 : Int} (b0 : Below W.heap.size W w0) (hwb : W.heap.size = wb) (hk : Kept (fun i => i = wb) w0 w') (hr : RdBox w' rb j s q sv hd n) : HeadPost W rb j s q sv hd n (.ok (a1, a2, a3)) (.returned (.tuple #[])) ((((w'.setCell ⟨rb, 0, none⟩ (.int .i64 a1)).setCell ⟨rb, 1, none⟩ (.int .i64 a2)).setCell ⟨rb, 2, none⟩ (.int .i64 a3)).setCell ⟨rb, 4, none⟩ (.bool true)) := by
  have k1 : Kept (fun i => i = rb) w' ((((w'.setCell ⟨rb, 0, none⟩ (.int .i64 a1)).setCell ⟨rb, 1, none⟩ (.int .i64 a2)).setCell ⟨rb, 2, none⟩ (.int .i64 a3)).setCell ⟨rb, 4, none⟩ (.bool true)) := (((Kept.setCell (fun i => i = rb) _ _ _ _ rfl).trans (Kept.setCell (fun i => i = rb) _ _ _ _ rfl)).trans (Kept.setCell (fun i => i = rb) _ _ _ _ rfl)).trans (Kept.setCell (fun i => i = rb) _ _ _ _ rfl)
  exact ⟨(kept_after b0 hwb hk).trans k1, rfl, (set_cells (set_cells (set_cells (set_cells hr 0 _).1 1 _).1 2 _).1 4 _).1⟩
set_option maxHeartbeats 2000000 in
set_option maxRecDepth 1000000 in
theorem head_any (W : World) (rb : Nat) (x : ByteArray) (v : Value) (ss : List ByteArray) (j s q : Int) (sv : Value) (hd : Bool) (n : Int) (hx : x.data.toList = stintW) (hw : WordsV W v ss) (hr : RdBox W rb j s q sv hd n) :
    Calls Tryd.prog 33 #[.pointer (some ⟨rb, 0, none⟩), .string x, v] W (HeadPost W rb j s q sv hd n (headP x.data.toList (tl ss))) := by
  have HW0 := hide hw.box
  obtain ⟨av, cv, hv, _⟩ := hw
  subst hv
  have HR := hide hr
  have hrl := hr.cells.2.2.2.2.2.2.2
  obtain ⟨ml, hml⟩ : ∃ ml, ss.length = ml := ⟨_, rfl⟩
  rw [hml] at HW0 ⊢
  clear hml
  generalize hw0 : W.alloc (.cells #[.slice av ml cv] 72) = w0 at HW0
  have B0 : Below W.heap.size W w0 := by rw [← hw0]; exact (Below.refl _ W).alloc (Nat.le_refl _) _
  have HB0 := hide B0
  have hz0 := B0.size
  obtain ⟨wb, hwb⟩ : ∃ wb, W.heap.size = wb := ⟨_, rfl⟩
  rw [hwb] at HW0
  have HWB := hide hwb
  have hse : (x.toList == [115, 116, 105, 110, 116]) = true := by rw [ByteArray.toList_eq, beq_iff_eq]; exact hx
  clear hr B0
  cases ss with
  | nil =>
    have HP : Hid (headP x.data.toList (tl []) = .error 192) := by
      show headP _ _ = _
      simp [headP, hx, numP, tl]
    rw [HP.out]
    clear hx HP
    have C1 := hide (number_none w0 wb HW0.out)
    unfold pan at C1
    go_enter Tryd.func33, Tryd.ntmps33
    go_upto_region 3 with fail
    go_wp2_with (first
      | (go_at_call 51
         refine C1.out.mono ?_
         rintro e w1 ⟨rfl, hw1⟩
         have KF : Hid (Kept (fun i => i = wb) w0 w1) := by rw [hw1]; exact Kept.refl _ w0
         clear hw1))
    exact ⟨rfl, head_fail HR.out HB0.out HWB.out KF.out⟩
  | cons n1 r1 =>
    cases p1 : parseB n1.data.toList maxWord
    · skip
      have HP : Hid (headP x.data.toList (tl (n1 :: r1)) = .error 192) := by
        show headP _ _ = _
        simp [headP, hx, numP, tl, p1]
      rw [HP.out]
      clear hx HP
      have C1 := hide (numBad w0 wb n1 r1 HW0.out p1)
      unfold pan at C1
      go_enter Tryd.func33, Tryd.ntmps33
      go_upto_region 3 with fail
      go_wp2_with (first
        | (go_at_call 51
           refine C1.out.mono ?_
           rintro e w1 ⟨rfl, hk1⟩
           have KF : Hid (Kept (fun i => i = wb) w0 w1) := (Kept.refl _ w0).trans hk1
           clear hk1))
      exact ⟨rfl, head_fail HR.out HB0.out HWB.out KF.out⟩
    · obtain ⟨a1, h1⟩ : ∃ a1, parseV n1.data.toList maxWord = a1 := ⟨_, rfl⟩
      cases r1 with
      | nil =>
        have HP : Hid (headP x.data.toList (tl (n1 :: [])) = .error 192) := by
          show headP _ _ = _
          simp [headP, hx, numP, tl, p1]
        rw [HP.out]
        clear hx HP
        have C1 := hide (numOk w0 wb n1 [] HW0.out ⟨p1, h1⟩)
        go_enter Tryd.func33, Tryd.ntmps33
        go_upto_region 3 with fail
        go_wp2_with (first
          | (go_at_call 51
             refine C2.out.mono ?_
             rintro e w2 ⟨rfl, hw2⟩
             have KF : Hid (Kept (fun i => i = wb) w0 w2) := by rw [hw2]; exact KB1.out
             clear hw2)
          | (go_at_call 51
             refine C1.out.mono ?_
             rintro e w1 ⟨rfl, hw1, hk1⟩
             have HW1 := hide hw1
             have KB1 : Hid (Kept (fun i => i = wb) w0 w1) := hk1
             clear hw1 hk1
             have C2 := hide (number_none w1 wb HW1.out)
             unfold pan at C2))
        exact ⟨rfl, head_fail HR.out HB0.out HWB.out KF.out⟩
      | cons n2 r2 =>
        cases p2 : parseB n2.data.toList maxWord
        · skip
          have HP : Hid (headP x.data.toList (tl (n1 :: n2 :: r2)) = .error 192) := by
            show headP _ _ = _
            simp [headP, hx, numP, tl, p1, p2]
          rw [HP.out]
          clear hx HP
          have C1 := hide (numOk w0 wb n1 (n2 :: r2) HW0.out ⟨p1, h1⟩)
          go_enter Tryd.func33, Tryd.ntmps33
          go_upto_region 3 with fail
          go_wp2_with (first
            | (go_at_call 51
               refine C2.out.mono ?_
               rintro e w2 ⟨rfl, hk2⟩
               have KF : Hid (Kept (fun i => i = wb) w0 w2) := (KB1.out).trans hk2
               clear hk2)
            | (go_at_call 51
               refine C1.out.mono ?_
               rintro e w1 ⟨rfl, hw1, hk1⟩
               have HW1 := hide hw1
               have KB1 : Hid (Kept (fun i => i = wb) w0 w1) := hk1
               clear hw1 hk1
               have C2 := hide (numBad w1 wb n2 r2 HW1.out p2)
               unfold pan at C2))
          exact ⟨rfl, head_fail HR.out HB0.out HWB.out KF.out⟩
        · obtain ⟨a2, h2⟩ : ∃ a2, parseV n2.data.toList maxWord = a2 := ⟨_, rfl⟩
          cases r2 with
          | nil =>
            have HP : Hid (headP x.data.toList (tl (n1 :: n2 :: [])) = .error 192) := by
              show headP _ _ = _
              simp [headP, hx, numP, tl, p1, p2]
            rw [HP.out]
            clear hx HP
            have C1 := hide (numOk w0 wb n1 (n2 :: []) HW0.out ⟨p1, h1⟩)
            go_enter Tryd.func33, Tryd.ntmps33
            go_upto_region 3 with fail
            go_wp2_with (first
              | (go_at_call 51
                 refine C3.out.mono ?_
                 rintro e w3 ⟨rfl, hw3⟩
                 have KF : Hid (Kept (fun i => i = wb) w0 w3) := by rw [hw3]; exact KB2.out
                 clear hw3)
              | (go_at_call 51
                 refine C2.out.mono ?_
                 rintro e w2 ⟨rfl, hw2, hk2⟩
                 have HW2 := hide hw2
                 have KB2 : Hid (Kept (fun i => i = wb) w0 w2) := KB1.out.trans hk2
                 clear hw2 hk2
                 have C3 := hide (number_none w2 wb HW2.out)
                 unfold pan at C3)
              | (go_at_call 51
                 refine C1.out.mono ?_
                 rintro e w1 ⟨rfl, hw1, hk1⟩
                 have HW1 := hide hw1
                 have KB1 : Hid (Kept (fun i => i = wb) w0 w1) := hk1
                 clear hw1 hk1
                 have C2 := hide (numOk w1 wb n2 [] HW1.out ⟨p2, h2⟩)))
            exact ⟨rfl, head_fail HR.out HB0.out HWB.out KF.out⟩
          | cons n3 r3 =>
            cases p3 : parseB n3.data.toList maxWord
            · skip
              have HP : Hid (headP x.data.toList (tl (n1 :: n2 :: n3 :: r3)) = .error 192) := by
                show headP _ _ = _
                simp [headP, hx, numP, tl, p1, p2, p3]
              rw [HP.out]
              clear hx HP
              have C1 := hide (numOk w0 wb n1 (n2 :: n3 :: r3) HW0.out ⟨p1, h1⟩)
              go_enter Tryd.func33, Tryd.ntmps33
              go_upto_region 3 with fail
              go_wp2_with (first
                | (go_at_call 51
                   refine C3.out.mono ?_
                   rintro e w3 ⟨rfl, hk3⟩
                   have KF : Hid (Kept (fun i => i = wb) w0 w3) := (KB2.out).trans hk3
                   clear hk3)
                | (go_at_call 51
                   refine C2.out.mono ?_
                   rintro e w2 ⟨rfl, hw2, hk2⟩
                   have HW2 := hide hw2
                   have KB2 : Hid (Kept (fun i => i = wb) w0 w2) := KB1.out.trans hk2
                   clear hw2 hk2
                   have C3 := hide (numBad w2 wb n3 r3 HW2.out p3)
                   unfold pan at C3)
                | (go_at_call 51
                   refine C1.out.mono ?_
                   rintro e w1 ⟨rfl, hw1, hk1⟩
                   have HW1 := hide hw1
                   have KB1 : Hid (Kept (fun i => i = wb) w0 w1) := hk1
                   clear hw1 hk1
                   have C2 := hide (numOk w1 wb n2 (n3 :: r3) HW1.out ⟨p2, h2⟩)))
              exact ⟨rfl, head_fail HR.out HB0.out HWB.out KF.out⟩
            · obtain ⟨a3, h3⟩ : ∃ a3, parseV n3.data.toList maxWord = a3 := ⟨_, rfl⟩
              cases r3 with
              | cons n4 r4 =>
                have HP : Hid (headP x.data.toList (tl (n1 :: n2 :: n3 :: n4 :: r4)) = .error 192) := by
                  show headP _ _ = _
                  simp [headP, hx, numP, tl, p1, p2, p3]
                rw [HP.out]
                clear hx HP
                have C1 := hide (numOk w0 wb n1 (n2 :: n3 :: (n4 :: r4)) HW0.out ⟨p1, h1⟩)
                go_enter Tryd.func33, Tryd.ntmps33
                go_upto_region 3 with fail
                go_wp2_with (first
                  | (go_at_call 52
                     refine C4.out.mono ?_
                     rintro e w4 ⟨rfl, hw4⟩
                     have KF : Hid (Kept (fun i => i = wb) w0 w4) := by rw [hw4]; exact KB4.out
                     clear hw4)
                  | (go_at_call 51
                     refine C3.out.mono ?_
                     rintro e w3 ⟨rfl, hw3, hk3⟩
                     have HW3 := hide hw3
                     have KB3 : Hid (Kept (fun i => i = wb) w0 w3) := KB2.out.trans hk3
                     clear hw3 hk3
                     have al : Below w3.heap.size w3 (w3.alloc (.cells #[.int .i64 a1, .int .i64 a2, .int .i64 a3] 28)) := (Below.refl _ w3).alloc (Nat.le_refl _) _
                     have HW4 := hide (HW3.out.later al)
                     have KB4 : Hid (Kept (fun i => i = wb) w0 (w3.alloc (.cells #[.int .i64 a1, .int .i64 a2, .int .i64 a3] 28))) := KB3.out.trans (Kept.ofBelow al)
                     clear al
                     have C4 := hide (end_no (w3.alloc (.cells #[.int .i64 a1, .int .i64 a2, .int .i64 a3] 28)) wb (n4 :: r4) HW4.out (by simp))
                     unfold pan at C4)
                  | (go_at_call 51
                     refine C2.out.mono ?_
                     rintro e w2 ⟨rfl, hw2, hk2⟩
                     have HW2 := hide hw2
                     have KB2 : Hid (Kept (fun i => i = wb) w0 w2) := KB1.out.trans hk2
                     clear hw2 hk2
                     have C3 := hide (numOk w2 wb n3 (n4 :: r4) HW2.out ⟨p3, h3⟩))
                  | (go_at_call 51
                     refine C1.out.mono ?_
                     rintro e w1 ⟨rfl, hw1, hk1⟩
                     have HW1 := hide hw1
                     have KB1 : Hid (Kept (fun i => i = wb) w0 w1) := hk1
                     clear hw1 hk1
                     have C2 := hide (numOk w1 wb n2 (n3 :: (n4 :: r4)) HW1.out ⟨p2, h2⟩)))
                exact ⟨rfl, head_fail HR.out HB0.out HWB.out KF.out⟩
              | nil =>
                cases hc : configB a1 a2 a3
                · have hce : configE a1 a2 a3 = 103 := by simp [configE, hc]
                  have HP : Hid (headP x.data.toList (tl (n1 :: n2 :: n3 :: [])) = .error 190) := by
                    show headP _ _ = _
                    simp [headP, hx, numP, tl, p1, p2, p3, h1, h2, h3, hc]
                  rw [HP.out]
                  clear hx HP
                  have C1 := hide (numOk w0 wb n1 (n2 :: n3 :: []) HW0.out ⟨p1, h1⟩)
                  go_enter Tryd.func33, Tryd.ntmps33
                  go_upto_region 3 with fail
                  go_wp2_with (first
                    | (go_at_call 25
                       refine (C5.out _).mono ?_
                       rintro e w5 ⟨rfl, hb5⟩
                       have KF : Hid (Kept (fun i => i = wb) w0 w5) := KB4.out.trans (Kept.ofBelow hb5)
                       have xb := (hb5.block w3.heap.size (by simp)).trans (heap_alloc_new w3 _)
                       have XB := hide xb
                       have d0 : w5.cell? ⟨w3.heap.size, 0, none⟩ = some (.int .i64 a1) := by simp [World.cell?, xb]
                       have d1 : w5.cell? ⟨w3.heap.size, 1, none⟩ = some (.int .i64 a2) := by simp [World.cell?, xb]
                       have d2 : w5.cell? ⟨w3.heap.size, 2, none⟩ = some (.int .i64 a3) := by simp [World.cell?, xb]
                       have RK := rd_after HR.out HB0.out HWB.out KF.out
                       obtain ⟨y0, y1, y2, y3, y4, y5, yf, yl⟩ := RK.cells
                       have y0f := yf 0
                       have y1f := yf 1
                       have y2f := yf 2
                       have y4f := yf 4
                       have HRK := hide RK
                       have hl3 := KB3.out.size
                       clear hb5 xb RK yf)
                    | (go_at_call 52
                       refine C4.out.mono ?_
                       rintro e w4 ⟨rfl, hw4⟩
                       rw [hw4]
                       clear hw4 w4
                       have C5 := hide (fun w => checkConfig_any a1 a2 a3 w)
                       rw [hce] at C5)
                    | (go_at_call 51
                       refine C3.out.mono ?_
                       rintro e w3 ⟨rfl, hw3, hk3⟩
                       have HW3 := hide hw3
                       have KB3 : Hid (Kept (fun i => i = wb) w0 w3) := KB2.out.trans hk3
                       clear hw3 hk3
                       have al : Below w3.heap.size w3 (w3.alloc (.cells #[.int .i64 a1, .int .i64 a2, .int .i64 a3] 28)) := (Below.refl _ w3).alloc (Nat.le_refl _) _
                       have HW4 := hide (HW3.out.later al)
                       have KB4 : Hid (Kept (fun i => i = wb) w0 (w3.alloc (.cells #[.int .i64 a1, .int .i64 a2, .int .i64 a3] 28))) := KB3.out.trans (Kept.ofBelow al)
                       clear al
                       have C4 := hide (end_yes (w3.alloc (.cells #[.int .i64 a1, .int .i64 a2, .int .i64 a3] 28)) wb HW4.out))
                    | (go_at_call 51
                       refine C2.out.mono ?_
                       rintro e w2 ⟨rfl, hw2, hk2⟩
                       have HW2 := hide hw2
                       have KB2 : Hid (Kept (fun i => i = wb) w0 w2) := KB1.out.trans hk2
                       clear hw2 hk2
                       have C3 := hide (numOk w2 wb n3 [] HW2.out ⟨p3, h3⟩))
                    | (go_at_call 51
                       refine C1.out.mono ?_
                       rintro e w1 ⟨rfl, hw1, hk1⟩
                       have HW1 := hide hw1
                       have KB1 : Hid (Kept (fun i => i = wb) w0 w1) := hk1
                       clear hw1 hk1
                       have C2 := hide (numOk w1 wb n2 (n3 :: []) HW1.out ⟨p2, h2⟩)))
                  exact ⟨rfl, head_fail HR.out HB0.out HWB.out KF.out⟩
                · have hce : configE a1 a2 a3 = 0 := by simp [configE, hc]
                  have HP : Hid (headP x.data.toList (tl (n1 :: n2 :: n3 :: [])) = .ok (a1, a2, a3)) := by
                    show headP _ _ = _
                    simp [headP, hx, numP, tl, p1, p2, p3, h1, h2, h3, hc]
                  rw [HP.out]
                  clear hx HP
                  have C1 := hide (numOk w0 wb n1 (n2 :: n3 :: []) HW0.out ⟨p1, h1⟩)
                  go_enter Tryd.func33, Tryd.ntmps33
                  go_upto_region 3 with fail
                  go_wp2_with (first
                    | (go_at_call 25
                       refine (C5.out _).mono ?_
                       rintro e w5 ⟨rfl, hb5⟩
                       have KF : Hid (Kept (fun i => i = wb) w0 w5) := KB4.out.trans (Kept.ofBelow hb5)
                       have xb := (hb5.block w3.heap.size (by simp)).trans (heap_alloc_new w3 _)
                       have XB := hide xb
                       have d0 : w5.cell? ⟨w3.heap.size, 0, none⟩ = some (.int .i64 a1) := by simp [World.cell?, xb]
                       have d1 : w5.cell? ⟨w3.heap.size, 1, none⟩ = some (.int .i64 a2) := by simp [World.cell?, xb]
                       have d2 : w5.cell? ⟨w3.heap.size, 2, none⟩ = some (.int .i64 a3) := by simp [World.cell?, xb]
                       have RK := rd_after HR.out HB0.out HWB.out KF.out
                       obtain ⟨y0, y1, y2, y3, y4, y5, yf, yl⟩ := RK.cells
                       have y0f := yf 0
                       have y1f := yf 1
                       have y2f := yf 2
                       have y4f := yf 4
                       have HRK := hide RK
                       have hl3 := KB3.out.size
                       clear hb5 xb RK yf)
                    | (go_at_call 52
                       refine C4.out.mono ?_
                       rintro e w4 ⟨rfl, hw4⟩
                       rw [hw4]
                       clear hw4 w4
                       have C5 := hide (fun w => checkConfig_any a1 a2 a3 w)
                       rw [hce] at C5)
                    | (go_at_call 51
                       refine C3.out.mono ?_
                       rintro e w3 ⟨rfl, hw3, hk3⟩
                       have HW3 := hide hw3
                       have KB3 : Hid (Kept (fun i => i = wb) w0 w3) := KB2.out.trans hk3
                       clear hw3 hk3
                       have al : Below w3.heap.size w3 (w3.alloc (.cells #[.int .i64 a1, .int .i64 a2, .int .i64 a3] 28)) := (Below.refl _ w3).alloc (Nat.le_refl _) _
                       have HW4 := hide (HW3.out.later al)
                       have KB4 : Hid (Kept (fun i => i = wb) w0 (w3.alloc (.cells #[.int .i64 a1, .int .i64 a2, .int .i64 a3] 28))) := KB3.out.trans (Kept.ofBelow al)
                       clear al
                       have C4 := hide (end_yes (w3.alloc (.cells #[.int .i64 a1, .int .i64 a2, .int .i64 a3] 28)) wb HW4.out))
                    | (go_at_call 51
                       refine C2.out.mono ?_
                       rintro e w2 ⟨rfl, hw2, hk2⟩
                       have HW2 := hide hw2
                       have KB2 : Hid (Kept (fun i => i = wb) w0 w2) := KB1.out.trans hk2
                       clear hw2 hk2
                       have C3 := hide (numOk w2 wb n3 [] HW2.out ⟨p3, h3⟩))
                    | (go_at_call 51
                       refine C1.out.mono ?_
                       rintro e w1 ⟨rfl, hw1, hk1⟩
                       have HW1 := hide hw1
                       have KB1 : Hid (Kept (fun i => i = wb) w0 w1) := hk1
                       clear hw1 hk1
                       have C2 := hide (numOk w1 wb n2 (n3 :: []) HW1.out ⟨p2, h2⟩)))
                  go_end0
                  exact head_done HB0.out HWB.out KF.out HRK.out
end Go.Proofs.YteaccpolmmkclaaDoor

namespace Go.Proofs.YteaccpolmmkclaaDoor
open Go.RowKit

theorem run_append_keepsG {P : Program} (w : World) (size : Nat) (base : Nat) (t ty e : TypeId) (i : TypeInfo) (z : Value) (ht : P.underlying t = some (.slice e)) (hi : P.info? e = some i) (hz : i.zero = some z)
    (hsize : i.size = size) (hzs : z.cells.size = size) (v : Value) (n : Nat) (xs : List Value) (hown : w.ownsRow base e size v n xs)
    (a : Option Addr) (m c : Nat) (news : List Value) (hl : news.length = m * size) (hnews : (a = none ∧ m = 0) ∨ ∃ ad, a = some ad ∧ ∀ j u, news[j]? = some u → w.cell? (ad.add j) = some u) (h1 : ∀ u ∈ news, u.oneCell' = true)
    (h63 : n + m ≤ maxLen) (hbytes : (n + m) * i.bytes ≤ 140737488355328) (hbase : base ≤ w.heap.size) :
    ∃ v' w', (Builtin.append_ #[t, t] ty #[v, .slice a m c]).run P w = .ok v' w' ∧ w'.ownsRow base e size v' (n + m) (xs ++ news) ∧ w.grownBy w' v.ownBlock ∧ (∀ (b0 : Nat) (u : Value) (m' : Nat) (ys : List Value), w.ownsRow b0 e size u m' ys → (u.ownBlock = v.ownBlock → m' ≤ n) → w'.ownsRow b0 e size u m' ys) ∧
      (v'.ownBlock = v.ownBlock ∨ v'.ownBlock = some w.heap.size) ∧ (v' = .slice none 0 0 ↔ v = .slice none 0 0 ∧ m = 0) := by
  have hsmall : n + m ≤ 9223372036854775807 := by simp only [maxLen] at h63; omega
  rcases hnews with ⟨rfl, rfl⟩ | ⟨ad, rfl, hnews⟩
  · obtain rfl : news = [] := List.eq_nil_of_length_eq_zero (by rw [hl]; simp)
    refine ⟨v, w, ?_, by simpa using hown, ⟨rfl, rfl, rfl, Nat.le_refl _, fun _ _ _ => rfl⟩, fun _ _ _ _ h _ => h, .inl rfl, by simp⟩
    rcases hown.2 with ⟨rfl, rfl⟩ | ⟨g, cap, cur, rfl, hbg, hg, hnc, hcm, hcs, htake⟩
    · simp [Builtin.append_, run_underlying ht, sizeOf, typeInfo, hi, Builtin.lenOf, Builtin.firstCells]
    · have hr := run_append_room_src (P := P) w t t ty e i ht hi g 0 n cap (.slice none 0 c) 0 [] (Src.ofNil w ht c) (by omega) (by simp) (by simp)
      simpa [World.setCells] using hr
  · have hlen : (xs ++ news).length = (n + m) * size := by rw [List.length_append, hown.1, hl, Nat.add_mul]
    have grown : ∀ (old : Nat), old < n + m → ∀ (row : Option Nat),
        (w.drew.alloc (.cells (xs.toArray ++ news.toArray ++ Builtin.zeroCells z.cells (grownCap w (n + m) old e - (n + m))) e)).ownsRow base e size
          (.slice (some ⟨w.heap.size, 0, none⟩) (n + m) (grownCap w (n + m) old e)) (n + m) (xs ++ news) ∧
        w.grownBy (w.drew.alloc (.cells (xs.toArray ++ news.toArray ++ Builtin.zeroCells z.cells (grownCap w (n + m) old e - (n + m))) e)) row := by
      intro old ho row
      have hge := grownCap_ge w (n + m) old e
      have hcm : grownCap w (n + m) old e ≤ maxLen := grownCap_le_maxLen w (n + m) old e h63
      refine ⟨⟨hlen, .inr ⟨w.heap.size, _, _, rfl, hbase, heap_alloc_new w.drew _, hge, hcm, ?_, ?_⟩⟩, ⟨rfl, rfl, rfl, by simp, fun k hk _ => heap_alloc_old w.drew _ hk⟩⟩
      · simp only [Array.size_append, List.size_toArray, size_zeroCells, hzs, hown.1, hl]
        rw [← Nat.add_mul, ← Nat.add_mul]
        congr 1
        omega
      · simp only [Array.toList_append, List.append_assoc]
        rw [← List.append_assoc, ← hlen]
        exact List.take_left
    rcases hown.2 with ⟨rfl, rfl⟩ | ⟨g, cap, cur, rfl, hbg, hg, hnc, hcm, hcs, htake⟩
    · have hx : xs = [] := List.eq_nil_of_length_eq_zero (by have := hown.1; simpa using this)
      subst hx
      by_cases hm : m = 0
      · subst hm
        obtain rfl : news = [] := List.eq_nil_of_length_eq_zero (by rw [hl]; simp)
        refine ⟨.slice none 0 0, w, ?_, World.ownsRow_nil w base e size, ⟨rfl, rfl, rfl, Nat.le_refl _, fun _ _ _ => rfl⟩, fun _ _ _ _ h _ => h, .inl rfl, by simp⟩
        simp [Builtin.append_, run_underlying ht, sizeOf, typeInfo, hi, Builtin.lenOf, Builtin.firstCells, loadCells, loadCellsFrom]
      · have hr := run_append_nil (P := P) w t ty e i z ht hi hz ad m c news (by rw [hsize, hl]) hnews (by omega) (by omega) (by have hb := hbytes; simp only [Nat.zero_add] at hb; omega)
        have hgr := grown 0 (by omega) (Value.ownBlock (.slice none 0 0))
        simp only [Nat.zero_add, List.nil_append, Array.empty_append] at hgr ⊢
        have hgn := grown 0 (by omega) none
        simp only [Nat.zero_add, List.nil_append, Array.empty_append] at hgn
        exact ⟨_, _, hr, hgr.1, hgr.2, fun _ u _ _ h _ => h.kept hgn.2 (by cases hu : u.ownBlock <;> simp), .inr rfl, by simp [hm]⟩
    · by_cases hroom : n + m ≤ cap
      · have hfit : n * i.size + news.length ≤ cur.size := by rw [hl, hcs, hsize, ← Nat.add_mul]; exact Nat.mul_le_mul_right _ hroom
        have hr := run_append_room (P := P) w t ty e i ht hi g n cap cur hg ad m c news (by rw [hsize, hl]) hnews h1 hroom hfit
        rw [hsize] at hr
        have htl : (cur.toList.take (n * size)).length = n * size := by rw [htake, hown.1]
        refine ⟨_, _, hr, ⟨hlen, .inr ⟨g, cap, _, rfl, hbg, setRow_heap w g cur _ e _ hg, hroom, hcm, ?_, ?_⟩⟩, ⟨rfl, rfl, rfl, by simp, fun k _ hk => setRow_other w g k _ (fun e => hk (by simp [Value.ownBlock, e]))⟩,
          ?_, .inl rfl, by simp⟩
        · rw [hsize] at hfit
          simp only [List.size_toArray, List.length_append, List.length_take, List.length_drop, Array.length_toList]
          omega
        · rw [htake, ← hlen]
          exact List.take_left
        · intro b0 u m' ys h hle
          refine ⟨h.1, ?_⟩
          rcases h.2 with h0 | ⟨g', cap', cur', rfl, hb', hg', hnc', hcm', hcs', htake'⟩
          · exact .inl h0
          · by_cases hgg : g' = g
            · subst hgg
              rw [hg] at hg'
              simp only [Option.some.injEq, Obj.cells.injEq, and_true] at hg'
              obtain rfl := hg'
              refine .inr ⟨g', cap', _, rfl, hb', setRow_heap w g' cur _ e _ hg, hnc', hcm', ?_, ?_⟩
              · rw [hsize] at hfit
                rw [← hcs']
                simp only [List.size_toArray, List.length_append, List.length_take, List.length_drop, Array.length_toList]
                omega
              · have hmn := Nat.mul_le_mul_right size (hle rfl)
                rw [List.append_assoc]
                simp only []
                rw [List.take_append_of_le_length (by omega), List.take_take, Nat.min_eq_left hmn, htake']
            · exact .inr ⟨g', cap', cur', rfl, hb', (setRow_other w g g' _ hgg).trans hg', hnc', hcm', hcs', htake'⟩
      · have holds : ∀ j u, xs[j]? = some u → w.cell? ((⟨g, 0, none⟩ : Addr).add j) = some u := hown.cells (g := g) rfl
        have hr := run_append_grow (P := P) w t ty e i z ht hi hz ⟨g, 0, none⟩ n cap xs (by rw [hsize]; exact hown.1) holds ad m c news (by rw [hsize, hl]) hnews (by omega) (by omega) (growslice_fits (by omega) hbytes)
        have hgr := grown cap (by omega) (Value.ownBlock (.slice (some ⟨g, 0, none⟩) n cap))
        have hgn := grown cap (by omega) none
        exact ⟨_, _, hr, hgr.1, hgr.2, fun _ u _ _ h _ => h.kept hgn.2 (by cases hu : u.ownBlock <;> simp), .inr rfl, by simp⟩


end Go.Proofs.YteaccpolmmkclaaDoor

namespace Go.Proofs.YteaccpolmmkclaaDoor
open Go.RowKit

/-- A step, and where its bytes and its numbers lie. -/
structure Sq where
  p : StepP
  dv : Value
  kv : Value
def sqCells (q : Sq) : List Value := [.int .i64 q.p.kind, .int .i64 q.p.conn, q.dv, .int .i64 q.p.brk, q.kv]
def flatS (l : List Sq) : List Value := l.flatMap sqCells
theorem flatS_length (l : List Sq) : (flatS l).length = l.length * 5 := by
  induction l with
  | nil => rfl
  | cons a l ih =>
    show (sqCells a ++ flatS l).length = _
    rw [List.length_append, ih]
    simp [sqCells]
    omega
theorem flatS_append (a b : List Sq) : flatS (a ++ b) = flatS a ++ flatS b := by simp [flatS]
def StepsAt (w : World) (B : Nat) (sv : Value) (l : List Sq) : Prop := w.ownsRow B 40 5 sv l.length (flatS l) ∧ ∀ q ∈ l, Own w B q.dv q.p.data ∧ OwnI w B q.kv q.p.keep
/-- Whose bytes and numbers lie apart from one another. -/
def ApartS (l : List Sq) : Prop := ∀ (i j : Nat) (x y : Sq), l[i]? = some x → l[j]? = some y → i ≠ j → (∀ g, x.dv.ownBlock = some g → y.dv.ownBlock ≠ some g) ∧ ∀ g, x.kv.ownBlock = some g → y.kv.ownBlock ≠ some g
theorem ApartS.snoc {w : World} {B : Nat} {sv : Value} {l : List Sq} (ha : ApartS l) (h : StepsAt w B sv l) {z : Sq} (hd : ∀ g, z.dv.ownBlock = some g → w.heap.size ≤ g) (hk : ∀ g, z.kv.ownBlock = some g → w.heap.size ≤ g) : ApartS (l ++ [z]) := by
  have key : ∀ i x, (l ++ [z])[i]? = some x → l[i]? = some x ∨ (i = l.length ∧ x = z) := by
    intro i x hx
    by_cases hi : i < l.length
    · rw [List.getElem?_append_left hi] at hx; exact .inl hx
    · rw [List.getElem?_append_right (by omega)] at hx
      have : i - l.length = 0 := by have := (List.getElem?_eq_some_iff.1 hx).1; simp at this; omega
      rw [this] at hx
      simp at hx
      exact .inr ⟨by omega, hx.symm⟩
  intro i j x y hx hy hij
  rcases key i x hx with h1 | ⟨e1, rfl⟩
  · have hm := h.2 x (List.mem_of_getElem? h1)
    rcases key j y hy with h2 | ⟨e2, rfl⟩
    · exact ha i j x y h1 h2 hij
    · refine ⟨fun g hg e => ?_, fun g hg e => ?_⟩
      · have := hd g e; have := (hm.1.lt g hg).2; omega
      · have := hk g e; have := (hm.2.lt g hg).2; omega
  · rcases key j y hy with h2 | ⟨e2, rfl⟩
    · have hm := h.2 y (List.mem_of_getElem? h2)
      refine ⟨fun g hg e => ?_, fun g hg e => ?_⟩
      · have := hd g hg; have := (hm.1.lt g e).2; omega
      · have := hk g hg; have := (hm.2.lt g e).2; omega
    · omega
theorem info_step : (Tryd.prog.info? 40).map (fun i => (i.zero, i.size, i.bytes)) = some (some (.agg #[.int .i64 0, .int .i64 0, .slice none 0 0, .int .i64 0, .slice none 0 0]), 5, 72) := by kernel_rfl
theorem step_steps {ops : Array Oper} {o : Oper} {a : Act} {K : Act → World → Prop} {Q : Exit → Act → World → Prop} {F : Prop} (hgd : o.guard = none) (s x : Operand)
    (ho : o.op = .call { callee := .builtin .append, args := #[s, x], argTypes := #[29, 29] })
    (w : World) (B : Nat) (v : Value) (X : List Sq) (hs : a.eval s = v) (hown : w.ownsRow B 40 5 v X.length (flatS X)) (ad : Option Addr) (c : Nat) (Y : Sq) (hx : a.eval x = .slice ad 1 c)
    (hsrc : ∃ p, ad = some p ∧ ∀ j u, (flatS [Y])[j]? = some u → w.cell? (p.add j) = some u) (hone : ∀ u ∈ flatS [Y], u.oneCell' = true)
    (hb : X.length ≤ 1073741823) (hbase : B ≤ w.heap.size)
    (h : ∀ v' w', w'.ownsRow B 40 5 v' (X ++ [Y]).length (flatS (X ++ [Y])) → w.grownBy w' v.ownBlock → (v'.ownBlock = v.ownBlock ∨ v'.ownBlock = some w.heap.size) → K (a.put o.dst v') w') :
    if Region.wanted o (yielded ops a.tmps) = true then Oper.wp Tryd.prog o a w K Q else F := by
  have hw : Region.wanted o (yielded ops a.tmps) = true := by simp [Region.wanted, hgd]
  rw [if_pos hw]
  obtain ⟨i, hi, hz0, hz1, hz2⟩ := info_parts info_step
  obtain ⟨v', w', hr, h2, h3, h4, h5, h6⟩ := run_append_keepsG (P := Tryd.prog) w 5 B 29 o.type 40 i _ Tryd.underlying29 hi hz0 hz1 rfl v X.length (flatS X) hown ad 1 c (flatS [Y]) (by rw [flatS_length]; rfl) (.inr hsrc) hone (by unfold maxLen; omega) (by rw [hz2]; omega) hbase
  unfold Oper.wp execOp
  simp only [ho, resolve, invoke, builtin, Sem.run_bind, Sem.run_pure, Result.andThen_ok, List.map_toArray, List.map_cons, List.map_nil, hs, hx, hr]
  refine h v' w' ?_ h3 h5
  rw [List.length_append, flatS_append]
  exact h2
theorem StepsAt.kept {P : Nat → Prop} {w w' : World} {B : Nat} {sv : Value} {l : List Sq} (h : StepsAt w B sv l) (hk : Kept P w w') (h1 : ∀ g, sv.ownBlock = some g → ¬ P g) (h2 : ∀ q ∈ l, (∀ g, q.dv.ownBlock = some g → ¬ P g) ∧ ∀ g, q.kv.ownBlock = some g → ¬ P g) : StepsAt w' B sv l := by
  refine ⟨⟨h.1.1, ?_⟩, fun q hq => ⟨Kept.own hk (h.2 q hq).1 (h2 q hq).1, Kept.own hk (h.2 q hq).2 (h2 q hq).2⟩⟩
  rcases h.1.2 with h0 | ⟨g, cap, cur, rfl, hB, hg, rest⟩
  · exact .inl h0
  · exact .inr ⟨g, cap, cur, rfl, hB, (hk.block g (Array.getElem?_eq_some_iff.1 hg).1 (h1 g rfl)).trans hg, rest⟩
theorem StepsAt.form {w : World} {B : Nat} {sv : Value} {l : List Sq} (h : StepsAt w B sv l) : ∃ a c, sv = .slice a l.length c := by
  rcases h.1.2 with ⟨rfl, h0⟩ | ⟨g, cap, cur, rfl, _⟩
  · exact ⟨none, 0, by rw [h0]⟩
  · exact ⟨_, _, rfl⟩
end Go.Proofs.YteaccpolmmkclaaDoor
