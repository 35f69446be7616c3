/-
  The walk of fitsLine.
-/
import Derived.Test.YtfecbepleeoibaaDoorPlainFits
import Derived.Test.YtfecbepleeoibaaDoorValid
namespace Go.Proofs.YtfecbepleeoibaaDoor
open Go.RowKit Go.Lib

/-- A command's cells. -/
def cmdA (c : Cm) (b : Value) : Array Value := #[.int .i64 c.kind, .int .i64 c.id, .int .i64 c.pri, .int .i64 c.delay, .int .i64 c.ttr, .int .i64 c.number, .string ⟨c.tube.toArray⟩, b]
theorem fieldsOf_int (kind : Int) (k : Nat) (hkk : kind = k) (hk : k < 26) (w : World) (T : Tabs w) :
    Calls Tryd.prog 34 #[.int .i64 kind] w fun e w' => ∃ v, e = .returned v ∧ Below w.heap.size w w' ∧ w'.ownsRow w.heap.size 43 1 v (formOf k).length (fldV (formOf k)) := by
  subst hkk
  exact fieldsOf_any k hk w T
theorem nx0 (a b c d e f : Value) (w : World) : (Instr.index 58 (.agg #[a, b, c, d, e, f]) (.int .i64 0)).run Tryd.prog w = .ok a w := by kernel_rfl
theorem nx1 (a b c d e f : Value) (w : World) : (Instr.index 58 (.agg #[a, b, c, d, e, f]) (.int .i64 1)).run Tryd.prog w = .ok b w := by kernel_rfl
theorem nx2 (a b c d e f : Value) (w : World) : (Instr.index 58 (.agg #[a, b, c, d, e, f]) (.int .i64 2)).run Tryd.prog w = .ok c w := by kernel_rfl
theorem nx3 (a b c d e f : Value) (w : World) : (Instr.index 58 (.agg #[a, b, c, d, e, f]) (.int .i64 3)).run Tryd.prog w = .ok d w := by kernel_rfl
theorem nx4 (a b c d e f : Value) (w : World) : (Instr.index 58 (.agg #[a, b, c, d, e, f]) (.int .i64 4)).run Tryd.prog w = .ok e w := by kernel_rfl
theorem nx5 (a b c d e f : Value) (w : World) : (Instr.index 58 (.agg #[a, b, c, d, e, f]) (.int .i64 5)).run Tryd.prog w = .ok f w := by kernel_rfl

theorem verb_ne : ∀ k, k < 26 → 1 ≤ k → (verbOf k == []) = false := by decide
set_option maxHeartbeats 1000000 in
set_option maxRecDepth 1000000 in
theorem fitsLine_any (c : Cm) (a : Option Addr) (n cap : Nat) (w : World) (T : Tabs w) :
    Calls Tryd.prog 31 #[cmdV c (.slice a n cap)] w fun e w' => e = .returned (.bool (lineB c)) ∧ Below w.heap.size w w' := by
  have HT : Hid (Tabs w) := T
  clear T
  have HE : Hid (lineB c = lineB c) := rfl
  obtain ⟨r, hr⟩ : ∃ r, r = lineB c := ⟨_, rfl⟩
  rw [← hr]
  obtain ⟨kind, id, pri, delay, ttr, number, tube⟩ := c
  have HR : Hid (r = lineB ⟨kind, id, pri, delay, ttr, number, tube⟩) := hr
  clear hr HE
  unfold cmdV
  by_cases hk : 1 ≤ kind ∧ kind ≤ 25
  · obtain ⟨k, rfl⟩ : ∃ k : Nat, kind = k := ⟨kind.toNat, by omega⟩
    have hnb : (nameL k == []) = false := by
      rw [nameL, if_pos hk]
      exact verb_ne k (by omega) (by omega)
    have HK : Hid (formOf (k : Int).toNat = formOf k) := by show formOf (k : Int).toNat = formOf k; simp
    by_cases hz : k = 1 ∧ ttr = 0
    · obtain ⟨rfl, rfl⟩ := hz
      go_enter Tryd.func31, Tryd.ntmps31
      go_wp2_with (go_at_call 10; refine (name_any _ _ (HT.out.alloc _)).mono ?_; rintro e w1 ⟨rfl, rfl⟩)
      all_goals go_ret
      all_goals exact ⟨by rw [HR.out, line_ttr _ rfl rfl]; rfl, (Below.refl _ w).alloc (Nat.le_refl _) _⟩
    · go_enter Tryd.func31, Tryd.ntmps31
      go_wp2_with (go_at_call 10; refine (name_any _ _ (HT.out.alloc _)).mono ?_; rintro e w1 ⟨rfl, rfl⟩)
      all_goals (
        refine (fieldsOf_int _ k (by omega) (by omega) _ ((HT.out.alloc _).alloc _)).mono ?_
        rintro e w2 ⟨v2, rfl, B2, O2⟩
        have T2 := ((HT.out.alloc _).alloc _).below B2
        have HT2 : Hid (Tabs w2) := T2
        have bx := (B2.block w.heap.size (by simp; omega)).trans (two_a _ _ _)
        have bm := (B2.block (w.heap.size + 1) (by simp)).trans (heap_alloc2_new _ _ _)
        have HB2 : Hid (Below w.heap.size w w2) := ((((Below.refl _ w).alloc (Nat.le_refl _) _).alloc (by simp) _).trans (B2.mono (by simp; omega)))
        obtain ⟨a2, cap2, rfl, hc2⟩ := own_form O2
        have HC2 : Hid (∀ (i : Nat) x, (fldV (formOf k))[i]? = some x → ∃ g, a2 = some ⟨g, 0, none⟩ ∧ w.heap.size + 2 ≤ g ∧ g < w2.heap.size ∧ w2.cell? ⟨g, i, none⟩ = some x) := by
          intro i x hx
          obtain ⟨g, h1, h2, h3, h4⟩ := hc2 i x hx
          exact ⟨g, h1, by simpa using h2, h3, h4⟩
        have HX := hide bx
        have HM := hide bm
        have hs2 : w.heap.size + 2 ≤ w2.heap.size := by simpa using B2.size
        clear T2 B2 O2 hc2 bx bm
        have HKB := hide hk
        have HZ := hide hz
        clear hk hz hnb
        obtain ⟨n2, hn2⟩ : ∃ n2, (formOf k).length = n2 := ⟨_, rfl⟩
        have hn4 : n2 ≤ 4 := by rw [← hn2]; exact form_len k (by have := HKB.out; omega)
        have HN2 := hide hn2
        rw [hn2]
        clear hn2
        go_wp2_with fail
        go_loopg [4, 27] n2 (fun gk nm i wx => ∃ j : Nat, i = .int .i64 j ∧ j ≤ n2 ∧ n2 - j ≤ gk ∧ nm = .bool (((formOf k).take j).contains 6) ∧ Kept (fun b => b = w.heap.size + 1) w2 wx ∧
          Hid (wx.heap[w.heap.size + 1]? = some (.cells (numsA (mostIn ((formOf k).take j))) 58 (0, 0))))
        case atStart => exact ⟨0, rfl, by omega, by omega, rfl, Kept.refl _ _, HM.out⟩
        case round =>
          obtain ⟨j, rfl, hj, hgk, rfl, hke, HMx⟩ := hrel
          by_cases hlt : j < n2
          · obtain ⟨f, hf⟩ : ∃ f, (formOf k)[j]? = some f := ⟨_, List.getElem?_eq_getElem (by rw [HN2.out]; exact hlt)⟩
            obtain ⟨g, rfl, hg1, hg2, hgc⟩ := HC2.out j (.int .u8 (f : Int)) (by unfold fldV; rw [List.getElem?_map, hf]; rfl)
            have hcw := hke.cell (by omega) hgc
            have hfr := form_field k (by have := HKB.out; omega) f (List.mem_of_getElem? hf)
            have HTk : Hid ((formOf k).take (j + 1) = (formOf k).take j ++ [f]) := by
              show (formOf k).take (j + 1) = (formOf k).take j ++ [f]
              rw [List.take_add_one, hf]; rfl
            have HTw := hide (HT2.out.kept hke (fun b hb e => by have := HT.out.lt.2.2; have : 2 < w.heap.size := this; omega))
            clear hf hgc
            by_cases h6 : f = 6
            · subst h6
              go_wp2_with fail
              go_roundg (n2 - (j + 1))
              case measure => omega
              case rel =>
                refine ⟨j + 1, by go_num, by omega, by omega, by rw [HTk.out]; simp, hke, ?_⟩
                rw [HTk.out, numsA_congr (mostIn_tube ((formOf k).take j))]
                exact HMx
            · have hcg := HTw.out.great f (by omega)
              have i1 : (0 : Int) ≤ (f : Int) := by omega
              have i2 : (f : Int) < 6 := by omega
              have i3 : ((f : Int) == 6) = false := by rw [beq_eq_false_iff_ne]; omega
              have hco := cells_at HMx.out (numsA_at _ f (by omega))
              have hfz : wr.frozen? ⟨w.heap.size + 1, f, none⟩ = false := by have := HMx.out; simp [World.frozen?, this]
              go_wp2_with fail
              go_roundg (n2 - (j + 1))
              case measure => omega
              case rel =>
                refine ⟨j + 1, by go_num, by omega, by omega, ?_, hke.trans (Kept.setCell _ _ _ _ _ rfl), ?_⟩
                · rw [HTk.out]
                  have : ¬ (6 = f) := fun e => h6 e.symm
                  simp [this]
                · have := (set_cells HMx.out f (.int .i64 (great f))).1
                  rw [numsA_upd _ _ _ (by omega), ← mostIn_step _ _ h6, ← HTk.out] at this
                  exact this
          · obtain rfl : j = n2 := by omega
            rw [show (formOf k).take j = formOf k by rw [← HN2.out, List.take_length]] at HMx ⊢
            have bxr := (hke.block w.heap.size (by omega) (by omega)).trans HX.out
            have x0 := cells_at bxr (i := 0) rfl
            have x1 := cells_at bxr (i := 1) rfl
            have x2 := cells_at bxr (i := 2) rfl
            have x3 := cells_at bxr (i := 3) rfl
            have x4 := cells_at bxr (i := 4) rfl
            have x5 := cells_at bxr (i := 5) rfl
            have x6 := cells_at bxr (i := 6) rfl
            have x7 := cells_at bxr (i := 7) rfl
            have HBr : Hid (Below w.heap.size w wr) := HB2.out.trans (hke.below HB2.out.size (fun b hb e => by omega))
            clear bxr
            obtain ⟨nm, hnm⟩ : ∃ nm, (formOf k).contains 6 = nm := ⟨_, rfl⟩
            have HNM := hide hnm
            rw [hnm]
            clear hnm
            go_wp2_with (go_at_call 33; refine (numbersOf_any ⟨_, id, pri, delay, ttr, number, tube⟩ _ _ _ _).mono ?_; rintro e w4 ⟨rfl, B4⟩; rw [show numsV (numOf ⟨_, id, pri, delay, ttr, number, tube⟩) = .agg #[.int .i64 0, .int .i64 id, .int .i64 pri, .int .i64 delay, .int .i64 ttr, .int .i64 number] from rfl])
            have hM4 := (B4.block (w.heap.size + 1) (by have := hke.size; omega)).trans HMx.out
            have HM4 : Hid (∀ i, i < 6 → w4.cell? ⟨w.heap.size + 1, i, none⟩ = some (.int .i64 (mostIn (formOf k) i))) := fun i hi => cells_at hM4 (numsA_at _ i hi)
            have HX6 := hide ((B4.cell (p := ⟨w.heap.size, 6, none⟩) (by have := hke.size; simp only []; omega)).trans x6)
            have HB4 : Hid (Below w.heap.size w w4) := HBr.out.trans (B4.mono HBr.out.size)
            clear x0 x1 x2 x3 x4 x5 x6 x7 hM4 B4 HBr HMx hke HM HX HC2 HT2
            go_loopg [41] 6 (fun gk i wx => ∃ j : Nat, i = .int .i64 j ∧ j ≤ 6 ∧ 6 - j ≤ gk ∧ wx = w4 ∧ Hid (okTo ⟨k, id, pri, delay, ttr, number, tube⟩ j = true))
            case atStart => exact ⟨0, rfl, by omega, by omega, rfl, rfl⟩
            case round =>
              obtain ⟨i, rfl, hi, hgi, hwr, HO⟩ := hrel
              subst hwr
              by_cases hil : i < 6
              · obtain ⟨m, hm⟩ : ∃ m, mostIn (formOf k) i = m := ⟨_, rfl⟩
                have hcm := HM4.out i hil
                rw [hm] at hcm
                have HMm : Hid (mostIn (formOf ((k : Int)).toNat) i = m) := by show mostIn (formOf ((k : Int)).toNat) i = m; rw [HK.out]; exact hm
                clear hm
                match i, hil with
                | 0, _ =>
                  have hix := nx0
                  go_wp2_with fail
                  all_goals first
                    | (go_roundg 5
                       case measure => omega
                       case rel =>
                         refine ⟨1, by go_num, by omega, by omega, rfl, okTo_step _ 0 HO.out (show (0 : Int) ≤ 0 by omega) ?_⟩
                         show 0 ≤ mostIn (formOf ((k : Int)).toNat) 0
                         rw [HMm.out]
                         omega)
                    | (go_ret
                       refine ⟨?_, HB4.out⟩
                       rw [HR.out, line_no _ 0 (by decide) (by show 0 < 0 ∨ mostIn (formOf ((k : Int)).toNat) 0 < 0; rw [HMm.out]; omega)]
                       rfl)
                | 1, _ =>
                  have hix := nx1
                  go_wp2_with fail
                  all_goals first
                    | (go_roundg 4
                       case measure => omega
                       case rel =>
                         refine ⟨2, by go_num, by omega, by omega, rfl, okTo_step _ 1 HO.out (show (0 : Int) ≤ id by omega) ?_⟩
                         show id ≤ mostIn (formOf ((k : Int)).toNat) 1
                         rw [HMm.out]
                         omega)
                    | (go_ret
                       refine ⟨?_, HB4.out⟩
                       rw [HR.out, line_no _ 1 (by decide) (by show id < 0 ∨ mostIn (formOf ((k : Int)).toNat) 1 < id; rw [HMm.out]; omega)]
                       rfl)
                | 2, _ =>
                  have hix := nx2
                  go_wp2_with fail
                  all_goals first
                    | (go_roundg 3
                       case measure => omega
                       case rel =>
                         refine ⟨3, by go_num, by omega, by omega, rfl, okTo_step _ 2 HO.out (show (0 : Int) ≤ pri by omega) ?_⟩
                         show pri ≤ mostIn (formOf ((k : Int)).toNat) 2
                         rw [HMm.out]
                         omega)
                    | (go_ret
                       refine ⟨?_, HB4.out⟩
                       rw [HR.out, line_no _ 2 (by decide) (by show pri < 0 ∨ mostIn (formOf ((k : Int)).toNat) 2 < pri; rw [HMm.out]; omega)]
                       rfl)
                | 3, _ =>
                  have hix := nx3
                  go_wp2_with fail
                  all_goals first
                    | (go_roundg 2
                       case measure => omega
                       case rel =>
                         refine ⟨4, by go_num, by omega, by omega, rfl, okTo_step _ 3 HO.out (show (0 : Int) ≤ delay by omega) ?_⟩
                         show delay ≤ mostIn (formOf ((k : Int)).toNat) 3
                         rw [HMm.out]
                         omega)
                    | (go_ret
                       refine ⟨?_, HB4.out⟩
                       rw [HR.out, line_no _ 3 (by decide) (by show delay < 0 ∨ mostIn (formOf ((k : Int)).toNat) 3 < delay; rw [HMm.out]; omega)]
                       rfl)
                | 4, _ =>
                  have hix := nx4
                  go_wp2_with fail
                  all_goals first
                    | (go_roundg 1
                       case measure => omega
                       case rel =>
                         refine ⟨5, by go_num, by omega, by omega, rfl, okTo_step _ 4 HO.out (show (0 : Int) ≤ ttr by omega) ?_⟩
                         show ttr ≤ mostIn (formOf ((k : Int)).toNat) 4
                         rw [HMm.out]
                         omega)
                    | (go_ret
                       refine ⟨?_, HB4.out⟩
                       rw [HR.out, line_no _ 4 (by decide) (by show ttr < 0 ∨ mostIn (formOf ((k : Int)).toNat) 4 < ttr; rw [HMm.out]; omega)]
                       rfl)
                | 5, _ =>
                  have hix := nx5
                  go_wp2_with fail
                  all_goals first
                    | (go_roundg 0
                       case measure => omega
                       case rel =>
                         refine ⟨6, by go_num, by omega, by omega, rfl, okTo_step _ 5 HO.out (show (0 : Int) ≤ number by omega) ?_⟩
                         show number ≤ mostIn (formOf ((k : Int)).toNat) 5
                         rw [HMm.out]
                         omega)
                    | (go_ret
                       refine ⟨?_, HB4.out⟩
                       rw [HR.out, line_no _ 5 (by decide) (by show number < 0 ∨ mostIn (formOf ((k : Int)).toNat) 5 < number; rw [HMm.out]; omega)]
                       rfl)
              · obtain rfl : i = 6 := by omega
                have HL := hide (line_end ⟨k, id, pri, delay, ttr, number, tube⟩ HKB.out (fun h => HZ.out ⟨by have := h.1; simp at this; omega, h.2⟩) HO.out)
                have hx6 : wr.cell? ⟨w.heap.size, 6, none⟩ = some (.string ⟨tube.toArray⟩) := HX6.out
                cases nm
                · go_wp2_with fail
                  go_ret
                  refine ⟨?_, HB4.out⟩
                  have hl := HL.out
                  rw [HK.out, HNM.out] at hl
                  rw [HR.out, hl]
                  rfl
                · go_wp2_with (go_at_call 43; refine (valid_any _ _).mono ?_; rintro e w5 ⟨rfl, rfl⟩)
                  go_ret
                  refine ⟨?_, HB4.out⟩
                  have hl := HL.out
                  rw [HK.out, HNM.out] at hl
                  rw [HR.out, hl]
                  rfl)
  · have hn : nameL kind = [] := by rw [nameL, if_neg hk]
    go_enter Tryd.func31, Tryd.ntmps31
    go_wp2_with (go_at_call 10; refine (name_any _ _ (HT.out.alloc _)).mono ?_; rintro e w1 ⟨rfl, rfl⟩; rw [hn])
    go_ret
    exact ⟨by rw [HR.out, line_kind _ hk]; rfl, (Below.refl _ w).alloc (Nat.le_refl _) _⟩
end Go.Proofs.YtfecbepleeoibaaDoor
