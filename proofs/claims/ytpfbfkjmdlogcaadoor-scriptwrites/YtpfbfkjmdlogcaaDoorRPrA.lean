/-
  RPrint0, RPrint1.
-/
import Derived.Test.YtpfbfkjmdlogcaaDoorRLine
import Derived.Test.YtpfbfkjmdlogcaaDoorRefA
namespace Go.Proofs.YtpfbfkjmdlogcaaDoor
open Go.RowKit

/-- The boxes of the play and of its config. -/
structure PB (W w : World) (j s q : Int) (sv : Value) : Prop where
  b1 : w.heap[W.heap.size]? = some (.cells #[.int .i64 j, .int .i64 s, .int .i64 q, sv] 31 (0, 0))
  b2 : w.heap[W.heap.size + 1]? = some (.cells #[.int .i64 j, .int .i64 s, .int .i64 q] 28 (0, 0))
  low : Below W.heap.size W w
theorem PB.later {W w w' : World} {j s q : Int} {sv : Value} (h : PB W w j s q sv) (hb : Below w.heap.size w w') : PB W w' j s q sv :=
  ⟨(hb.block _ (Array.getElem?_eq_some_iff.1 h.b1).1).trans h.b1, (hb.block _ (Array.getElem?_eq_some_iff.1 h.b2).1).trans h.b2, h.low.trans (hb.mono h.low.size)⟩
theorem PB.cells {W w : World} {j s q : Int} {sv : Value} (h : PB W w j s q sv) : w.cell? ⟨W.heap.size, 3, none⟩ = some sv ∧ w.cell? ⟨W.heap.size + 1, 0, none⟩ = some (.int .i64 j) ∧ w.cell? ⟨W.heap.size + 1, 1, none⟩ = some (.int .i64 s) ∧ w.cell? ⟨W.heap.size + 1, 2, none⟩ = some (.int .i64 q) := by
  simp [World.cell?, h.b1, h.b2]
theorem pb_start (W : World) (j s q : Int) (sv : Value) : PB W ((W.alloc (.cells #[.int .i64 j, .int .i64 s, .int .i64 q, sv] 31)).alloc (.cells #[.int .i64 j, .int .i64 s, .int .i64 q] 28)) j s q sv := by
  have a1 := heap_alloc_new W (.cells #[.int .i64 j, .int .i64 s, .int .i64 q, sv] 31)
  have a2 := heap_alloc_new (W.alloc (.cells #[.int .i64 j, .int .i64 s, .int .i64 q, sv] 31)) (.cells #[.int .i64 j, .int .i64 s, .int .i64 q] 28)
  rw [World.size_alloc] at a2
  exact ⟨(heap_alloc_old _ _ (by simp)).trans a1, a2, ((Below.refl _ W).alloc (Nat.le_refl _) _).alloc (by simp) _⟩
set_option maxHeartbeats 4000000 in
set_option maxRecDepth 1000000 in
theorem refPrint_conf (W : World) (j s q : Int) (a : Option Addr) (n c : Nat) (l : List StepP) (hc : configB j s q = false) :
    Calls Tryd.prog 18 #[.agg #[.int .i64 j, .int .i64 s, .int .i64 q, .slice a n c]] W (PrintPost W j s q l) := by
  have hE : configE j s q = 103 := by unfold configE; rw [hc]; rfl
  have H0 := hide (pb_start W j s q (.slice a n c))
  have HR : Hid (printR j s q l = ([], 190)) := by show _ = _; unfold printR printP; rw [if_pos hc]
  have CC := hide (fun w => refConfig_any j s q w)
  rw [hE] at CC
  clear hE
  go_enter Tryd.func18, Tryd.ntmps18
  go_wp2_with fail
  refine (CC.out _).mono ?_
  rintro e w2 ⟨rfl, b2⟩
  have H2 := hide (H0.out.later b2)
  clear b2 CC
  go_wp2_with fail

  go_ret2
  exact ⟨H2.out.low, by rw [HR.out]; rfl⟩
set_option maxHeartbeats 4000000 in
set_option maxRecDepth 1000000 in
theorem refPrint_many (W : World) (j s q : Int) (a : Option Addr) (c : Nat) (l : List StepP) (hc : configB j s q = true) (hl : 4000 < l.length) :
    Calls Tryd.prog 18 #[.agg #[.int .i64 j, .int .i64 s, .int .i64 q, .slice a l.length c]] W (PrintPost W j s q l) := by
  have hE : configE j s q = 0 := by unfold configE; rw [hc]; rfl
  have H0 := hide (pb_start W j s q (.slice a l.length c))
  have HR : Hid (printR j s q l = ([], 194)) := by show _ = _; unfold printR printP; rw [if_neg (by rw [hc]; simp), if_pos hl]
  have hl2 : (4000 : Int) < (l.length : Int) := by omega
  have CC := hide (fun w => refConfig_any j s q w)
  rw [hE] at CC
  clear hE
  go_enter Tryd.func18, Tryd.ntmps18
  go_wp2_with fail
  refine (CC.out _).mono ?_
  rintro e w2 ⟨rfl, b2⟩
  have H2 := hide (H0.out.later b2)
  obtain ⟨y3, -, -, -⟩ := H2.out.cells
  clear b2 CC
  go_wp2_with fail

  go_ret2
  exact ⟨H2.out.low, by rw [HR.out]; rfl⟩
end Go.Proofs.YtpfbfkjmdlogcaaDoor

namespace Go.Proofs.YtpfbfkjmdlogcaaDoor
open Go.RowKit

theorem flat_long (l : List UInt8) : l.length ≤ (l.flatMap shortP).length := by
  induction l with
  | nil => simp
  | cons c l ih =>
    rw [List.flatMap_cons, List.length_append, List.length_cons]
    have : 1 ≤ (shortP c).length := by
      unfold shortP
      repeat' split
      all_goals simp
    omega
theorem line_long {p : StepP} (h : checkB p = true) : p.data.length ≤ (lineS p).length := by
  obtain ⟨c, d, b, k, hf, -, -, hd, -, -⟩ := check_parts h
  rw [line_parts hf]
  rcases hd with rfl | hd
  · have := flat_long p.data
    simp only [List.length_append, if_true]
    omega
  · rw [hd]; simp
set_option maxHeartbeats 8000000 in
set_option maxRecDepth 1000000 in
theorem refPrint19 (W : World) (j s q : Int) (a : Option Addr) (c : Nat) (l : List Sq) (h : PlayIn W (.slice a l.length c) l) (hc : configB j s q = true) (hl : l.length ≤ 4000) :
    Calls Tryd.prog 18 #[.agg #[.int .i64 j, .int .i64 s, .int .i64 q, .slice a l.length c]] W (PrintPost W j s q (l.map (·.p))) := by
  have hE : configE j s q = 0 := by unfold configE; rw [hc]; rfl
  have H0 := hide (pb_start W j s q (.slice a l.length c))
  have HP := hide h
  have HC := hide hc
  have hl2 : ¬ (4000 : Int) < (l.length : Int) := by omega
  have CC := hide (fun w => refConfig_any j s q w)
  rw [hE] at CC
  clear h hE
  go_enter Tryd.func18, Tryd.ntmps18
  go_wp2_with fail
  refine (CC.out _).mono ?_
  rintro e w2 ⟨rfl, b2⟩
  have H2 := hide (H0.out.later b2)
  obtain ⟨y3, k0, k1, k2⟩ := H2.out.cells
  have hcp := config_parts hc
  have sl := head_len hc
  have CJ : Hid (∀ w, Calls Tryd.prog 39 #[.int .i64 j] w fun e w' => e = .returned (.string ⟨(printL j).toArray⟩) ∧ Below w.heap.size w w') := fun w => refPrint_any j w (by omega) (by have := hcp.1.2; unfold maxWord at this; omega)
  have CS : Hid (∀ w, Calls Tryd.prog 39 #[.int .i64 s] w fun e w' => e = .returned (.string ⟨(printL s).toArray⟩) ∧ Below w.heap.size w w') := fun w => refPrint_any s w (by omega) (by have := hcp.2.1.2; unfold maxWord at this; omega)
  have CQ : Hid (∀ w, Calls Tryd.prog 39 #[.int .i64 q] w fun e w' => e = .returned (.string ⟨(printL q).toArray⟩) ∧ Below w.heap.size w w') := fun w => refPrint_any q w (by omega) (by have := hcp.2.2.2; unfold maxWord at this; omega)
  obtain ⟨sl1, sl2, sl3⟩ := sl
  have n1 : ¬ 9223372036854775807 < 6 + (printL j).length := by omega
  have n2 : ¬ 9223372036854775807 < 6 + (printL j).length + 1 := by omega
  have n3 : ¬ 9223372036854775807 < 6 + (printL j).length + 1 + (printL s).length := by omega
  have n4 : ¬ 9223372036854775807 < 6 + (printL j).length + 1 + (printL s).length + 1 := by omega
  have n5 : ¬ 9223372036854775807 < 6 + (printL j).length + 1 + (printL s).length + 1 + (printL q).length := by omega
  have n6 : ¬ 9223372036854775807 < 6 + (printL j).length + 1 + (printL s).length + 1 + (printL q).length + 1 := by omega
  clear b2 hcp hc CC
  go_wp2_with fail
  go_cut [5] from 16 to 31 (fun s5 wx => ∃ x : ByteArray, s5 = .string x ∧ Hid (x.data.toList = headS j s q) ∧ Hid (PB W wx j s q (.slice a l.length c)))
  case first =>
    go_region_law (first
      | (go_simp
         go_at_call_of 39 j
         refine (CJ.out _).mono ?_
         rintro e w3 ⟨rfl, b3⟩
         have H3 : Hid (PB W w3 j s q (.slice a l.length c)) := H2.out.later ⟨b3.os, b3.tape, b3.output, b3.size, b3.block⟩
         obtain ⟨y3, k0, k1, k2⟩ := H3.out.cells
         clear b3)
      | (go_simp
         go_at_call_of 39 s
         refine (CS.out _).mono ?_
         rintro e w4 ⟨rfl, b4⟩
         have H4 : Hid (PB W w4 j s q (.slice a l.length c)) := H3.out.later ⟨b4.os, b4.tape, b4.output, b4.size, b4.block⟩
         obtain ⟨y3, k0, k1, k2⟩ := H4.out.cells
         clear b4)
      | (go_simp
         go_at_call_of 39 q
         refine (CQ.out _).mono ?_
         rintro e w5 ⟨rfl, b5⟩
         have H5 : Hid (PB W w5 j s q (.slice a l.length c)) := H4.out.later ⟨b5.os, b5.tape, b5.output, b5.size, b5.block⟩
         obtain ⟨y3, k0, k1, k2⟩ := H5.out.cells
         clear b5))
    all_goals go_wp2_with fail
    all_goals go_meet
    all_goals exact ⟨_, rfl, by show _ = _; simp [headS, stintW, spaced], H5⟩
  case rest =>
    obtain ⟨x, rfl, HX0, H3⟩ := hcut
    have hx0 : x.size ≤ 1048576 := by
      have h1 : x.size = (headS j s q).length := by rw [← HX0.out, Array.length_toList]; rfl
      have := head_short HC.out
      omega
    have HR0 : Hid (printP j s q (l.map (·.p)) = writeP x.data.toList ((l.drop 0).map (·.p))) := by
      show _ = _
      unfold printP
      rw [if_neg (by rw [HC.out]; simp), if_neg (by simp; omega), HX0.out, List.drop_zero]
    clear H2 H0 y3 k0 k1 k2 n1 n2 n3 n4 n5 n6 sl1 sl2 sl3 CJ CS CQ HX0
    go_wp2_with fail
    go_loopg [5, 6] l.length (fun gk s5 i wr => ∃ (n : Nat) (x : ByteArray), i = .int .i64 (n : Int) ∧ s5 = .string x ∧ l.length - n ≤ gk ∧ n ≤ l.length ∧ x.size ≤ 1048576 ∧ Hid (PB W wr j s q (.slice a l.length c)) ∧ Hid (printP j s q (l.map (·.p)) = writeP x.data.toList ((l.drop n).map (·.p))))
    case atStart => exact ⟨0, x, rfl, rfl, by omega, by omega, hx0, H3, HR0⟩
    case round =>
      obtain ⟨n, x, rfl, rfl, hgk, hn, hxs, HB, HQ⟩ := hrel
      obtain ⟨y3, -, -, -⟩ := HB.out.cells
      by_cases hlt : n < l.length
      · have tlt : (n : Int) < (l.length : Int) := by omega
        obtain ⟨z, hz⟩ : ∃ z, l[n]? = some z := ⟨_, List.getElem?_eq_getElem hlt⟩
        have hmem : z ∈ l := List.mem_of_getElem? hz
        have hdrop : (l.drop n).map (·.p) = z.p :: (l.drop (n + 1)).map (·.p) := by
          rw [List.drop_eq_getElem_cons hlt, List.map_cons]
          congr 2
          have := List.getElem?_eq_getElem hlt
          rw [hz] at this
          exact (Option.some.inj this).symm
        rw [hdrop] at HQ
        obtain ⟨⟨a', c', e', hml, hcl⟩, hin⟩ := HP.out
        cases e'
        rcases hcl with h0 | ⟨b, o, e, hb, hcq⟩
        · rw [h0] at hlt; simp at hlt
        subst e
        have hcell : ∀ i v, i < 5 → (sqCells z)[i]? = some v → wr.cell? ⟨b, o + (n * 5 + i), none⟩ = some v := fun i v hi hv => (HB.out.low.cell (p := ⟨b, o + (n * 5 + i), none⟩) hb).trans (hcq _ v (flat_at l n z hz i hi v hv))
        have hsi := hin z hmem
        obtain ⟨p, dv, kv⟩ := z
        obtain ⟨⟨ad, cd, e1, h1⟩, ak, ck, e2, h2⟩ := hsi
        simp only [] at e1 e2 h1 h2 hcell
        subst e1 e2
        have HSI : Hid (StepIn W p (.slice ad p.data.length cd) (.slice ak p.keep.length ck)) := ⟨⟨ad, cd, rfl, h1⟩, ak, ck, rfl, h2⟩
        have k0 := hcell 0 _ (by omega) rfl
        have k1 := hcell 1 _ (by omega) rfl
        have k2 := hcell 2 _ (by omega) rfl
        have k3 := hcell 3 _ (by omega) rfl
        have k4 := hcell 4 _ (by omega) rfl
        rw [show o + (n * 5 + 0) = o + n * 5 by omega] at k0
        rw [show o + (n * 5 + 1) = o + n * 5 + 1 by omega] at k1
        rw [show o + (n * 5 + 2) = o + n * 5 + 2 by omega] at k2
        rw [show o + (n * 5 + 3) = o + n * 5 + 3 by omega] at k3
        rw [show o + (n * 5 + 4) = o + n * 5 + 4 by omega] at k4
        have HCQ : Hid (∀ w, Below W.heap.size W w → w.cell? ⟨b, o + n * 5, none⟩ = some (.int .i64 p.kind) ∧ w.cell? ⟨b, o + n * 5 + 1, none⟩ = some (.int .i64 p.conn) ∧ w.cell? ⟨b, o + n * 5 + 2, none⟩ = some (.slice ad p.data.length cd) ∧ w.cell? ⟨b, o + n * 5 + 3, none⟩ = some (.int .i64 p.brk) ∧ w.cell? ⟨b, o + n * 5 + 4, none⟩ = some (.slice ak p.keep.length ck)) := by
          intro w hw
          have hc2 : ∀ i v, i < 5 → (sqCells ⟨p, .slice ad p.data.length cd, .slice ak p.keep.length ck⟩)[i]? = some v → w.cell? ⟨b, o + (n * 5 + i), none⟩ = some v := fun i v hi hv => (hw.cell (p := ⟨b, o + (n * 5 + i), none⟩) hb).trans (hcq _ v (flat_at l n _ hz i hi v hv))
          exact ⟨hc2 0 _ (by omega) rfl, hc2 1 _ (by omega) rfl, hc2 2 _ (by omega) rfl, hc2 3 _ (by omega) rfl, hc2 4 _ (by omega) rfl⟩
        clear hcell hz hmem hdrop h1 h2 hcq hin
        have CK := hide (refRightStep_any wr p _ _ (HSI.out.later HB.out.low))
        go_wp2_with fail
        refine CK.out.mono ?_
        rintro e w5 ⟨rfl, b5⟩
        have H5 := hide (HB.out.later b5)
        obtain ⟨y5, -, -, -⟩ := H5.out.cells
        obtain ⟨q0, q1, q2, q3, q4⟩ := HCQ.out w5 H5.out.low
        clear b5 k0 k1 k2 k3 k4 y3 CK
        cases hcb : checkB p
        · have HR : Hid (printR j s q (l.map (·.p)) = ([], 192)) := by
            show _ = _
            unfold printR
            rw [HQ.out, writeP, if_pos hcb]
          go_wp2_with fail
          go_ret2
          exact ⟨H5.out.low, by rw [HR.out]; rfl⟩
        · by_cases hd : 1048576 < p.data.length
          · have td : (1048576 : Int) < (p.data.length : Int) := by omega
            have HR : Hid (printR j s q (l.map (·.p)) = ([], 193)) := by
              show _ = _
              unfold printR
              have := line_long hcb
              rw [HQ.out, writeP, if_neg (by rw [hcb]; simp), if_pos (by rw [List.length_append]; omega)]
            go_wp2_with fail
            go_ret2
            exact ⟨H5.out.low, by rw [HR.out]; rfl⟩
          · have td : ¬ (1048576 : Int) < (p.data.length : Int) := by omega
            have CL := hide (refLine_any w5 p _ _ (HSI.out.later H5.out.low) hcb (by omega))
            go_wp2_with fail
            refine CL.out.mono ?_
            rintro e w6 ⟨b6, y, rfl, hys, hy⟩
            have H6 := hide (H5.out.later b6)
            clear b6 q0 q1 q2 q3 q4 y5 CL
            have ns : ¬ 9223372036854775807 < x.size + y.size := by omega
            have hl1 : x.data.toList.length = x.size := by rw [Array.length_toList]; rfl
            have hl2' : y.data.toList.length = y.size := by rw [Array.length_toList]; rfl
            by_cases hs : 1048576 < x.size + y.size
            · have ts : (1048576 : Int) < (x.size : Int) + (y.size : Int) := by omega
              have HR : Hid (printR j s q (l.map (·.p)) = ([], 193)) := by
                show _ = _
                unfold printR
                rw [HQ.out, writeP, if_neg (by rw [hcb]; simp), if_pos (by
                  rw [List.length_append]
                  rcases hy with hy | ⟨_, hy⟩
                  · rw [← hy]; omega
                  · omega)]
              go_wp2_with fail
              go_ret2
              exact ⟨H6.out.low, by rw [HR.out]; rfl⟩
            · have ts : ¬ (1048576 : Int) < (x.size : Int) + (y.size : Int) := by omega
              have hy2 : y.data.toList = lineS p := by
                rcases hy with hy | ⟨hy, _⟩
                · exact hy
                · omega
              have HQ2 : Hid (printP j s q (l.map (·.p)) = writeP (x ++ y).data.toList ((l.drop (n + 1)).map (·.p))) := by
                show _ = _
                rw [HQ.out, writeP, if_neg (by rw [hcb]; simp), if_neg (by rw [List.length_append, ← hy2]; omega), ← hy2]
                congr 1
              go_wp2_with fail
              go_roundg (l.length - (n + 1))
              case measure => omega
              case rel => exact ⟨n + 1, x ++ y, by go_num, rfl, Nat.le_refl _, hlt, by rw [ByteArray.size_append]; omega, H6, HQ2⟩
      · have tlt : ¬ (n : Int) < (l.length : Int) := by omega
        have hdrop : (l.drop n).map (·.p) = [] := by rw [List.drop_of_length_le (by omega)]; rfl
        rw [hdrop] at HQ
        have HR : Hid (printR j s q (l.map (·.p)) = (x.data.toList, 0)) := by
          show _ = _
          unfold printR
          rw [HQ.out, writeP]
        go_wp2_with fail
        go_ret2
        exact ⟨HB.out.low, by rw [HR.out]; simp⟩
/-- The document's Print, whatever play it is handed. -/
theorem refPrint_any19 (W : World) (j s q : Int) (sv : Value) (l : List Sq) (hp : PlayIn W sv l) :
    Calls Tryd.prog 18 #[.agg #[.int .i64 j, .int .i64 s, .int .i64 q, sv]] W (PrintPost W j s q (l.map (·.p))) := by
  obtain ⟨a, c, rfl, -⟩ := hp.1
  cases hc : configB j s q
  · exact refPrint_conf W j s q a _ c _ hc
  · by_cases hl : 4000 < l.length
    · have := refPrint_many W j s q a c (l.map (·.p)) hc (by simpa using hl)
      rw [List.length_map] at this
      exact this
    · exact refPrint19 W j s q a c l hp hc (by omega)
end Go.Proofs.YtpfbfkjmdlogcaaDoor
