/-
  RRt1, RRt2, RRt3, RRt4, RRt5, RRt6, RRt7.
-/
import Derived.Test.YtpfbfkjmdlogcaaDoorRWritten
namespace Go.Proofs.YtpfbfkjmdlogcaaDoor
open Go.RowKit

set_option maxHeartbeats 4000000 in
set_option maxRecDepth 1000000 in
theorem rs_1 (R r1 r2 z1 z2 : Bool) (W : World) (conn brk : Int) (ad ak : Option Addr) (nd cd ck : Nat) (ks : List Int) (hI : IsInts W ak ck ks) (h1 : numOkB conn true = r1) (h2 : numOkB brk true = r2) (_ : (conn != 0) = !z1) (hz2 : (brk != 0) = !z2) (hz3 : (brk == 0) = z2)
    (hR : R = (r1 && (true || z1) && r2 && (false || z2) && (false || nd == 0) && (false || ks.isEmpty || !z2) && ks.all (numOkB · true))) :
    Calls Tryd.prog 40 #[.agg #[.int .i64 1, .int .i64 conn, .slice ad nd cd, .int .i64 brk, .slice ak ks.length ck]] W fun e w' => e = .returned (.bool R) ∧ Below W.heap.size W w' := by
  have HB : Hid (Below W.heap.size W (W.alloc (.cells #[.int .i64 1, .int .i64 conn, .slice ad nd cd, .int .i64 brk, .slice ak ks.length ck] 44))) := (Below.refl _ W).alloc (Nat.le_refl _) _
  have XB : Hid (StepBox (W.alloc (.cells #[.int .i64 1, .int .i64 conn, .slice ad nd cd, .int .i64 brk, .slice ak ks.length ck] 44)) W.heap.size 1 conn brk (.slice ad nd cd) (.slice ak ks.length ck)) := heap_alloc_new W _
  have hkl : ks.length ≤ 9223372036854775807 := by have := hI.2.1; unfold maxLen at this; omega
  have HI := hide hI
  have H1 := hide h1
  have H2 := hide h2
  have HR := hide hR
  clear hI h1 h2 hR
  cases r1
  · go_enter Tryd.func40, Tryd.ntmps40
    go_wp2_with fail
    refine (refRight_any conn _).mono ?_
    rintro e w2 ⟨rfl, hw2⟩
    obtain rfl := hw2.symm
    rw [H1.out]
    go_wp2_with fail
    go_ret
    exact ⟨by rw [HR.out]; first | rfl | simp, HB.out⟩
  · by_cases hnd : 0 < nd
    · have hn1 : (0 : Int) < (nd : Int) := by omega
      have hn2 : (nd == 0) = false := by rw [beq_eq_false_iff_ne]; omega
      rw [hn2] at HR
      go_enter Tryd.func40, Tryd.ntmps40
      go_wp2_with fail
      refine (refRight_any conn _).mono ?_
      rintro e w2 ⟨rfl, hw2⟩
      obtain rfl := hw2.symm
      rw [H1.out]
      go_wp2_with fail
      go_ret
      exact ⟨by rw [HR.out]; first | rfl | simp, HB.out⟩
    · have hn1 : ¬ (0 : Int) < (nd : Int) := by omega
      have hn2 : (nd == 0) = true := by rw [beq_iff_eq]; omega
      rw [hn2] at HR
      cases r2
      · go_enter Tryd.func40, Tryd.ntmps40
        go_wp2_with fail
        refine (refRight_any conn _).mono ?_
        rintro e w2 ⟨rfl, hw2⟩
        obtain rfl := hw2.symm
        rw [H1.out]
        go_wp2_with fail
        refine (refRight_any brk _).mono ?_
        rintro e w3 ⟨rfl, hw3⟩
        obtain rfl := hw3.symm
        rw [H2.out]
        go_wp2_with fail
        go_ret
        exact ⟨by rw [HR.out]; first | rfl | simp, HB.out⟩
      · cases z2
        · go_enter Tryd.func40, Tryd.ntmps40
          go_wp2_with fail
          refine (refRight_any conn _).mono ?_
          rintro e w2 ⟨rfl, hw2⟩
          obtain rfl := hw2.symm
          rw [H1.out]
          go_wp2_with fail
          refine (refRight_any brk _).mono ?_
          rintro e w3 ⟨rfl, hw3⟩
          obtain rfl := hw3.symm
          rw [H2.out]
          go_wp2_with fail
          go_ret
          exact ⟨by rw [HR.out]; first | rfl | simp, HB.out⟩
        · by_cases hk0 : ks = []
          · have hk1 : ¬ (0 : Int) < (ks.length : Int) := by rw [hk0]; simp
            have hke : ks.isEmpty = true := by rw [hk0]; rfl
            rw [hke] at HR
            clear hk0 hke
            go_enter Tryd.func40, Tryd.ntmps40
            go_wp2_with fail
            refine (refRight_any conn _).mono ?_
            rintro e w2 ⟨rfl, hw2⟩
            obtain rfl := hw2.symm
            rw [H1.out]
            go_wp2_with fail
            refine (refRight_any brk _).mono ?_
            rintro e w3 ⟨rfl, hw3⟩
            obtain rfl := hw3.symm
            rw [H2.out]
            go_wp2_with fail
            go_loopg [6] ks.length (fun gk i wr => ∃ j : Nat, i = .int .i64 (j : Int) ∧ ks.length - j ≤ gk ∧ j ≤ ks.length ∧ Hid (StepBox wr W.heap.size 1 conn brk (.slice ad nd cd) (.slice ak ks.length ck)) ∧ Hid (Below W.heap.size W wr) ∧ Hid ((ks.take j).all (numOkB · true) = true))
            case atStart => exact ⟨0, rfl, by omega, by omega, XB, HB, by show _ = _; simp⟩
            case round =>
              obtain ⟨j, rfl, hgk, hj, XR, BR, HA⟩ := hrel
              obtain ⟨_, _, _, _, x4, _⟩ := XR.out.cells
              by_cases hlt : j < ks.length
              · exfalso; omega
              · have tlt : ¬ (j : Int) < (ks.length : Int) := by omega
                have HA2 : Hid (ks.all (numOkB · true) = true) := by
                  have := HA.out
                  rw [List.take_of_length_le (by omega)] at this
                  exact this
                go_wp2_with fail
                go_ret
                exact ⟨by rw [HR.out, HA2.out]; first | rfl | simp, BR.out⟩
          · have hk1 : (0 : Int) < (ks.length : Int) := by have := List.length_pos_iff.2 hk0; omega
            have hke : ks.isEmpty = false := by simpa using hk0
            rw [hke] at HR
            go_enter Tryd.func40, Tryd.ntmps40
            go_wp2_with fail
            refine (refRight_any conn _).mono ?_
            rintro e w2 ⟨rfl, hw2⟩
            obtain rfl := hw2.symm
            rw [H1.out]
            go_wp2_with fail
            refine (refRight_any brk _).mono ?_
            rintro e w3 ⟨rfl, hw3⟩
            obtain rfl := hw3.symm
            rw [H2.out]
            go_wp2_with fail
            go_ret
            exact ⟨by rw [HR.out]; first | rfl | simp, HB.out⟩
end Go.Proofs.YtpfbfkjmdlogcaaDoor

namespace Go.Proofs.YtpfbfkjmdlogcaaDoor
open Go.RowKit

set_option maxHeartbeats 4000000 in
set_option maxRecDepth 1000000 in
theorem rs_2 (R r1 r2 z1 z2 : Bool) (W : World) (conn brk : Int) (ad ak : Option Addr) (nd cd ck : Nat) (ks : List Int) (hI : IsInts W ak ck ks) (h1 : numOkB conn true = r1) (h2 : numOkB brk true = r2) (_ : (conn != 0) = !z1) (hz2 : (brk != 0) = !z2) (hz3 : (brk == 0) = z2)
    (hR : R = (r1 && (true || z1) && r2 && (true || z2) && (true || nd == 0) && (false || ks.isEmpty || !z2) && ks.all (numOkB · true))) :
    Calls Tryd.prog 40 #[.agg #[.int .i64 2, .int .i64 conn, .slice ad nd cd, .int .i64 brk, .slice ak ks.length ck]] W fun e w' => e = .returned (.bool R) ∧ Below W.heap.size W w' := by
  have HB : Hid (Below W.heap.size W (W.alloc (.cells #[.int .i64 2, .int .i64 conn, .slice ad nd cd, .int .i64 brk, .slice ak ks.length ck] 44))) := (Below.refl _ W).alloc (Nat.le_refl _) _
  have XB : Hid (StepBox (W.alloc (.cells #[.int .i64 2, .int .i64 conn, .slice ad nd cd, .int .i64 brk, .slice ak ks.length ck] 44)) W.heap.size 2 conn brk (.slice ad nd cd) (.slice ak ks.length ck)) := heap_alloc_new W _
  have hkl : ks.length ≤ 9223372036854775807 := by have := hI.2.1; unfold maxLen at this; omega
  have HI := hide hI
  have H1 := hide h1
  have H2 := hide h2
  have HR := hide hR
  clear hI h1 h2 hR
  cases r1
  · go_enter Tryd.func40, Tryd.ntmps40
    go_wp2_with fail
    refine (refRight_any conn _).mono ?_
    rintro e w2 ⟨rfl, hw2⟩
    obtain rfl := hw2.symm
    rw [H1.out]
    go_wp2_with fail
    go_ret
    exact ⟨by rw [HR.out]; first | rfl | simp, HB.out⟩
  · cases r2
    · go_enter Tryd.func40, Tryd.ntmps40
      go_wp2_with fail
      refine (refRight_any conn _).mono ?_
      rintro e w2 ⟨rfl, hw2⟩
      obtain rfl := hw2.symm
      rw [H1.out]
      go_wp2_with fail
      refine (refRight_any brk _).mono ?_
      rintro e w3 ⟨rfl, hw3⟩
      obtain rfl := hw3.symm
      rw [H2.out]
      go_wp2_with fail
      go_ret
      exact ⟨by rw [HR.out]; first | rfl | simp, HB.out⟩
    · by_cases hk0 : ks = []
      · have hk1 : ¬ (0 : Int) < (ks.length : Int) := by rw [hk0]; simp
        have hke : ks.isEmpty = true := by rw [hk0]; rfl
        rw [hke] at HR
        clear hk0 hke
        go_enter Tryd.func40, Tryd.ntmps40
        go_wp2_with fail
        refine (refRight_any conn _).mono ?_
        rintro e w2 ⟨rfl, hw2⟩
        obtain rfl := hw2.symm
        rw [H1.out]
        go_wp2_with fail
        refine (refRight_any brk _).mono ?_
        rintro e w3 ⟨rfl, hw3⟩
        obtain rfl := hw3.symm
        rw [H2.out]
        go_wp2_with fail
        go_loopg [6] ks.length (fun gk i wr => ∃ j : Nat, i = .int .i64 (j : Int) ∧ ks.length - j ≤ gk ∧ j ≤ ks.length ∧ Hid (StepBox wr W.heap.size 2 conn brk (.slice ad nd cd) (.slice ak ks.length ck)) ∧ Hid (Below W.heap.size W wr) ∧ Hid ((ks.take j).all (numOkB · true) = true))
        case atStart => exact ⟨0, rfl, by omega, by omega, XB, HB, by show _ = _; simp⟩
        case round =>
          obtain ⟨j, rfl, hgk, hj, XR, BR, HA⟩ := hrel
          obtain ⟨_, _, _, _, x4, _⟩ := XR.out.cells
          by_cases hlt : j < ks.length
          · exfalso; omega
          · have tlt : ¬ (j : Int) < (ks.length : Int) := by omega
            have HA2 : Hid (ks.all (numOkB · true) = true) := by
              have := HA.out
              rw [List.take_of_length_le (by omega)] at this
              exact this
            go_wp2_with fail
            go_ret
            exact ⟨by rw [HR.out, HA2.out]; first | rfl | simp, BR.out⟩
      · have hk1 : (0 : Int) < (ks.length : Int) := by have := List.length_pos_iff.2 hk0; omega
        have hke : ks.isEmpty = false := by simpa using hk0
        rw [hke] at HR
        cases z2
        · go_enter Tryd.func40, Tryd.ntmps40
          go_wp2_with fail
          refine (refRight_any conn _).mono ?_
          rintro e w2 ⟨rfl, hw2⟩
          obtain rfl := hw2.symm
          rw [H1.out]
          go_wp2_with fail
          refine (refRight_any brk _).mono ?_
          rintro e w3 ⟨rfl, hw3⟩
          obtain rfl := hw3.symm
          rw [H2.out]
          go_wp2_with fail
          go_loopg [6] ks.length (fun gk i wr => ∃ j : Nat, i = .int .i64 (j : Int) ∧ ks.length - j ≤ gk ∧ j ≤ ks.length ∧ Hid (StepBox wr W.heap.size 2 conn brk (.slice ad nd cd) (.slice ak ks.length ck)) ∧ Hid (Below W.heap.size W wr) ∧ Hid ((ks.take j).all (numOkB · true) = true))
          case atStart => exact ⟨0, rfl, by omega, by omega, XB, HB, by show _ = _; simp⟩
          case round =>
            obtain ⟨j, rfl, hgk, hj, XR, BR, HA⟩ := hrel
            obtain ⟨_, _, _, _, x4, _⟩ := XR.out.cells
            by_cases hlt : j < ks.length
            · have tlt : (j : Int) < (ks.length : Int) := by omega
              obtain ⟨y, hy⟩ : ∃ y, ks[j]? = some y := ⟨_, List.getElem?_eq_getElem hlt⟩
              rcases HI.out.2.2 with h0 | ⟨bq, oq, e, hbq, hcq⟩
              · rw [h0] at hlt; simp at hlt
              subst e
              have cy := (BR.out.cell (p := ⟨bq, oq + j, none⟩) hbq).trans (hcq j y hy)
              cases hyb : numOkB y true
              · have HF : Hid (ks.all (numOkB · true) = false) := by
                  show _ = _
                  rw [List.all_eq_false]
                  exact ⟨y, List.mem_of_getElem? hy, by simp [hyb]⟩
                have HY := hide hyb
                clear hy hcq hyb
                go_wp2_with fail
                refine (refRight_any y _).mono ?_
                rintro e w4 ⟨rfl, hw4⟩
                obtain rfl := hw4.symm
                rw [HY.out]
                go_wp2_with fail
                go_ret
                exact ⟨by rw [HR.out, HF.out]; first | rfl | simp, BR.out⟩
              · have HA2 : Hid ((ks.take (j + 1)).all (numOkB · true) = true) := by
                  show _ = _
                  rw [List.take_add_one, hy, List.all_append, HA.out]
                  simp [hyb]
                have HY := hide hyb
                clear hy hcq hyb
                go_wp2_with fail
                refine (refRight_any y _).mono ?_
                rintro e w4 ⟨rfl, hw4⟩
                obtain rfl := hw4.symm
                rw [HY.out]
                go_wp2_with fail
                go_roundg (ks.length - (j + 1))
                case measure => omega
                case rel => exact ⟨j + 1, by go_num, Nat.le_refl _, hlt, XR, BR, HA2⟩
            · have tlt : ¬ (j : Int) < (ks.length : Int) := by omega
              have HA2 : Hid (ks.all (numOkB · true) = true) := by
                have := HA.out
                rw [List.take_of_length_le (by omega)] at this
                exact this
              go_wp2_with fail
              go_ret
              exact ⟨by rw [HR.out, HA2.out]; first | rfl | simp, BR.out⟩
        · go_enter Tryd.func40, Tryd.ntmps40
          go_wp2_with fail
          refine (refRight_any conn _).mono ?_
          rintro e w2 ⟨rfl, hw2⟩
          obtain rfl := hw2.symm
          rw [H1.out]
          go_wp2_with fail
          refine (refRight_any brk _).mono ?_
          rintro e w3 ⟨rfl, hw3⟩
          obtain rfl := hw3.symm
          rw [H2.out]
          go_wp2_with fail
          go_ret
          exact ⟨by rw [HR.out]; first | rfl | simp, HB.out⟩
end Go.Proofs.YtpfbfkjmdlogcaaDoor

namespace Go.Proofs.YtpfbfkjmdlogcaaDoor
open Go.RowKit

set_option maxHeartbeats 4000000 in
set_option maxRecDepth 1000000 in
theorem rs_3 (R r1 r2 z1 z2 : Bool) (W : World) (conn brk : Int) (ad ak : Option Addr) (nd cd ck : Nat) (ks : List Int) (hI : IsInts W ak ck ks) (h1 : numOkB conn true = r1) (h2 : numOkB brk true = r2) (_ : (conn != 0) = !z1) (hz2 : (brk != 0) = !z2) (hz3 : (brk == 0) = z2)
    (hR : R = (r1 && (true || z1) && r2 && (true || z2) && (false || nd == 0) && (false || ks.isEmpty || !z2) && ks.all (numOkB · true))) :
    Calls Tryd.prog 40 #[.agg #[.int .i64 3, .int .i64 conn, .slice ad nd cd, .int .i64 brk, .slice ak ks.length ck]] W fun e w' => e = .returned (.bool R) ∧ Below W.heap.size W w' := by
  have HB : Hid (Below W.heap.size W (W.alloc (.cells #[.int .i64 3, .int .i64 conn, .slice ad nd cd, .int .i64 brk, .slice ak ks.length ck] 44))) := (Below.refl _ W).alloc (Nat.le_refl _) _
  have XB : Hid (StepBox (W.alloc (.cells #[.int .i64 3, .int .i64 conn, .slice ad nd cd, .int .i64 brk, .slice ak ks.length ck] 44)) W.heap.size 3 conn brk (.slice ad nd cd) (.slice ak ks.length ck)) := heap_alloc_new W _
  have hkl : ks.length ≤ 9223372036854775807 := by have := hI.2.1; unfold maxLen at this; omega
  have HI := hide hI
  have H1 := hide h1
  have H2 := hide h2
  have HR := hide hR
  clear hI h1 h2 hR
  cases r1
  · go_enter Tryd.func40, Tryd.ntmps40
    go_wp2_with fail
    refine (refRight_any conn _).mono ?_
    rintro e w2 ⟨rfl, hw2⟩
    obtain rfl := hw2.symm
    rw [H1.out]
    go_wp2_with fail
    go_ret
    exact ⟨by rw [HR.out]; first | rfl | simp, HB.out⟩
  · by_cases hnd : 0 < nd
    · have hn1 : (0 : Int) < (nd : Int) := by omega
      have hn2 : (nd == 0) = false := by rw [beq_eq_false_iff_ne]; omega
      rw [hn2] at HR
      go_enter Tryd.func40, Tryd.ntmps40
      go_wp2_with fail
      refine (refRight_any conn _).mono ?_
      rintro e w2 ⟨rfl, hw2⟩
      obtain rfl := hw2.symm
      rw [H1.out]
      go_wp2_with fail
      go_ret
      exact ⟨by rw [HR.out]; first | rfl | simp, HB.out⟩
    · have hn1 : ¬ (0 : Int) < (nd : Int) := by omega
      have hn2 : (nd == 0) = true := by rw [beq_iff_eq]; omega
      rw [hn2] at HR
      cases r2
      · go_enter Tryd.func40, Tryd.ntmps40
        go_wp2_with fail
        refine (refRight_any conn _).mono ?_
        rintro e w2 ⟨rfl, hw2⟩
        obtain rfl := hw2.symm
        rw [H1.out]
        go_wp2_with fail
        refine (refRight_any brk _).mono ?_
        rintro e w3 ⟨rfl, hw3⟩
        obtain rfl := hw3.symm
        rw [H2.out]
        go_wp2_with fail
        go_ret
        exact ⟨by rw [HR.out]; first | rfl | simp, HB.out⟩
      · by_cases hk0 : ks = []
        · have hk1 : ¬ (0 : Int) < (ks.length : Int) := by rw [hk0]; simp
          have hke : ks.isEmpty = true := by rw [hk0]; rfl
          rw [hke] at HR
          clear hk0 hke
          go_enter Tryd.func40, Tryd.ntmps40
          go_wp2_with fail
          refine (refRight_any conn _).mono ?_
          rintro e w2 ⟨rfl, hw2⟩
          obtain rfl := hw2.symm
          rw [H1.out]
          go_wp2_with fail
          refine (refRight_any brk _).mono ?_
          rintro e w3 ⟨rfl, hw3⟩
          obtain rfl := hw3.symm
          rw [H2.out]
          go_wp2_with fail
          go_loopg [6] ks.length (fun gk i wr => ∃ j : Nat, i = .int .i64 (j : Int) ∧ ks.length - j ≤ gk ∧ j ≤ ks.length ∧ Hid (StepBox wr W.heap.size 3 conn brk (.slice ad nd cd) (.slice ak ks.length ck)) ∧ Hid (Below W.heap.size W wr) ∧ Hid ((ks.take j).all (numOkB · true) = true))
          case atStart => exact ⟨0, rfl, by omega, by omega, XB, HB, by show _ = _; simp⟩
          case round =>
            obtain ⟨j, rfl, hgk, hj, XR, BR, HA⟩ := hrel
            obtain ⟨_, _, _, _, x4, _⟩ := XR.out.cells
            by_cases hlt : j < ks.length
            · exfalso; omega
            · have tlt : ¬ (j : Int) < (ks.length : Int) := by omega
              have HA2 : Hid (ks.all (numOkB · true) = true) := by
                have := HA.out
                rw [List.take_of_length_le (by omega)] at this
                exact this
              go_wp2_with fail
              go_ret
              exact ⟨by rw [HR.out, HA2.out]; first | rfl | simp, BR.out⟩
        · have hk1 : (0 : Int) < (ks.length : Int) := by have := List.length_pos_iff.2 hk0; omega
          have hke : ks.isEmpty = false := by simpa using hk0
          rw [hke] at HR
          cases z2
          · go_enter Tryd.func40, Tryd.ntmps40
            go_wp2_with fail
            refine (refRight_any conn _).mono ?_
            rintro e w2 ⟨rfl, hw2⟩
            obtain rfl := hw2.symm
            rw [H1.out]
            go_wp2_with fail
            refine (refRight_any brk _).mono ?_
            rintro e w3 ⟨rfl, hw3⟩
            obtain rfl := hw3.symm
            rw [H2.out]
            go_wp2_with fail
            go_loopg [6] ks.length (fun gk i wr => ∃ j : Nat, i = .int .i64 (j : Int) ∧ ks.length - j ≤ gk ∧ j ≤ ks.length ∧ Hid (StepBox wr W.heap.size 3 conn brk (.slice ad nd cd) (.slice ak ks.length ck)) ∧ Hid (Below W.heap.size W wr) ∧ Hid ((ks.take j).all (numOkB · true) = true))
            case atStart => exact ⟨0, rfl, by omega, by omega, XB, HB, by show _ = _; simp⟩
            case round =>
              obtain ⟨j, rfl, hgk, hj, XR, BR, HA⟩ := hrel
              obtain ⟨_, _, _, _, x4, _⟩ := XR.out.cells
              by_cases hlt : j < ks.length
              · have tlt : (j : Int) < (ks.length : Int) := by omega
                obtain ⟨y, hy⟩ : ∃ y, ks[j]? = some y := ⟨_, List.getElem?_eq_getElem hlt⟩
                rcases HI.out.2.2 with h0 | ⟨bq, oq, e, hbq, hcq⟩
                · rw [h0] at hlt; simp at hlt
                subst e
                have cy := (BR.out.cell (p := ⟨bq, oq + j, none⟩) hbq).trans (hcq j y hy)
                cases hyb : numOkB y true
                · have HF : Hid (ks.all (numOkB · true) = false) := by
                    show _ = _
                    rw [List.all_eq_false]
                    exact ⟨y, List.mem_of_getElem? hy, by simp [hyb]⟩
                  have HY := hide hyb
                  clear hy hcq hyb
                  go_wp2_with fail
                  refine (refRight_any y _).mono ?_
                  rintro e w4 ⟨rfl, hw4⟩
                  obtain rfl := hw4.symm
                  rw [HY.out]
                  go_wp2_with fail
                  go_ret
                  exact ⟨by rw [HR.out, HF.out]; first | rfl | simp, BR.out⟩
                · have HA2 : Hid ((ks.take (j + 1)).all (numOkB · true) = true) := by
                    show _ = _
                    rw [List.take_add_one, hy, List.all_append, HA.out]
                    simp [hyb]
                  have HY := hide hyb
                  clear hy hcq hyb
                  go_wp2_with fail
                  refine (refRight_any y _).mono ?_
                  rintro e w4 ⟨rfl, hw4⟩
                  obtain rfl := hw4.symm
                  rw [HY.out]
                  go_wp2_with fail
                  go_roundg (ks.length - (j + 1))
                  case measure => omega
                  case rel => exact ⟨j + 1, by go_num, Nat.le_refl _, hlt, XR, BR, HA2⟩
              · have tlt : ¬ (j : Int) < (ks.length : Int) := by omega
                have HA2 : Hid (ks.all (numOkB · true) = true) := by
                  have := HA.out
                  rw [List.take_of_length_le (by omega)] at this
                  exact this
                go_wp2_with fail
                go_ret
                exact ⟨by rw [HR.out, HA2.out]; first | rfl | simp, BR.out⟩
          · go_enter Tryd.func40, Tryd.ntmps40
            go_wp2_with fail
            refine (refRight_any conn _).mono ?_
            rintro e w2 ⟨rfl, hw2⟩
            obtain rfl := hw2.symm
            rw [H1.out]
            go_wp2_with fail
            refine (refRight_any brk _).mono ?_
            rintro e w3 ⟨rfl, hw3⟩
            obtain rfl := hw3.symm
            rw [H2.out]
            go_wp2_with fail
            go_ret
            exact ⟨by rw [HR.out]; first | rfl | simp, HB.out⟩
end Go.Proofs.YtpfbfkjmdlogcaaDoor

namespace Go.Proofs.YtpfbfkjmdlogcaaDoor
open Go.RowKit

set_option maxHeartbeats 4000000 in
set_option maxRecDepth 1000000 in
theorem rs_4 (R r1 r2 z1 z2 : Bool) (W : World) (conn brk : Int) (ad ak : Option Addr) (nd cd ck : Nat) (ks : List Int) (hI : IsInts W ak ck ks) (h1 : numOkB conn true = r1) (h2 : numOkB brk true = r2) (hz1 : (conn != 0) = !z1) (hz2 : (brk != 0) = !z2) (hz3 : (brk == 0) = z2)
    (hR : R = (r1 && (false || z1) && r2 && (true || z2) && (false || nd == 0) && (false || ks.isEmpty || !z2) && ks.all (numOkB · true))) :
    Calls Tryd.prog 40 #[.agg #[.int .i64 4, .int .i64 conn, .slice ad nd cd, .int .i64 brk, .slice ak ks.length ck]] W fun e w' => e = .returned (.bool R) ∧ Below W.heap.size W w' := by
  have HB : Hid (Below W.heap.size W (W.alloc (.cells #[.int .i64 4, .int .i64 conn, .slice ad nd cd, .int .i64 brk, .slice ak ks.length ck] 44))) := (Below.refl _ W).alloc (Nat.le_refl _) _
  have XB : Hid (StepBox (W.alloc (.cells #[.int .i64 4, .int .i64 conn, .slice ad nd cd, .int .i64 brk, .slice ak ks.length ck] 44)) W.heap.size 4 conn brk (.slice ad nd cd) (.slice ak ks.length ck)) := heap_alloc_new W _
  have hkl : ks.length ≤ 9223372036854775807 := by have := hI.2.1; unfold maxLen at this; omega
  have HI := hide hI
  have H1 := hide h1
  have H2 := hide h2
  have HR := hide hR
  clear hI h1 h2 hR
  cases r1
  · go_enter Tryd.func40, Tryd.ntmps40
    go_wp2_with fail
    refine (refRight_any conn _).mono ?_
    rintro e w2 ⟨rfl, hw2⟩
    obtain rfl := hw2.symm
    rw [H1.out]
    go_wp2_with fail
    go_ret
    exact ⟨by rw [HR.out]; first | rfl | simp, HB.out⟩
  · cases z1
    · go_enter Tryd.func40, Tryd.ntmps40
      go_wp2_with fail
      refine (refRight_any conn _).mono ?_
      rintro e w2 ⟨rfl, hw2⟩
      obtain rfl := hw2.symm
      rw [H1.out]
      go_wp2_with fail
      go_ret
      exact ⟨by rw [HR.out]; first | rfl | simp, HB.out⟩
    · by_cases hnd : 0 < nd
      · have hn1 : (0 : Int) < (nd : Int) := by omega
        have hn2 : (nd == 0) = false := by rw [beq_eq_false_iff_ne]; omega
        rw [hn2] at HR
        go_enter Tryd.func40, Tryd.ntmps40
        go_wp2_with fail
        refine (refRight_any conn _).mono ?_
        rintro e w2 ⟨rfl, hw2⟩
        obtain rfl := hw2.symm
        rw [H1.out]
        go_wp2_with fail
        go_ret
        exact ⟨by rw [HR.out]; first | rfl | simp, HB.out⟩
      · have hn1 : ¬ (0 : Int) < (nd : Int) := by omega
        have hn2 : (nd == 0) = true := by rw [beq_iff_eq]; omega
        rw [hn2] at HR
        cases r2
        · go_enter Tryd.func40, Tryd.ntmps40
          go_wp2_with fail
          refine (refRight_any conn _).mono ?_
          rintro e w2 ⟨rfl, hw2⟩
          obtain rfl := hw2.symm
          rw [H1.out]
          go_wp2_with fail
          refine (refRight_any brk _).mono ?_
          rintro e w3 ⟨rfl, hw3⟩
          obtain rfl := hw3.symm
          rw [H2.out]
          go_wp2_with fail
          go_ret
          exact ⟨by rw [HR.out]; first | rfl | simp, HB.out⟩
        · by_cases hk0 : ks = []
          · have hk1 : ¬ (0 : Int) < (ks.length : Int) := by rw [hk0]; simp
            have hke : ks.isEmpty = true := by rw [hk0]; rfl
            rw [hke] at HR
            clear hk0 hke
            go_enter Tryd.func40, Tryd.ntmps40
            go_wp2_with fail
            refine (refRight_any conn _).mono ?_
            rintro e w2 ⟨rfl, hw2⟩
            obtain rfl := hw2.symm
            rw [H1.out]
            go_wp2_with fail
            refine (refRight_any brk _).mono ?_
            rintro e w3 ⟨rfl, hw3⟩
            obtain rfl := hw3.symm
            rw [H2.out]
            go_wp2_with fail
            go_loopg [6] ks.length (fun gk i wr => ∃ j : Nat, i = .int .i64 (j : Int) ∧ ks.length - j ≤ gk ∧ j ≤ ks.length ∧ Hid (StepBox wr W.heap.size 4 conn brk (.slice ad nd cd) (.slice ak ks.length ck)) ∧ Hid (Below W.heap.size W wr) ∧ Hid ((ks.take j).all (numOkB · true) = true))
            case atStart => exact ⟨0, rfl, by omega, by omega, XB, HB, by show _ = _; simp⟩
            case round =>
              obtain ⟨j, rfl, hgk, hj, XR, BR, HA⟩ := hrel
              obtain ⟨_, _, _, _, x4, _⟩ := XR.out.cells
              by_cases hlt : j < ks.length
              · exfalso; omega
              · have tlt : ¬ (j : Int) < (ks.length : Int) := by omega
                have HA2 : Hid (ks.all (numOkB · true) = true) := by
                  have := HA.out
                  rw [List.take_of_length_le (by omega)] at this
                  exact this
                go_wp2_with fail
                go_ret
                exact ⟨by rw [HR.out, HA2.out]; first | rfl | simp, BR.out⟩
          · have hk1 : (0 : Int) < (ks.length : Int) := by have := List.length_pos_iff.2 hk0; omega
            have hke : ks.isEmpty = false := by simpa using hk0
            rw [hke] at HR
            cases z2
            · go_enter Tryd.func40, Tryd.ntmps40
              go_wp2_with fail
              refine (refRight_any conn _).mono ?_
              rintro e w2 ⟨rfl, hw2⟩
              obtain rfl := hw2.symm
              rw [H1.out]
              go_wp2_with fail
              refine (refRight_any brk _).mono ?_
              rintro e w3 ⟨rfl, hw3⟩
              obtain rfl := hw3.symm
              rw [H2.out]
              go_wp2_with fail
              go_loopg [6] ks.length (fun gk i wr => ∃ j : Nat, i = .int .i64 (j : Int) ∧ ks.length - j ≤ gk ∧ j ≤ ks.length ∧ Hid (StepBox wr W.heap.size 4 conn brk (.slice ad nd cd) (.slice ak ks.length ck)) ∧ Hid (Below W.heap.size W wr) ∧ Hid ((ks.take j).all (numOkB · true) = true))
              case atStart => exact ⟨0, rfl, by omega, by omega, XB, HB, by show _ = _; simp⟩
              case round =>
                obtain ⟨j, rfl, hgk, hj, XR, BR, HA⟩ := hrel
                obtain ⟨_, _, _, _, x4, _⟩ := XR.out.cells
                by_cases hlt : j < ks.length
                · have tlt : (j : Int) < (ks.length : Int) := by omega
                  obtain ⟨y, hy⟩ : ∃ y, ks[j]? = some y := ⟨_, List.getElem?_eq_getElem hlt⟩
                  rcases HI.out.2.2 with h0 | ⟨bq, oq, e, hbq, hcq⟩
                  · rw [h0] at hlt; simp at hlt
                  subst e
                  have cy := (BR.out.cell (p := ⟨bq, oq + j, none⟩) hbq).trans (hcq j y hy)
                  cases hyb : numOkB y true
                  · have HF : Hid (ks.all (numOkB · true) = false) := by
                      show _ = _
                      rw [List.all_eq_false]
                      exact ⟨y, List.mem_of_getElem? hy, by simp [hyb]⟩
                    have HY := hide hyb
                    clear hy hcq hyb
                    go_wp2_with fail
                    refine (refRight_any y _).mono ?_
                    rintro e w4 ⟨rfl, hw4⟩
                    obtain rfl := hw4.symm
                    rw [HY.out]
                    go_wp2_with fail
                    go_ret
                    exact ⟨by rw [HR.out, HF.out]; first | rfl | simp, BR.out⟩
                  · have HA2 : Hid ((ks.take (j + 1)).all (numOkB · true) = true) := by
                      show _ = _
                      rw [List.take_add_one, hy, List.all_append, HA.out]
                      simp [hyb]
                    have HY := hide hyb
                    clear hy hcq hyb
                    go_wp2_with fail
                    refine (refRight_any y _).mono ?_
                    rintro e w4 ⟨rfl, hw4⟩
                    obtain rfl := hw4.symm
                    rw [HY.out]
                    go_wp2_with fail
                    go_roundg (ks.length - (j + 1))
                    case measure => omega
                    case rel => exact ⟨j + 1, by go_num, Nat.le_refl _, hlt, XR, BR, HA2⟩
                · have tlt : ¬ (j : Int) < (ks.length : Int) := by omega
                  have HA2 : Hid (ks.all (numOkB · true) = true) := by
                    have := HA.out
                    rw [List.take_of_length_le (by omega)] at this
                    exact this
                  go_wp2_with fail
                  go_ret
                  exact ⟨by rw [HR.out, HA2.out]; first | rfl | simp, BR.out⟩
            · go_enter Tryd.func40, Tryd.ntmps40
              go_wp2_with fail
              refine (refRight_any conn _).mono ?_
              rintro e w2 ⟨rfl, hw2⟩
              obtain rfl := hw2.symm
              rw [H1.out]
              go_wp2_with fail
              refine (refRight_any brk _).mono ?_
              rintro e w3 ⟨rfl, hw3⟩
              obtain rfl := hw3.symm
              rw [H2.out]
              go_wp2_with fail
              go_ret
              exact ⟨by rw [HR.out]; first | rfl | simp, HB.out⟩
end Go.Proofs.YtpfbfkjmdlogcaaDoor

namespace Go.Proofs.YtpfbfkjmdlogcaaDoor
open Go.RowKit

set_option maxHeartbeats 4000000 in
set_option maxRecDepth 1000000 in
theorem rs_5 (R r1 r2 z1 z2 : Bool) (W : World) (conn brk : Int) (ad ak : Option Addr) (nd cd ck : Nat) (ks : List Int) (hI : IsInts W ak ck ks) (h1 : numOkB conn true = r1) (h2 : numOkB brk true = r2) (hz1 : (conn != 0) = !z1) (hz2 : (brk != 0) = !z2) (hz3 : (brk == 0) = z2)
    (hR : R = (r1 && (false || z1) && r2 && (false || z2) && (false || nd == 0) && (false || ks.isEmpty || !z2) && ks.all (numOkB · true))) :
    Calls Tryd.prog 40 #[.agg #[.int .i64 5, .int .i64 conn, .slice ad nd cd, .int .i64 brk, .slice ak ks.length ck]] W fun e w' => e = .returned (.bool R) ∧ Below W.heap.size W w' := by
  have HB : Hid (Below W.heap.size W (W.alloc (.cells #[.int .i64 5, .int .i64 conn, .slice ad nd cd, .int .i64 brk, .slice ak ks.length ck] 44))) := (Below.refl _ W).alloc (Nat.le_refl _) _
  have XB : Hid (StepBox (W.alloc (.cells #[.int .i64 5, .int .i64 conn, .slice ad nd cd, .int .i64 brk, .slice ak ks.length ck] 44)) W.heap.size 5 conn brk (.slice ad nd cd) (.slice ak ks.length ck)) := heap_alloc_new W _
  have hkl : ks.length ≤ 9223372036854775807 := by have := hI.2.1; unfold maxLen at this; omega
  have HI := hide hI
  have H1 := hide h1
  have H2 := hide h2
  have HR := hide hR
  clear hI h1 h2 hR
  cases r1
  · go_enter Tryd.func40, Tryd.ntmps40
    go_wp2_with fail
    refine (refRight_any conn _).mono ?_
    rintro e w2 ⟨rfl, hw2⟩
    obtain rfl := hw2.symm
    rw [H1.out]
    go_wp2_with fail
    go_ret
    exact ⟨by rw [HR.out]; first | rfl | simp, HB.out⟩
  · cases z1
    · go_enter Tryd.func40, Tryd.ntmps40
      go_wp2_with fail
      refine (refRight_any conn _).mono ?_
      rintro e w2 ⟨rfl, hw2⟩
      obtain rfl := hw2.symm
      rw [H1.out]
      go_wp2_with fail
      go_ret
      exact ⟨by rw [HR.out]; first | rfl | simp, HB.out⟩
    · by_cases hnd : 0 < nd
      · have hn1 : (0 : Int) < (nd : Int) := by omega
        have hn2 : (nd == 0) = false := by rw [beq_eq_false_iff_ne]; omega
        rw [hn2] at HR
        go_enter Tryd.func40, Tryd.ntmps40
        go_wp2_with fail
        refine (refRight_any conn _).mono ?_
        rintro e w2 ⟨rfl, hw2⟩
        obtain rfl := hw2.symm
        rw [H1.out]
        go_wp2_with fail
        go_ret
        exact ⟨by rw [HR.out]; first | rfl | simp, HB.out⟩
      · have hn1 : ¬ (0 : Int) < (nd : Int) := by omega
        have hn2 : (nd == 0) = true := by rw [beq_iff_eq]; omega
        rw [hn2] at HR
        cases r2
        · go_enter Tryd.func40, Tryd.ntmps40
          go_wp2_with fail
          refine (refRight_any conn _).mono ?_
          rintro e w2 ⟨rfl, hw2⟩
          obtain rfl := hw2.symm
          rw [H1.out]
          go_wp2_with fail
          refine (refRight_any brk _).mono ?_
          rintro e w3 ⟨rfl, hw3⟩
          obtain rfl := hw3.symm
          rw [H2.out]
          go_wp2_with fail
          go_ret
          exact ⟨by rw [HR.out]; first | rfl | simp, HB.out⟩
        · cases z2
          · go_enter Tryd.func40, Tryd.ntmps40
            go_wp2_with fail
            refine (refRight_any conn _).mono ?_
            rintro e w2 ⟨rfl, hw2⟩
            obtain rfl := hw2.symm
            rw [H1.out]
            go_wp2_with fail
            refine (refRight_any brk _).mono ?_
            rintro e w3 ⟨rfl, hw3⟩
            obtain rfl := hw3.symm
            rw [H2.out]
            go_wp2_with fail
            go_ret
            exact ⟨by rw [HR.out]; first | rfl | simp, HB.out⟩
          · by_cases hk0 : ks = []
            · have hk1 : ¬ (0 : Int) < (ks.length : Int) := by rw [hk0]; simp
              have hke : ks.isEmpty = true := by rw [hk0]; rfl
              rw [hke] at HR
              clear hk0 hke
              go_enter Tryd.func40, Tryd.ntmps40
              go_wp2_with fail
              refine (refRight_any conn _).mono ?_
              rintro e w2 ⟨rfl, hw2⟩
              obtain rfl := hw2.symm
              rw [H1.out]
              go_wp2_with fail
              refine (refRight_any brk _).mono ?_
              rintro e w3 ⟨rfl, hw3⟩
              obtain rfl := hw3.symm
              rw [H2.out]
              go_wp2_with fail
              go_loopg [6] ks.length (fun gk i wr => ∃ j : Nat, i = .int .i64 (j : Int) ∧ ks.length - j ≤ gk ∧ j ≤ ks.length ∧ Hid (StepBox wr W.heap.size 5 conn brk (.slice ad nd cd) (.slice ak ks.length ck)) ∧ Hid (Below W.heap.size W wr) ∧ Hid ((ks.take j).all (numOkB · true) = true))
              case atStart => exact ⟨0, rfl, by omega, by omega, XB, HB, by show _ = _; simp⟩
              case round =>
                obtain ⟨j, rfl, hgk, hj, XR, BR, HA⟩ := hrel
                obtain ⟨_, _, _, _, x4, _⟩ := XR.out.cells
                by_cases hlt : j < ks.length
                · exfalso; omega
                · have tlt : ¬ (j : Int) < (ks.length : Int) := by omega
                  have HA2 : Hid (ks.all (numOkB · true) = true) := by
                    have := HA.out
                    rw [List.take_of_length_le (by omega)] at this
                    exact this
                  go_wp2_with fail
                  go_ret
                  exact ⟨by rw [HR.out, HA2.out]; first | rfl | simp, BR.out⟩
            · have hk1 : (0 : Int) < (ks.length : Int) := by have := List.length_pos_iff.2 hk0; omega
              have hke : ks.isEmpty = false := by simpa using hk0
              rw [hke] at HR
              go_enter Tryd.func40, Tryd.ntmps40
              go_wp2_with fail
              refine (refRight_any conn _).mono ?_
              rintro e w2 ⟨rfl, hw2⟩
              obtain rfl := hw2.symm
              rw [H1.out]
              go_wp2_with fail
              refine (refRight_any brk _).mono ?_
              rintro e w3 ⟨rfl, hw3⟩
              obtain rfl := hw3.symm
              rw [H2.out]
              go_wp2_with fail
              go_ret
              exact ⟨by rw [HR.out]; first | rfl | simp, HB.out⟩
end Go.Proofs.YtpfbfkjmdlogcaaDoor

namespace Go.Proofs.YtpfbfkjmdlogcaaDoor
open Go.RowKit

set_option maxHeartbeats 4000000 in
set_option maxRecDepth 1000000 in
theorem rs_6 (R r1 r2 z1 z2 : Bool) (W : World) (conn brk : Int) (ad ak : Option Addr) (nd cd ck : Nat) (ks : List Int) (hI : IsInts W ak ck ks) (h1 : numOkB conn true = r1) (h2 : numOkB brk true = r2) (hz1 : (conn != 0) = !z1) (hz2 : (brk != 0) = !z2) (hz3 : (brk == 0) = z2)
    (hR : R = (r1 && (false || z1) && r2 && (false || z2) && (false || nd == 0) && (true || ks.isEmpty || !z2) && ks.all (numOkB · true))) :
    Calls Tryd.prog 40 #[.agg #[.int .i64 6, .int .i64 conn, .slice ad nd cd, .int .i64 brk, .slice ak ks.length ck]] W fun e w' => e = .returned (.bool R) ∧ Below W.heap.size W w' := by
  have HB : Hid (Below W.heap.size W (W.alloc (.cells #[.int .i64 6, .int .i64 conn, .slice ad nd cd, .int .i64 brk, .slice ak ks.length ck] 44))) := (Below.refl _ W).alloc (Nat.le_refl _) _
  have XB : Hid (StepBox (W.alloc (.cells #[.int .i64 6, .int .i64 conn, .slice ad nd cd, .int .i64 brk, .slice ak ks.length ck] 44)) W.heap.size 6 conn brk (.slice ad nd cd) (.slice ak ks.length ck)) := heap_alloc_new W _
  have hkl : ks.length ≤ 9223372036854775807 := by have := hI.2.1; unfold maxLen at this; omega
  have HI := hide hI
  have H1 := hide h1
  have H2 := hide h2
  have HR := hide hR
  clear hI h1 h2 hR
  cases r1
  · go_enter Tryd.func40, Tryd.ntmps40
    go_wp2_with fail
    refine (refRight_any conn _).mono ?_
    rintro e w2 ⟨rfl, hw2⟩
    obtain rfl := hw2.symm
    rw [H1.out]
    go_wp2_with fail
    go_ret
    exact ⟨by rw [HR.out]; first | rfl | simp, HB.out⟩
  · cases z1
    · go_enter Tryd.func40, Tryd.ntmps40
      go_wp2_with fail
      refine (refRight_any conn _).mono ?_
      rintro e w2 ⟨rfl, hw2⟩
      obtain rfl := hw2.symm
      rw [H1.out]
      go_wp2_with fail
      go_ret
      exact ⟨by rw [HR.out]; first | rfl | simp, HB.out⟩
    · by_cases hnd : 0 < nd
      · have hn1 : (0 : Int) < (nd : Int) := by omega
        have hn2 : (nd == 0) = false := by rw [beq_eq_false_iff_ne]; omega
        rw [hn2] at HR
        go_enter Tryd.func40, Tryd.ntmps40
        go_wp2_with fail
        refine (refRight_any conn _).mono ?_
        rintro e w2 ⟨rfl, hw2⟩
        obtain rfl := hw2.symm
        rw [H1.out]
        go_wp2_with fail
        go_ret
        exact ⟨by rw [HR.out]; first | rfl | simp, HB.out⟩
      · have hn1 : ¬ (0 : Int) < (nd : Int) := by omega
        have hn2 : (nd == 0) = true := by rw [beq_iff_eq]; omega
        rw [hn2] at HR
        cases r2
        · go_enter Tryd.func40, Tryd.ntmps40
          go_wp2_with fail
          refine (refRight_any conn _).mono ?_
          rintro e w2 ⟨rfl, hw2⟩
          obtain rfl := hw2.symm
          rw [H1.out]
          go_wp2_with fail
          refine (refRight_any brk _).mono ?_
          rintro e w3 ⟨rfl, hw3⟩
          obtain rfl := hw3.symm
          rw [H2.out]
          go_wp2_with fail
          go_ret
          exact ⟨by rw [HR.out]; first | rfl | simp, HB.out⟩
        · cases z2
          · go_enter Tryd.func40, Tryd.ntmps40
            go_wp2_with fail
            refine (refRight_any conn _).mono ?_
            rintro e w2 ⟨rfl, hw2⟩
            obtain rfl := hw2.symm
            rw [H1.out]
            go_wp2_with fail
            refine (refRight_any brk _).mono ?_
            rintro e w3 ⟨rfl, hw3⟩
            obtain rfl := hw3.symm
            rw [H2.out]
            go_wp2_with fail
            go_ret
            exact ⟨by rw [HR.out]; first | rfl | simp, HB.out⟩
          · by_cases hk0 : ks = []
            · have hk1 : ¬ (0 : Int) < (ks.length : Int) := by rw [hk0]; simp
              have hke : ks.isEmpty = true := by rw [hk0]; rfl
              rw [hke] at HR
              clear hk0 hke
              go_enter Tryd.func40, Tryd.ntmps40
              go_wp2_with fail
              refine (refRight_any conn _).mono ?_
              rintro e w2 ⟨rfl, hw2⟩
              obtain rfl := hw2.symm
              rw [H1.out]
              go_wp2_with fail
              refine (refRight_any brk _).mono ?_
              rintro e w3 ⟨rfl, hw3⟩
              obtain rfl := hw3.symm
              rw [H2.out]
              go_wp2_with fail
              go_loopg [6] ks.length (fun gk i wr => ∃ j : Nat, i = .int .i64 (j : Int) ∧ ks.length - j ≤ gk ∧ j ≤ ks.length ∧ Hid (StepBox wr W.heap.size 6 conn brk (.slice ad nd cd) (.slice ak ks.length ck)) ∧ Hid (Below W.heap.size W wr) ∧ Hid ((ks.take j).all (numOkB · true) = true))
              case atStart => exact ⟨0, rfl, by omega, by omega, XB, HB, by show _ = _; simp⟩
              case round =>
                obtain ⟨j, rfl, hgk, hj, XR, BR, HA⟩ := hrel
                obtain ⟨_, _, _, _, x4, _⟩ := XR.out.cells
                by_cases hlt : j < ks.length
                · exfalso; omega
                · have tlt : ¬ (j : Int) < (ks.length : Int) := by omega
                  have HA2 : Hid (ks.all (numOkB · true) = true) := by
                    have := HA.out
                    rw [List.take_of_length_le (by omega)] at this
                    exact this
                  go_wp2_with fail
                  go_ret
                  exact ⟨by rw [HR.out, HA2.out]; first | rfl | simp, BR.out⟩
            · have hk1 : (0 : Int) < (ks.length : Int) := by have := List.length_pos_iff.2 hk0; omega
              go_enter Tryd.func40, Tryd.ntmps40
              go_wp2_with fail
              refine (refRight_any conn _).mono ?_
              rintro e w2 ⟨rfl, hw2⟩
              obtain rfl := hw2.symm
              rw [H1.out]
              go_wp2_with fail
              refine (refRight_any brk _).mono ?_
              rintro e w3 ⟨rfl, hw3⟩
              obtain rfl := hw3.symm
              rw [H2.out]
              go_wp2_with fail
              go_loopg [6] ks.length (fun gk i wr => ∃ j : Nat, i = .int .i64 (j : Int) ∧ ks.length - j ≤ gk ∧ j ≤ ks.length ∧ Hid (StepBox wr W.heap.size 6 conn brk (.slice ad nd cd) (.slice ak ks.length ck)) ∧ Hid (Below W.heap.size W wr) ∧ Hid ((ks.take j).all (numOkB · true) = true))
              case atStart => exact ⟨0, rfl, by omega, by omega, XB, HB, by show _ = _; simp⟩
              case round =>
                obtain ⟨j, rfl, hgk, hj, XR, BR, HA⟩ := hrel
                obtain ⟨_, _, _, _, x4, _⟩ := XR.out.cells
                by_cases hlt : j < ks.length
                · have tlt : (j : Int) < (ks.length : Int) := by omega
                  obtain ⟨y, hy⟩ : ∃ y, ks[j]? = some y := ⟨_, List.getElem?_eq_getElem hlt⟩
                  rcases HI.out.2.2 with h0 | ⟨bq, oq, e, hbq, hcq⟩
                  · rw [h0] at hlt; simp at hlt
                  subst e
                  have cy := (BR.out.cell (p := ⟨bq, oq + j, none⟩) hbq).trans (hcq j y hy)
                  cases hyb : numOkB y true
                  · have HF : Hid (ks.all (numOkB · true) = false) := by
                      show _ = _
                      rw [List.all_eq_false]
                      exact ⟨y, List.mem_of_getElem? hy, by simp [hyb]⟩
                    have HY := hide hyb
                    clear hy hcq hyb
                    go_wp2_with fail
                    refine (refRight_any y _).mono ?_
                    rintro e w4 ⟨rfl, hw4⟩
                    obtain rfl := hw4.symm
                    rw [HY.out]
                    go_wp2_with fail
                    go_ret
                    exact ⟨by rw [HR.out, HF.out]; first | rfl | simp, BR.out⟩
                  · have HA2 : Hid ((ks.take (j + 1)).all (numOkB · true) = true) := by
                      show _ = _
                      rw [List.take_add_one, hy, List.all_append, HA.out]
                      simp [hyb]
                    have HY := hide hyb
                    clear hy hcq hyb
                    go_wp2_with fail
                    refine (refRight_any y _).mono ?_
                    rintro e w4 ⟨rfl, hw4⟩
                    obtain rfl := hw4.symm
                    rw [HY.out]
                    go_wp2_with fail
                    go_roundg (ks.length - (j + 1))
                    case measure => omega
                    case rel => exact ⟨j + 1, by go_num, Nat.le_refl _, hlt, XR, BR, HA2⟩
                · have tlt : ¬ (j : Int) < (ks.length : Int) := by omega
                  have HA2 : Hid (ks.all (numOkB · true) = true) := by
                    have := HA.out
                    rw [List.take_of_length_le (by omega)] at this
                    exact this
                  go_wp2_with fail
                  go_ret
                  exact ⟨by rw [HR.out, HA2.out]; first | rfl | simp, BR.out⟩
end Go.Proofs.YtpfbfkjmdlogcaaDoor

namespace Go.Proofs.YtpfbfkjmdlogcaaDoor
open Go.RowKit

set_option maxHeartbeats 4000000 in
set_option maxRecDepth 1000000 in
theorem rs_7 (R r1 r2 z1 z2 : Bool) (W : World) (conn brk : Int) (ad ak : Option Addr) (nd cd ck : Nat) (ks : List Int) (hI : IsInts W ak ck ks) (h1 : numOkB conn true = r1) (h2 : numOkB brk true = r2) (hz1 : (conn != 0) = !z1) (hz2 : (brk != 0) = !z2) (hz3 : (brk == 0) = z2)
    (hR : R = (r1 && (false || z1) && r2 && (true || z2) && (false || nd == 0) && (false || ks.isEmpty || !z2) && ks.all (numOkB · true))) :
    Calls Tryd.prog 40 #[.agg #[.int .i64 7, .int .i64 conn, .slice ad nd cd, .int .i64 brk, .slice ak ks.length ck]] W fun e w' => e = .returned (.bool R) ∧ Below W.heap.size W w' := by
  have HB : Hid (Below W.heap.size W (W.alloc (.cells #[.int .i64 7, .int .i64 conn, .slice ad nd cd, .int .i64 brk, .slice ak ks.length ck] 44))) := (Below.refl _ W).alloc (Nat.le_refl _) _
  have XB : Hid (StepBox (W.alloc (.cells #[.int .i64 7, .int .i64 conn, .slice ad nd cd, .int .i64 brk, .slice ak ks.length ck] 44)) W.heap.size 7 conn brk (.slice ad nd cd) (.slice ak ks.length ck)) := heap_alloc_new W _
  have hkl : ks.length ≤ 9223372036854775807 := by have := hI.2.1; unfold maxLen at this; omega
  have HI := hide hI
  have H1 := hide h1
  have H2 := hide h2
  have HR := hide hR
  clear hI h1 h2 hR
  cases r1
  · go_enter Tryd.func40, Tryd.ntmps40
    go_wp2_with fail
    refine (refRight_any conn _).mono ?_
    rintro e w2 ⟨rfl, hw2⟩
    obtain rfl := hw2.symm
    rw [H1.out]
    go_wp2_with fail
    go_ret
    exact ⟨by rw [HR.out]; first | rfl | simp, HB.out⟩
  · cases z1
    · go_enter Tryd.func40, Tryd.ntmps40
      go_wp2_with fail
      refine (refRight_any conn _).mono ?_
      rintro e w2 ⟨rfl, hw2⟩
      obtain rfl := hw2.symm
      rw [H1.out]
      go_wp2_with fail
      go_ret
      exact ⟨by rw [HR.out]; first | rfl | simp, HB.out⟩
    · by_cases hnd : 0 < nd
      · have hn1 : (0 : Int) < (nd : Int) := by omega
        have hn2 : (nd == 0) = false := by rw [beq_eq_false_iff_ne]; omega
        rw [hn2] at HR
        go_enter Tryd.func40, Tryd.ntmps40
        go_wp2_with fail
        refine (refRight_any conn _).mono ?_
        rintro e w2 ⟨rfl, hw2⟩
        obtain rfl := hw2.symm
        rw [H1.out]
        go_wp2_with fail
        go_ret
        exact ⟨by rw [HR.out]; first | rfl | simp, HB.out⟩
      · have hn1 : ¬ (0 : Int) < (nd : Int) := by omega
        have hn2 : (nd == 0) = true := by rw [beq_iff_eq]; omega
        rw [hn2] at HR
        cases r2
        · go_enter Tryd.func40, Tryd.ntmps40
          go_wp2_with fail
          refine (refRight_any conn _).mono ?_
          rintro e w2 ⟨rfl, hw2⟩
          obtain rfl := hw2.symm
          rw [H1.out]
          go_wp2_with fail
          refine (refRight_any brk _).mono ?_
          rintro e w3 ⟨rfl, hw3⟩
          obtain rfl := hw3.symm
          rw [H2.out]
          go_wp2_with fail
          go_ret
          exact ⟨by rw [HR.out]; first | rfl | simp, HB.out⟩
        · by_cases hk0 : ks = []
          · have hk1 : ¬ (0 : Int) < (ks.length : Int) := by rw [hk0]; simp
            have hke : ks.isEmpty = true := by rw [hk0]; rfl
            rw [hke] at HR
            clear hk0 hke
            go_enter Tryd.func40, Tryd.ntmps40
            go_wp2_with fail
            refine (refRight_any conn _).mono ?_
            rintro e w2 ⟨rfl, hw2⟩
            obtain rfl := hw2.symm
            rw [H1.out]
            go_wp2_with fail
            refine (refRight_any brk _).mono ?_
            rintro e w3 ⟨rfl, hw3⟩
            obtain rfl := hw3.symm
            rw [H2.out]
            go_wp2_with fail
            go_loopg [6] ks.length (fun gk i wr => ∃ j : Nat, i = .int .i64 (j : Int) ∧ ks.length - j ≤ gk ∧ j ≤ ks.length ∧ Hid (StepBox wr W.heap.size 7 conn brk (.slice ad nd cd) (.slice ak ks.length ck)) ∧ Hid (Below W.heap.size W wr) ∧ Hid ((ks.take j).all (numOkB · true) = true))
            case atStart => exact ⟨0, rfl, by omega, by omega, XB, HB, by show _ = _; simp⟩
            case round =>
              obtain ⟨j, rfl, hgk, hj, XR, BR, HA⟩ := hrel
              obtain ⟨_, _, _, _, x4, _⟩ := XR.out.cells
              by_cases hlt : j < ks.length
              · exfalso; omega
              · have tlt : ¬ (j : Int) < (ks.length : Int) := by omega
                have HA2 : Hid (ks.all (numOkB · true) = true) := by
                  have := HA.out
                  rw [List.take_of_length_le (by omega)] at this
                  exact this
                go_wp2_with fail
                go_ret
                exact ⟨by rw [HR.out, HA2.out]; first | rfl | simp, BR.out⟩
          · have hk1 : (0 : Int) < (ks.length : Int) := by have := List.length_pos_iff.2 hk0; omega
            have hke : ks.isEmpty = false := by simpa using hk0
            rw [hke] at HR
            cases z2
            · go_enter Tryd.func40, Tryd.ntmps40
              go_wp2_with fail
              refine (refRight_any conn _).mono ?_
              rintro e w2 ⟨rfl, hw2⟩
              obtain rfl := hw2.symm
              rw [H1.out]
              go_wp2_with fail
              refine (refRight_any brk _).mono ?_
              rintro e w3 ⟨rfl, hw3⟩
              obtain rfl := hw3.symm
              rw [H2.out]
              go_wp2_with fail
              go_loopg [6] ks.length (fun gk i wr => ∃ j : Nat, i = .int .i64 (j : Int) ∧ ks.length - j ≤ gk ∧ j ≤ ks.length ∧ Hid (StepBox wr W.heap.size 7 conn brk (.slice ad nd cd) (.slice ak ks.length ck)) ∧ Hid (Below W.heap.size W wr) ∧ Hid ((ks.take j).all (numOkB · true) = true))
              case atStart => exact ⟨0, rfl, by omega, by omega, XB, HB, by show _ = _; simp⟩
              case round =>
                obtain ⟨j, rfl, hgk, hj, XR, BR, HA⟩ := hrel
                obtain ⟨_, _, _, _, x4, _⟩ := XR.out.cells
                by_cases hlt : j < ks.length
                · have tlt : (j : Int) < (ks.length : Int) := by omega
                  obtain ⟨y, hy⟩ : ∃ y, ks[j]? = some y := ⟨_, List.getElem?_eq_getElem hlt⟩
                  rcases HI.out.2.2 with h0 | ⟨bq, oq, e, hbq, hcq⟩
                  · rw [h0] at hlt; simp at hlt
                  subst e
                  have cy := (BR.out.cell (p := ⟨bq, oq + j, none⟩) hbq).trans (hcq j y hy)
                  cases hyb : numOkB y true
                  · have HF : Hid (ks.all (numOkB · true) = false) := by
                      show _ = _
                      rw [List.all_eq_false]
                      exact ⟨y, List.mem_of_getElem? hy, by simp [hyb]⟩
                    have HY := hide hyb
                    clear hy hcq hyb
                    go_wp2_with fail
                    refine (refRight_any y _).mono ?_
                    rintro e w4 ⟨rfl, hw4⟩
                    obtain rfl := hw4.symm
                    rw [HY.out]
                    go_wp2_with fail
                    go_ret
                    exact ⟨by rw [HR.out, HF.out]; first | rfl | simp, BR.out⟩
                  · have HA2 : Hid ((ks.take (j + 1)).all (numOkB · true) = true) := by
                      show _ = _
                      rw [List.take_add_one, hy, List.all_append, HA.out]
                      simp [hyb]
                    have HY := hide hyb
                    clear hy hcq hyb
                    go_wp2_with fail
                    refine (refRight_any y _).mono ?_
                    rintro e w4 ⟨rfl, hw4⟩
                    obtain rfl := hw4.symm
                    rw [HY.out]
                    go_wp2_with fail
                    go_roundg (ks.length - (j + 1))
                    case measure => omega
                    case rel => exact ⟨j + 1, by go_num, Nat.le_refl _, hlt, XR, BR, HA2⟩
                · have tlt : ¬ (j : Int) < (ks.length : Int) := by omega
                  have HA2 : Hid (ks.all (numOkB · true) = true) := by
                    have := HA.out
                    rw [List.take_of_length_le (by omega)] at this
                    exact this
                  go_wp2_with fail
                  go_ret
                  exact ⟨by rw [HR.out, HA2.out]; first | rfl | simp, BR.out⟩
            · go_enter Tryd.func40, Tryd.ntmps40
              go_wp2_with fail
              refine (refRight_any conn _).mono ?_
              rintro e w2 ⟨rfl, hw2⟩
              obtain rfl := hw2.symm
              rw [H1.out]
              go_wp2_with fail
              refine (refRight_any brk _).mono ?_
              rintro e w3 ⟨rfl, hw3⟩
              obtain rfl := hw3.symm
              rw [H2.out]
              go_wp2_with fail
              go_ret
              exact ⟨by rw [HR.out]; first | rfl | simp, HB.out⟩
end Go.Proofs.YtpfbfkjmdlogcaaDoor
