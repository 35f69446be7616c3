/-
  The walk of checkStep.
-/
import Derived.Test.YteaccpolmmkclaaDoorTxW
import Derived.Test.YteaccpolmmkclaaDoorStpA
namespace Go.Proofs.YteaccpolmmkclaaDoor
open Go.RowKit

set_option maxHeartbeats 2000000 in
set_option maxRecDepth 1000000 in
theorem check_kind (W : World) (k conn brk : Int) (ad ak : Option Addr) (nd cd nk ck : Nat) (hk : k < 1 ∨ 7 < k) :
    Calls Tryd.prog 28 #[.agg #[.int .i64 k, .int .i64 conn, .slice ad nd cd, .int .i64 brk, .slice ak nk ck]] W fun e w' => e = pan 192 ∧ Below W.heap.size W w' := by
  have HB : Hid (Below W.heap.size W (W.alloc (.cells #[.int .i64 k, .int .i64 conn, .slice ad nd cd, .int .i64 brk, .slice ak nk ck] 40))) := (Below.refl _ W).alloc (Nat.le_refl _) _
  unfold pan
  by_cases h1 : k < 1
  · go_enter Tryd.func28, Tryd.ntmps28
    go_wp2_with fail
    exact ⟨rfl, rfl, HB.out⟩
  · have h2 : 7 < k := by omega
    go_enter Tryd.func28, Tryd.ntmps28
    go_wp2_with fail
    exact ⟨rfl, rfl, HB.out⟩
set_option maxHeartbeats 2000000 in
set_option maxRecDepth 1000000 in
theorem check_conn (W : World) (k : Nat) (conn brk : Int) (ad ak : Option Addr) (nd cd nk ck : Nat) (bc bd bb bk : Bool) (hk : 1 ≤ k ∧ k ≤ 7) (T : Tabs W) (hf : FormAt W k bc bd bb bk) (h1 : numOkB conn bc = false) :
    Calls Tryd.prog 28 #[.agg #[.int .i64 (k : Int), .int .i64 conn, .slice ad nd cd, .int .i64 brk, .slice ak nk ck]] W fun e w' => e = pan 192 ∧ Below W.heap.size W w' := by
  obtain ⟨x, f0, f1, f2, f3, f4⟩ := hf
  have hfl := T.lt.1
  have i0 : ¬ (k : Int) < 1 := by omega
  have i1 : (0 : Int) ≤ (k : Int) := by omega
  have i2 : (k : Int) < 8 := by omega
  have i3 : ¬ 7 < (k : Int) := by omega
  have g0 : Below W.heap.size W (W.alloc (.cells #[.int .i64 (k : Int), .int .i64 conn, .slice ad nd cd, .int .i64 brk, .slice ak nk ck] 40)) := (Below.refl _ W).alloc (Nat.le_refl _) _
  have e0 := (g0.cell (p := ⟨0, k * 5, none⟩) hfl).trans f0
  have e1 := (g0.cell (p := ⟨0, k * 5 + 1, none⟩) hfl).trans f1
  have e2 := (g0.cell (p := ⟨0, k * 5 + 2, none⟩) hfl).trans f2
  have e3 := (g0.cell (p := ⟨0, k * 5 + 3, none⟩) hfl).trans f3
  have e4 := (g0.cell (p := ⟨0, k * 5 + 4, none⟩) hfl).trans f4
  have HB : Hid (Below W.heap.size W ((W.alloc (.cells #[.int .i64 (k : Int), .int .i64 conn, .slice ad nd cd, .int .i64 brk, .slice ak nk ck] 40)).alloc (.cells #[.string x, .bool bc, .bool bd, .bool bb, .bool bk] 87))) := g0.alloc (by simp) _
  clear f0 f1 f2 f3 f4 T g0
  have C1 := hide (fun X => checkNumber_no X conn bc h1)
  unfold pan at C1
  unfold pan
  go_enter Tryd.func28, Tryd.ntmps28
  go_wp2_with fail
  refine (C1.out _).mono ?_
  rintro e w2 ⟨rfl, hw2⟩
  have HB2 : Hid (Below W.heap.size W w2) := by rw [hw2]; exact HB.out
  clear hw2 e0 e1 e2 e3 e4
  go_wp2_with fail
  exact ⟨rfl, rfl, HB2.out⟩
set_option maxHeartbeats 2000000 in
set_option maxRecDepth 1000000 in
theorem check_brk (W : World) (k : Nat) (conn brk : Int) (ad ak : Option Addr) (nd cd nk ck : Nat) (bc bd bb bk : Bool) (hk : 1 ≤ k ∧ k ≤ 7) (T : Tabs W) (hf : FormAt W k bc bd bb bk) (h1 : numOkB conn bc = true) (h2 : numOkB brk bb = false) :
    Calls Tryd.prog 28 #[.agg #[.int .i64 (k : Int), .int .i64 conn, .slice ad nd cd, .int .i64 brk, .slice ak nk ck]] W fun e w' => e = pan 192 ∧ Below W.heap.size W w' := by
  obtain ⟨x, f0, f1, f2, f3, f4⟩ := hf
  have hfl := T.lt.1
  have i0 : ¬ (k : Int) < 1 := by omega
  have i1 : (0 : Int) ≤ (k : Int) := by omega
  have i2 : (k : Int) < 8 := by omega
  have i3 : ¬ 7 < (k : Int) := by omega
  have g0 : Below W.heap.size W (W.alloc (.cells #[.int .i64 (k : Int), .int .i64 conn, .slice ad nd cd, .int .i64 brk, .slice ak nk ck] 40)) := (Below.refl _ W).alloc (Nat.le_refl _) _
  have e0 := (g0.cell (p := ⟨0, k * 5, none⟩) hfl).trans f0
  have e1 := (g0.cell (p := ⟨0, k * 5 + 1, none⟩) hfl).trans f1
  have e2 := (g0.cell (p := ⟨0, k * 5 + 2, none⟩) hfl).trans f2
  have e3 := (g0.cell (p := ⟨0, k * 5 + 3, none⟩) hfl).trans f3
  have e4 := (g0.cell (p := ⟨0, k * 5 + 4, none⟩) hfl).trans f4
  have HB : Hid (Below W.heap.size W ((W.alloc (.cells #[.int .i64 (k : Int), .int .i64 conn, .slice ad nd cd, .int .i64 brk, .slice ak nk ck] 40)).alloc (.cells #[.string x, .bool bc, .bool bd, .bool bb, .bool bk] 87))) := g0.alloc (by simp) _
  clear f0 f1 f2 f3 f4 T g0
  have C1 := hide (fun X => checkNumber_yes X conn bc h1)
  have C2 := hide (fun X => checkNumber_no X brk bb h2)
  unfold pan at C2
  unfold pan
  go_enter Tryd.func28, Tryd.ntmps28
  go_wp2_with fail
  refine (C1.out _).mono ?_
  rintro e w2 ⟨rfl, hw2⟩
  obtain rfl := hw2.symm
  go_wp2_with fail
  refine (C2.out _).mono ?_
  rintro e w2 ⟨rfl, hw2⟩
  have HB2 : Hid (Below W.heap.size W w2) := by rw [hw2]; exact HB.out
  clear hw2 e0 e1 e2 e3 e4
  go_wp2_with fail
  exact ⟨rfl, rfl, HB2.out⟩
set_option maxHeartbeats 2000000 in
set_option maxRecDepth 1000000 in
theorem check_data (W : World) (k : Nat) (conn brk : Int) (ad ak : Option Addr) (nd cd nk ck : Nat) (bc bd bb bk : Bool) (hk : 1 ≤ k ∧ k ≤ 7) (T : Tabs W) (hf : FormAt W k bc bd bb bk) (h1 : numOkB conn bc = true) (h2 : numOkB brk bb = true) (h3 : 0 < nd ∧ bd = false) :
    Calls Tryd.prog 28 #[.agg #[.int .i64 (k : Int), .int .i64 conn, .slice ad nd cd, .int .i64 brk, .slice ak nk ck]] W fun e w' => e = pan 192 ∧ Below W.heap.size W w' := by
  obtain ⟨x, f0, f1, f2, f3, f4⟩ := hf
  have hfl := T.lt.1
  have i0 : ¬ (k : Int) < 1 := by omega
  have i1 : (0 : Int) ≤ (k : Int) := by omega
  have i2 : (k : Int) < 8 := by omega
  have i3 : ¬ 7 < (k : Int) := by omega
  have g0 : Below W.heap.size W (W.alloc (.cells #[.int .i64 (k : Int), .int .i64 conn, .slice ad nd cd, .int .i64 brk, .slice ak nk ck] 40)) := (Below.refl _ W).alloc (Nat.le_refl _) _
  have e0 := (g0.cell (p := ⟨0, k * 5, none⟩) hfl).trans f0
  have e1 := (g0.cell (p := ⟨0, k * 5 + 1, none⟩) hfl).trans f1
  have e2 := (g0.cell (p := ⟨0, k * 5 + 2, none⟩) hfl).trans f2
  have e3 := (g0.cell (p := ⟨0, k * 5 + 3, none⟩) hfl).trans f3
  have e4 := (g0.cell (p := ⟨0, k * 5 + 4, none⟩) hfl).trans f4
  have HB : Hid (Below W.heap.size W ((W.alloc (.cells #[.int .i64 (k : Int), .int .i64 conn, .slice ad nd cd, .int .i64 brk, .slice ak nk ck] 40)).alloc (.cells #[.string x, .bool bc, .bool bd, .bool bb, .bool bk] 87))) := g0.alloc (by simp) _
  clear f0 f1 f2 f3 f4 T g0
  have C1 := hide (fun X => checkNumber_yes X conn bc h1)
  have C2 := hide (fun X => checkNumber_yes X brk bb h2)
  obtain ⟨h3, rfl⟩ := h3
  have j3 : (0 : Int) < (nd : Int) := by omega
  unfold pan
  go_enter Tryd.func28, Tryd.ntmps28
  go_wp2_with fail
  refine (C1.out _).mono ?_
  rintro e w2 ⟨rfl, hw2⟩
  obtain rfl := hw2.symm
  go_wp2_with fail
  refine (C2.out _).mono ?_
  rintro e w2 ⟨rfl, hw2⟩
  obtain rfl := hw2.symm
  go_wp2_with fail
  exact ⟨rfl, rfl, HB.out⟩
set_option maxHeartbeats 2000000 in
set_option maxRecDepth 1000000 in
theorem check_keep (W : World) (k : Nat) (conn brk : Int) (ad ak : Option Addr) (nd cd nk ck : Nat) (bc bd bb bk : Bool) (hk : 1 ≤ k ∧ k ≤ 7) (T : Tabs W) (hf : FormAt W k bc bd bb bk) (h1 : numOkB conn bc = true) (h2 : numOkB brk bb = true) (h3 : nd = 0 ∨ bd = true) (h4 : 0 < nk ∧ bk = false ∧ brk = 0) :
    Calls Tryd.prog 28 #[.agg #[.int .i64 (k : Int), .int .i64 conn, .slice ad nd cd, .int .i64 brk, .slice ak nk ck]] W fun e w' => e = pan 192 ∧ Below W.heap.size W w' := by
  obtain ⟨x, f0, f1, f2, f3, f4⟩ := hf
  have hfl := T.lt.1
  have i0 : ¬ (k : Int) < 1 := by omega
  have i1 : (0 : Int) ≤ (k : Int) := by omega
  have i2 : (k : Int) < 8 := by omega
  have i3 : ¬ 7 < (k : Int) := by omega
  have g0 : Below W.heap.size W (W.alloc (.cells #[.int .i64 (k : Int), .int .i64 conn, .slice ad nd cd, .int .i64 brk, .slice ak nk ck] 40)) := (Below.refl _ W).alloc (Nat.le_refl _) _
  have e0 := (g0.cell (p := ⟨0, k * 5, none⟩) hfl).trans f0
  have e1 := (g0.cell (p := ⟨0, k * 5 + 1, none⟩) hfl).trans f1
  have e2 := (g0.cell (p := ⟨0, k * 5 + 2, none⟩) hfl).trans f2
  have e3 := (g0.cell (p := ⟨0, k * 5 + 3, none⟩) hfl).trans f3
  have e4 := (g0.cell (p := ⟨0, k * 5 + 4, none⟩) hfl).trans f4
  have HB : Hid (Below W.heap.size W ((W.alloc (.cells #[.int .i64 (k : Int), .int .i64 conn, .slice ad nd cd, .int .i64 brk, .slice ak nk ck] 40)).alloc (.cells #[.string x, .bool bc, .bool bd, .bool bb, .bool bk] 87))) := g0.alloc (by simp) _
  clear f0 f1 f2 f3 f4 T g0
  have C1 := hide (fun X => checkNumber_yes X conn bc h1)
  have C2 := hide (fun X => checkNumber_yes X brk bb h2)
  obtain ⟨h4, rfl, rfl⟩ := h4
  have j4 : (0 : Int) < (nk : Int) := by omega
  unfold pan
  rcases h3 with h3 | h3
  · subst h3
    go_enter Tryd.func28, Tryd.ntmps28
    go_wp2_with fail
    refine (C1.out _).mono ?_
    rintro e w2 ⟨rfl, hw2⟩
    obtain rfl := hw2.symm
    go_wp2_with fail
    refine (C2.out _).mono ?_
    rintro e w2 ⟨rfl, hw2⟩
    obtain rfl := hw2.symm
    go_wp2_with fail
    exact ⟨rfl, rfl, HB.out⟩
  · subst h3
    by_cases j3 : (0 : Int) < (nd : Int)
    · skip
      go_enter Tryd.func28, Tryd.ntmps28
      go_wp2_with fail
      refine (C1.out _).mono ?_
      rintro e w2 ⟨rfl, hw2⟩
      obtain rfl := hw2.symm
      go_wp2_with fail
      refine (C2.out _).mono ?_
      rintro e w2 ⟨rfl, hw2⟩
      obtain rfl := hw2.symm
      go_wp2_with fail
      exact ⟨rfl, rfl, HB.out⟩
    · skip
      go_enter Tryd.func28, Tryd.ntmps28
      go_wp2_with fail
      refine (C1.out _).mono ?_
      rintro e w2 ⟨rfl, hw2⟩
      obtain rfl := hw2.symm
      go_wp2_with fail
      refine (C2.out _).mono ?_
      rintro e w2 ⟨rfl, hw2⟩
      obtain rfl := hw2.symm
      go_wp2_with fail
      exact ⟨rfl, rfl, HB.out⟩
set_option maxHeartbeats 2000000 in
set_option maxRecDepth 1000000 in
theorem check_A0 (W : World) (k : Nat) (conn brk : Int) (ad ak : Option Addr) (nd cd ck : Nat) (bc bd bb bk : Bool) (hk : 1 ≤ k ∧ k ≤ 7) (T : Tabs W) (hf : FormAt W k bc bd bb bk) (h1 : numOkB conn bc = true) (h2 : numOkB brk bb = true) (h3 : nd = 0) :
    Calls Tryd.prog 28 #[.agg #[.int .i64 (k : Int), .int .i64 conn, .slice ad nd cd, .int .i64 brk, .slice ak 0 ck]] W fun e w' => e = .returned (.tuple #[]) ∧ Below W.heap.size W w' := by
  subst h3
  obtain ⟨x, f0, f1, f2, f3, f4⟩ := hf
  have hfl := T.lt.1
  have i0 : ¬ (k : Int) < 1 := by omega
  have i1 : (0 : Int) ≤ (k : Int) := by omega
  have i2 : (k : Int) < 8 := by omega
  have i3 : ¬ 7 < (k : Int) := by omega
  have g0 : Below W.heap.size W (W.alloc (.cells #[.int .i64 (k : Int), .int .i64 conn, .slice ad 0 cd, .int .i64 brk, .slice ak 0 ck] 40)) := (Below.refl _ W).alloc (Nat.le_refl _) _
  have e0 := (g0.cell (p := ⟨0, k * 5, none⟩) hfl).trans f0
  have e1 := (g0.cell (p := ⟨0, k * 5 + 1, none⟩) hfl).trans f1
  have e2 := (g0.cell (p := ⟨0, k * 5 + 2, none⟩) hfl).trans f2
  have e3 := (g0.cell (p := ⟨0, k * 5 + 3, none⟩) hfl).trans f3
  have e4 := (g0.cell (p := ⟨0, k * 5 + 4, none⟩) hfl).trans f4
  have HB : Hid (Below W.heap.size W ((W.alloc (.cells #[.int .i64 (k : Int), .int .i64 conn, .slice ad 0 cd, .int .i64 brk, .slice ak 0 ck] 40)).alloc (.cells #[.string x, .bool bc, .bool bd, .bool bb, .bool bk] 87))) := g0.alloc (by simp) _
  clear f0 f1 f2 f3 f4 T g0
  have C1 := hide (fun X => checkNumber_yes X conn bc h1)
  have C2 := hide (fun X => checkNumber_yes X brk bb h2)
  go_enter Tryd.func28, Tryd.ntmps28
  go_wp2_with fail
  refine (C1.out _).mono ?_
  rintro e w2 ⟨rfl, hw2⟩
  obtain rfl := hw2.symm
  go_wp2_with fail
  refine (C2.out _).mono ?_
  rintro e w2 ⟨rfl, hw2⟩
  obtain rfl := hw2.symm
  go_wp2_with fail
  clear e0 e1 e2 e3 e4
  go_loopg [56] 0 (fun gk i wr => i = .int .i64 0 ∧ Hid (Below W.heap.size W wr))
  case atStart => exact ⟨rfl, HB⟩
  case round =>
    obtain ⟨rfl, HBr⟩ := hrel
    go_wp2_with fail
    go_end0
    exact ⟨rfl, HBr.out⟩
set_option maxHeartbeats 2000000 in
set_option maxRecDepth 1000000 in
theorem check_A1 (E : Ending) (W : World) (k : Nat) (conn brk : Int) (ad ak : Option Addr) (nd cd ck : Nat) (ks : List Int) (bc bd bb bk : Bool) (hk : 1 ≤ k ∧ k ≤ 7) (T : Tabs W) (hf : FormAt W k bc bd bb bk) (h1 : numOkB conn bc = true) (h2 : numOkB brk bb = true) (h3 : nd = 0) (h4 : IsInts W ak ck ks) (hne : ks ≠ []) (hbk : bk = true) (hE : (ks.all (numOkB · true) = true → E = .returned (.tuple #[])) ∧ (ks.all (numOkB · true) = false → E = pan 192)) :
    Calls Tryd.prog 28 #[.agg #[.int .i64 (k : Int), .int .i64 conn, .slice ad nd cd, .int .i64 brk, .slice ak ks.length ck]] W fun e w' => e = E ∧ Below W.heap.size W w' := by
  have hnk : 0 < ks.length := List.length_pos_iff.2 hne
  obtain ⟨_, hml, h4⟩ := h4
  unfold maxLen at hml
  rcases h4 with h4 | ⟨bq, oq, rfl, hbq, hcq⟩
  · exact absurd h4 hne
  have HI := hide (And.intro hbq hcq)
  unfold pan at hE
  have HE := hide hE
  clear hbq hcq hE
  subst h3
  obtain ⟨x, f0, f1, f2, f3, f4⟩ := hf
  have hfl := T.lt.1
  have i0 : ¬ (k : Int) < 1 := by omega
  have i1 : (0 : Int) ≤ (k : Int) := by omega
  have i2 : (k : Int) < 8 := by omega
  have i3 : ¬ 7 < (k : Int) := by omega
  have g0 : Below W.heap.size W (W.alloc (.cells #[.int .i64 (k : Int), .int .i64 conn, .slice ad 0 cd, .int .i64 brk, .slice (some ⟨bq, oq, none⟩) ks.length ck] 40)) := (Below.refl _ W).alloc (Nat.le_refl _) _
  have e0 := (g0.cell (p := ⟨0, k * 5, none⟩) hfl).trans f0
  have e1 := (g0.cell (p := ⟨0, k * 5 + 1, none⟩) hfl).trans f1
  have e2 := (g0.cell (p := ⟨0, k * 5 + 2, none⟩) hfl).trans f2
  have e3 := (g0.cell (p := ⟨0, k * 5 + 3, none⟩) hfl).trans f3
  have e4 := (g0.cell (p := ⟨0, k * 5 + 4, none⟩) hfl).trans f4
  have HB : Hid (Below W.heap.size W ((W.alloc (.cells #[.int .i64 (k : Int), .int .i64 conn, .slice ad 0 cd, .int .i64 brk, .slice (some ⟨bq, oq, none⟩) ks.length ck] 40)).alloc (.cells #[.string x, .bool bc, .bool bd, .bool bb, .bool bk] 87))) := g0.alloc (by simp) _
  clear f0 f1 f2 f3 f4 T g0
  have C1 := hide (fun X => checkNumber_yes X conn bc h1)
  have C2 := hide (fun X => checkNumber_yes X brk bb h2)
  subst hbk
  have j4 : (0 : Int) < (ks.length : Int) := by omega
  go_enter Tryd.func28, Tryd.ntmps28
  go_wp2_with fail
  refine (C1.out _).mono ?_
  rintro e w2 ⟨rfl, hw2⟩
  obtain rfl := hw2.symm
  go_wp2_with fail
  refine (C2.out _).mono ?_
  rintro e w2 ⟨rfl, hw2⟩
  obtain rfl := hw2.symm
  go_wp2_with fail
  clear e0 e1 e2 e3 e4
  go_loopg [56] ks.length (fun gk i wr => ∃ j : Nat, i = .int .i64 (j : Int) ∧ ks.length - j ≤ gk ∧ j ≤ ks.length ∧ Hid (Below W.heap.size W wr) ∧ Hid ((ks.take j).all (numOkB · true) = true))
  case atStart => exact ⟨0, rfl, by omega, by omega, HB, by show _ = _; simp⟩
  case round =>
    obtain ⟨j, rfl, hgk, hj, HBr, HA⟩ := hrel
    by_cases hlt : j < ks.length
    · have tlt : (j : Int) < (ks.length : Int) := by omega
      obtain ⟨y, hy⟩ : ∃ y, ks[j]? = some y := ⟨_, List.getElem?_eq_getElem hlt⟩
      have cy : wr.cell? ⟨bq, oq + j, none⟩ = some (.int .i64 y) := (HBr.out.cell (p := ⟨bq, oq + j, none⟩) HI.out.1).trans (HI.out.2 j y hy)
      cases hyb : numOkB y true
      · have C3 := hide (checkNumber_no wr y true hyb)
        unfold pan at C3
        have HF : Hid (ks.all (numOkB · true) = false) := by
          show _ = _
          rw [List.all_eq_false]
          exact ⟨y, List.mem_of_getElem? hy, by simp [hyb]⟩
        clear hy
        go_wp2_with fail
        refine C3.out.mono ?_
        rintro e w2 ⟨rfl, hw2⟩
        obtain rfl := hw2.symm
        go_wp2_with fail
        exact ⟨rfl, (HE.out.2 HF.out).symm, HBr.out⟩
      · have C3 := hide (checkNumber_yes wr y true hyb)
        have HA2 : Hid ((ks.take (j + 1)).all (numOkB · true) = true) := by
          show _ = _
          rw [List.take_add_one, hy, List.all_append, HA.out]
          simp [hyb]
        clear hy
        go_wp2_with fail
        refine C3.out.mono ?_
        rintro e w2 ⟨rfl, hw2⟩
        obtain rfl := hw2.symm
        go_wp2_with fail
        go_roundg (ks.length - (j + 1))
        case measure => omega
        case rel => exact ⟨j + 1, by go_num, Nat.le_refl _, hlt, HBr, HA2⟩
    · have tlt : ¬ (j : Int) < (ks.length : Int) := by omega
      have HA2 : Hid (ks.all (numOkB · true) = true) := by
        have := HA.out
        rw [List.take_of_length_le (by omega)] at this
        exact this
      go_wp2_with fail
      go_end0
      exact ⟨(HE.out.1 HA2.out).symm, HBr.out⟩
set_option maxHeartbeats 2000000 in
set_option maxRecDepth 1000000 in
theorem check_A2 (E : Ending) (W : World) (k : Nat) (conn brk : Int) (ad ak : Option Addr) (nd cd ck : Nat) (ks : List Int) (bc bd bb bk : Bool) (hk : 1 ≤ k ∧ k ≤ 7) (T : Tabs W) (hf : FormAt W k bc bd bb bk) (h1 : numOkB conn bc = true) (h2 : numOkB brk bb = true) (h3 : nd = 0) (h4 : IsInts W ak ck ks) (hne : ks ≠ []) (hbk : bk = false) (hbr : brk ≠ 0) (hE : (ks.all (numOkB · true) = true → E = .returned (.tuple #[])) ∧ (ks.all (numOkB · true) = false → E = pan 192)) :
    Calls Tryd.prog 28 #[.agg #[.int .i64 (k : Int), .int .i64 conn, .slice ad nd cd, .int .i64 brk, .slice ak ks.length ck]] W fun e w' => e = E ∧ Below W.heap.size W w' := by
  have hnk : 0 < ks.length := List.length_pos_iff.2 hne
  obtain ⟨_, hml, h4⟩ := h4
  unfold maxLen at hml
  rcases h4 with h4 | ⟨bq, oq, rfl, hbq, hcq⟩
  · exact absurd h4 hne
  have HI := hide (And.intro hbq hcq)
  unfold pan at hE
  have HE := hide hE
  clear hbq hcq hE
  subst h3
  obtain ⟨x, f0, f1, f2, f3, f4⟩ := hf
  have hfl := T.lt.1
  have i0 : ¬ (k : Int) < 1 := by omega
  have i1 : (0 : Int) ≤ (k : Int) := by omega
  have i2 : (k : Int) < 8 := by omega
  have i3 : ¬ 7 < (k : Int) := by omega
  have g0 : Below W.heap.size W (W.alloc (.cells #[.int .i64 (k : Int), .int .i64 conn, .slice ad 0 cd, .int .i64 brk, .slice (some ⟨bq, oq, none⟩) ks.length ck] 40)) := (Below.refl _ W).alloc (Nat.le_refl _) _
  have e0 := (g0.cell (p := ⟨0, k * 5, none⟩) hfl).trans f0
  have e1 := (g0.cell (p := ⟨0, k * 5 + 1, none⟩) hfl).trans f1
  have e2 := (g0.cell (p := ⟨0, k * 5 + 2, none⟩) hfl).trans f2
  have e3 := (g0.cell (p := ⟨0, k * 5 + 3, none⟩) hfl).trans f3
  have e4 := (g0.cell (p := ⟨0, k * 5 + 4, none⟩) hfl).trans f4
  have HB : Hid (Below W.heap.size W ((W.alloc (.cells #[.int .i64 (k : Int), .int .i64 conn, .slice ad 0 cd, .int .i64 brk, .slice (some ⟨bq, oq, none⟩) ks.length ck] 40)).alloc (.cells #[.string x, .bool bc, .bool bd, .bool bb, .bool bk] 87))) := g0.alloc (by simp) _
  clear f0 f1 f2 f3 f4 T g0
  have C1 := hide (fun X => checkNumber_yes X conn bc h1)
  have C2 := hide (fun X => checkNumber_yes X brk bb h2)
  subst hbk
  have j4 : (0 : Int) < (ks.length : Int) := by omega
  have j5 : (brk == 0) = false := by simpa using hbr
  go_enter Tryd.func28, Tryd.ntmps28
  go_wp2_with fail
  refine (C1.out _).mono ?_
  rintro e w2 ⟨rfl, hw2⟩
  obtain rfl := hw2.symm
  go_wp2_with fail
  refine (C2.out _).mono ?_
  rintro e w2 ⟨rfl, hw2⟩
  obtain rfl := hw2.symm
  go_wp2_with fail
  clear e0 e1 e2 e3 e4
  go_loopg [56] ks.length (fun gk i wr => ∃ j : Nat, i = .int .i64 (j : Int) ∧ ks.length - j ≤ gk ∧ j ≤ ks.length ∧ Hid (Below W.heap.size W wr) ∧ Hid ((ks.take j).all (numOkB · true) = true))
  case atStart => exact ⟨0, rfl, by omega, by omega, HB, by show _ = _; simp⟩
  case round =>
    obtain ⟨j, rfl, hgk, hj, HBr, HA⟩ := hrel
    by_cases hlt : j < ks.length
    · have tlt : (j : Int) < (ks.length : Int) := by omega
      obtain ⟨y, hy⟩ : ∃ y, ks[j]? = some y := ⟨_, List.getElem?_eq_getElem hlt⟩
      have cy : wr.cell? ⟨bq, oq + j, none⟩ = some (.int .i64 y) := (HBr.out.cell (p := ⟨bq, oq + j, none⟩) HI.out.1).trans (HI.out.2 j y hy)
      cases hyb : numOkB y true
      · have C3 := hide (checkNumber_no wr y true hyb)
        unfold pan at C3
        have HF : Hid (ks.all (numOkB · true) = false) := by
          show _ = _
          rw [List.all_eq_false]
          exact ⟨y, List.mem_of_getElem? hy, by simp [hyb]⟩
        clear hy
        go_wp2_with fail
        refine C3.out.mono ?_
        rintro e w2 ⟨rfl, hw2⟩
        obtain rfl := hw2.symm
        go_wp2_with fail
        exact ⟨rfl, (HE.out.2 HF.out).symm, HBr.out⟩
      · have C3 := hide (checkNumber_yes wr y true hyb)
        have HA2 : Hid ((ks.take (j + 1)).all (numOkB · true) = true) := by
          show _ = _
          rw [List.take_add_one, hy, List.all_append, HA.out]
          simp [hyb]
        clear hy
        go_wp2_with fail
        refine C3.out.mono ?_
        rintro e w2 ⟨rfl, hw2⟩
        obtain rfl := hw2.symm
        go_wp2_with fail
        go_roundg (ks.length - (j + 1))
        case measure => omega
        case rel => exact ⟨j + 1, by go_num, Nat.le_refl _, hlt, HBr, HA2⟩
    · have tlt : ¬ (j : Int) < (ks.length : Int) := by omega
      have HA2 : Hid (ks.all (numOkB · true) = true) := by
        have := HA.out
        rw [List.take_of_length_le (by omega)] at this
        exact this
      go_wp2_with fail
      go_end0
      exact ⟨(HE.out.1 HA2.out).symm, HBr.out⟩
set_option maxHeartbeats 2000000 in
set_option maxRecDepth 1000000 in
theorem check_B0 (W : World) (k : Nat) (conn brk : Int) (ad ak : Option Addr) (nd cd ck : Nat) (bc bd bb bk : Bool) (hk : 1 ≤ k ∧ k ≤ 7) (T : Tabs W) (hf : FormAt W k bc bd bb bk) (h1 : numOkB conn bc = true) (h2 : numOkB brk bb = true) (h3 : 0 < nd) (hbd : bd = true) :
    Calls Tryd.prog 28 #[.agg #[.int .i64 (k : Int), .int .i64 conn, .slice ad nd cd, .int .i64 brk, .slice ak 0 ck]] W fun e w' => e = .returned (.tuple #[]) ∧ Below W.heap.size W w' := by
  obtain ⟨x, f0, f1, f2, f3, f4⟩ := hf
  have hfl := T.lt.1
  have i0 : ¬ (k : Int) < 1 := by omega
  have i1 : (0 : Int) ≤ (k : Int) := by omega
  have i2 : (k : Int) < 8 := by omega
  have i3 : ¬ 7 < (k : Int) := by omega
  have g0 : Below W.heap.size W (W.alloc (.cells #[.int .i64 (k : Int), .int .i64 conn, .slice ad nd cd, .int .i64 brk, .slice ak 0 ck] 40)) := (Below.refl _ W).alloc (Nat.le_refl _) _
  have e0 := (g0.cell (p := ⟨0, k * 5, none⟩) hfl).trans f0
  have e1 := (g0.cell (p := ⟨0, k * 5 + 1, none⟩) hfl).trans f1
  have e2 := (g0.cell (p := ⟨0, k * 5 + 2, none⟩) hfl).trans f2
  have e3 := (g0.cell (p := ⟨0, k * 5 + 3, none⟩) hfl).trans f3
  have e4 := (g0.cell (p := ⟨0, k * 5 + 4, none⟩) hfl).trans f4
  have HB : Hid (Below W.heap.size W ((W.alloc (.cells #[.int .i64 (k : Int), .int .i64 conn, .slice ad nd cd, .int .i64 brk, .slice ak 0 ck] 40)).alloc (.cells #[.string x, .bool bc, .bool bd, .bool bb, .bool bk] 87))) := g0.alloc (by simp) _
  clear f0 f1 f2 f3 f4 T g0
  have C1 := hide (fun X => checkNumber_yes X conn bc h1)
  have C2 := hide (fun X => checkNumber_yes X brk bb h2)
  subst hbd
  have j3 : (0 : Int) < (nd : Int) := by omega
  go_enter Tryd.func28, Tryd.ntmps28
  go_wp2_with fail
  refine (C1.out _).mono ?_
  rintro e w2 ⟨rfl, hw2⟩
  obtain rfl := hw2.symm
  go_wp2_with fail
  refine (C2.out _).mono ?_
  rintro e w2 ⟨rfl, hw2⟩
  obtain rfl := hw2.symm
  go_wp2_with fail
  clear e0 e1 e2 e3 e4
  go_loopg [56] 0 (fun gk i wr => i = .int .i64 0 ∧ Hid (Below W.heap.size W wr))
  case atStart => exact ⟨rfl, HB⟩
  case round =>
    obtain ⟨rfl, HBr⟩ := hrel
    go_wp2_with fail
    go_end0
    exact ⟨rfl, HBr.out⟩
set_option maxHeartbeats 2000000 in
set_option maxRecDepth 1000000 in
theorem check_B1 (E : Ending) (W : World) (k : Nat) (conn brk : Int) (ad ak : Option Addr) (nd cd ck : Nat) (ks : List Int) (bc bd bb bk : Bool) (hk : 1 ≤ k ∧ k ≤ 7) (T : Tabs W) (hf : FormAt W k bc bd bb bk) (h1 : numOkB conn bc = true) (h2 : numOkB brk bb = true) (h3 : 0 < nd) (hbd : bd = true) (h4 : IsInts W ak ck ks) (hne : ks ≠ []) (hbk : bk = true) (hE : (ks.all (numOkB · true) = true → E = .returned (.tuple #[])) ∧ (ks.all (numOkB · true) = false → E = pan 192)) :
    Calls Tryd.prog 28 #[.agg #[.int .i64 (k : Int), .int .i64 conn, .slice ad nd cd, .int .i64 brk, .slice ak ks.length ck]] W fun e w' => e = E ∧ Below W.heap.size W w' := by
  have hnk : 0 < ks.length := List.length_pos_iff.2 hne
  obtain ⟨_, hml, h4⟩ := h4
  unfold maxLen at hml
  rcases h4 with h4 | ⟨bq, oq, rfl, hbq, hcq⟩
  · exact absurd h4 hne
  have HI := hide (And.intro hbq hcq)
  unfold pan at hE
  have HE := hide hE
  clear hbq hcq hE
  obtain ⟨x, f0, f1, f2, f3, f4⟩ := hf
  have hfl := T.lt.1
  have i0 : ¬ (k : Int) < 1 := by omega
  have i1 : (0 : Int) ≤ (k : Int) := by omega
  have i2 : (k : Int) < 8 := by omega
  have i3 : ¬ 7 < (k : Int) := by omega
  have g0 : Below W.heap.size W (W.alloc (.cells #[.int .i64 (k : Int), .int .i64 conn, .slice ad nd cd, .int .i64 brk, .slice (some ⟨bq, oq, none⟩) ks.length ck] 40)) := (Below.refl _ W).alloc (Nat.le_refl _) _
  have e0 := (g0.cell (p := ⟨0, k * 5, none⟩) hfl).trans f0
  have e1 := (g0.cell (p := ⟨0, k * 5 + 1, none⟩) hfl).trans f1
  have e2 := (g0.cell (p := ⟨0, k * 5 + 2, none⟩) hfl).trans f2
  have e3 := (g0.cell (p := ⟨0, k * 5 + 3, none⟩) hfl).trans f3
  have e4 := (g0.cell (p := ⟨0, k * 5 + 4, none⟩) hfl).trans f4
  have HB : Hid (Below W.heap.size W ((W.alloc (.cells #[.int .i64 (k : Int), .int .i64 conn, .slice ad nd cd, .int .i64 brk, .slice (some ⟨bq, oq, none⟩) ks.length ck] 40)).alloc (.cells #[.string x, .bool bc, .bool bd, .bool bb, .bool bk] 87))) := g0.alloc (by simp) _
  clear f0 f1 f2 f3 f4 T g0
  have C1 := hide (fun X => checkNumber_yes X conn bc h1)
  have C2 := hide (fun X => checkNumber_yes X brk bb h2)
  subst hbd
  have j3 : (0 : Int) < (nd : Int) := by omega
  subst hbk
  have j4 : (0 : Int) < (ks.length : Int) := by omega
  go_enter Tryd.func28, Tryd.ntmps28
  go_wp2_with fail
  refine (C1.out _).mono ?_
  rintro e w2 ⟨rfl, hw2⟩
  obtain rfl := hw2.symm
  go_wp2_with fail
  refine (C2.out _).mono ?_
  rintro e w2 ⟨rfl, hw2⟩
  obtain rfl := hw2.symm
  go_wp2_with fail
  clear e0 e1 e2 e3 e4
  go_loopg [56] ks.length (fun gk i wr => ∃ j : Nat, i = .int .i64 (j : Int) ∧ ks.length - j ≤ gk ∧ j ≤ ks.length ∧ Hid (Below W.heap.size W wr) ∧ Hid ((ks.take j).all (numOkB · true) = true))
  case atStart => exact ⟨0, rfl, by omega, by omega, HB, by show _ = _; simp⟩
  case round =>
    obtain ⟨j, rfl, hgk, hj, HBr, HA⟩ := hrel
    by_cases hlt : j < ks.length
    · have tlt : (j : Int) < (ks.length : Int) := by omega
      obtain ⟨y, hy⟩ : ∃ y, ks[j]? = some y := ⟨_, List.getElem?_eq_getElem hlt⟩
      have cy : wr.cell? ⟨bq, oq + j, none⟩ = some (.int .i64 y) := (HBr.out.cell (p := ⟨bq, oq + j, none⟩) HI.out.1).trans (HI.out.2 j y hy)
      cases hyb : numOkB y true
      · have C3 := hide (checkNumber_no wr y true hyb)
        unfold pan at C3
        have HF : Hid (ks.all (numOkB · true) = false) := by
          show _ = _
          rw [List.all_eq_false]
          exact ⟨y, List.mem_of_getElem? hy, by simp [hyb]⟩
        clear hy
        go_wp2_with fail
        refine C3.out.mono ?_
        rintro e w2 ⟨rfl, hw2⟩
        obtain rfl := hw2.symm
        go_wp2_with fail
        exact ⟨rfl, (HE.out.2 HF.out).symm, HBr.out⟩
      · have C3 := hide (checkNumber_yes wr y true hyb)
        have HA2 : Hid ((ks.take (j + 1)).all (numOkB · true) = true) := by
          show _ = _
          rw [List.take_add_one, hy, List.all_append, HA.out]
          simp [hyb]
        clear hy
        go_wp2_with fail
        refine C3.out.mono ?_
        rintro e w2 ⟨rfl, hw2⟩
        obtain rfl := hw2.symm
        go_wp2_with fail
        go_roundg (ks.length - (j + 1))
        case measure => omega
        case rel => exact ⟨j + 1, by go_num, Nat.le_refl _, hlt, HBr, HA2⟩
    · have tlt : ¬ (j : Int) < (ks.length : Int) := by omega
      have HA2 : Hid (ks.all (numOkB · true) = true) := by
        have := HA.out
        rw [List.take_of_length_le (by omega)] at this
        exact this
      go_wp2_with fail
      go_end0
      exact ⟨(HE.out.1 HA2.out).symm, HBr.out⟩
set_option maxHeartbeats 2000000 in
set_option maxRecDepth 1000000 in
theorem check_B2 (E : Ending) (W : World) (k : Nat) (conn brk : Int) (ad ak : Option Addr) (nd cd ck : Nat) (ks : List Int) (bc bd bb bk : Bool) (hk : 1 ≤ k ∧ k ≤ 7) (T : Tabs W) (hf : FormAt W k bc bd bb bk) (h1 : numOkB conn bc = true) (h2 : numOkB brk bb = true) (h3 : 0 < nd) (hbd : bd = true) (h4 : IsInts W ak ck ks) (hne : ks ≠ []) (hbk : bk = false) (hbr : brk ≠ 0) (hE : (ks.all (numOkB · true) = true → E = .returned (.tuple #[])) ∧ (ks.all (numOkB · true) = false → E = pan 192)) :
    Calls Tryd.prog 28 #[.agg #[.int .i64 (k : Int), .int .i64 conn, .slice ad nd cd, .int .i64 brk, .slice ak ks.length ck]] W fun e w' => e = E ∧ Below W.heap.size W w' := by
  have hnk : 0 < ks.length := List.length_pos_iff.2 hne
  obtain ⟨_, hml, h4⟩ := h4
  unfold maxLen at hml
  rcases h4 with h4 | ⟨bq, oq, rfl, hbq, hcq⟩
  · exact absurd h4 hne
  have HI := hide (And.intro hbq hcq)
  unfold pan at hE
  have HE := hide hE
  clear hbq hcq hE
  obtain ⟨x, f0, f1, f2, f3, f4⟩ := hf
  have hfl := T.lt.1
  have i0 : ¬ (k : Int) < 1 := by omega
  have i1 : (0 : Int) ≤ (k : Int) := by omega
  have i2 : (k : Int) < 8 := by omega
  have i3 : ¬ 7 < (k : Int) := by omega
  have g0 : Below W.heap.size W (W.alloc (.cells #[.int .i64 (k : Int), .int .i64 conn, .slice ad nd cd, .int .i64 brk, .slice (some ⟨bq, oq, none⟩) ks.length ck] 40)) := (Below.refl _ W).alloc (Nat.le_refl _) _
  have e0 := (g0.cell (p := ⟨0, k * 5, none⟩) hfl).trans f0
  have e1 := (g0.cell (p := ⟨0, k * 5 + 1, none⟩) hfl).trans f1
  have e2 := (g0.cell (p := ⟨0, k * 5 + 2, none⟩) hfl).trans f2
  have e3 := (g0.cell (p := ⟨0, k * 5 + 3, none⟩) hfl).trans f3
  have e4 := (g0.cell (p := ⟨0, k * 5 + 4, none⟩) hfl).trans f4
  have HB : Hid (Below W.heap.size W ((W.alloc (.cells #[.int .i64 (k : Int), .int .i64 conn, .slice ad nd cd, .int .i64 brk, .slice (some ⟨bq, oq, none⟩) ks.length ck] 40)).alloc (.cells #[.string x, .bool bc, .bool bd, .bool bb, .bool bk] 87))) := g0.alloc (by simp) _
  clear f0 f1 f2 f3 f4 T g0
  have C1 := hide (fun X => checkNumber_yes X conn bc h1)
  have C2 := hide (fun X => checkNumber_yes X brk bb h2)
  subst hbd
  have j3 : (0 : Int) < (nd : Int) := by omega
  subst hbk
  have j4 : (0 : Int) < (ks.length : Int) := by omega
  have j5 : (brk == 0) = false := by simpa using hbr
  go_enter Tryd.func28, Tryd.ntmps28
  go_wp2_with fail
  refine (C1.out _).mono ?_
  rintro e w2 ⟨rfl, hw2⟩
  obtain rfl := hw2.symm
  go_wp2_with fail
  refine (C2.out _).mono ?_
  rintro e w2 ⟨rfl, hw2⟩
  obtain rfl := hw2.symm
  go_wp2_with fail
  clear e0 e1 e2 e3 e4
  go_loopg [56] ks.length (fun gk i wr => ∃ j : Nat, i = .int .i64 (j : Int) ∧ ks.length - j ≤ gk ∧ j ≤ ks.length ∧ Hid (Below W.heap.size W wr) ∧ Hid ((ks.take j).all (numOkB · true) = true))
  case atStart => exact ⟨0, rfl, by omega, by omega, HB, by show _ = _; simp⟩
  case round =>
    obtain ⟨j, rfl, hgk, hj, HBr, HA⟩ := hrel
    by_cases hlt : j < ks.length
    · have tlt : (j : Int) < (ks.length : Int) := by omega
      obtain ⟨y, hy⟩ : ∃ y, ks[j]? = some y := ⟨_, List.getElem?_eq_getElem hlt⟩
      have cy : wr.cell? ⟨bq, oq + j, none⟩ = some (.int .i64 y) := (HBr.out.cell (p := ⟨bq, oq + j, none⟩) HI.out.1).trans (HI.out.2 j y hy)
      cases hyb : numOkB y true
      · have C3 := hide (checkNumber_no wr y true hyb)
        unfold pan at C3
        have HF : Hid (ks.all (numOkB · true) = false) := by
          show _ = _
          rw [List.all_eq_false]
          exact ⟨y, List.mem_of_getElem? hy, by simp [hyb]⟩
        clear hy
        go_wp2_with fail
        refine C3.out.mono ?_
        rintro e w2 ⟨rfl, hw2⟩
        obtain rfl := hw2.symm
        go_wp2_with fail
        exact ⟨rfl, (HE.out.2 HF.out).symm, HBr.out⟩
      · have C3 := hide (checkNumber_yes wr y true hyb)
        have HA2 : Hid ((ks.take (j + 1)).all (numOkB · true) = true) := by
          show _ = _
          rw [List.take_add_one, hy, List.all_append, HA.out]
          simp [hyb]
        clear hy
        go_wp2_with fail
        refine C3.out.mono ?_
        rintro e w2 ⟨rfl, hw2⟩
        obtain rfl := hw2.symm
        go_wp2_with fail
        go_roundg (ks.length - (j + 1))
        case measure => omega
        case rel => exact ⟨j + 1, by go_num, Nat.le_refl _, hlt, HBr, HA2⟩
    · have tlt : ¬ (j : Int) < (ks.length : Int) := by omega
      have HA2 : Hid (ks.all (numOkB · true) = true) := by
        have := HA.out
        rw [List.take_of_length_le (by omega)] at this
        exact this
      go_wp2_with fail
      go_end0
      exact ⟨(HE.out.1 HA2.out).symm, HBr.out⟩
end Go.Proofs.YteaccpolmmkclaaDoor
