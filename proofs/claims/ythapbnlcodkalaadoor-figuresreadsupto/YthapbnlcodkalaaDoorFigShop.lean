/-
  Layer 13: the program's Shop.
-/
import Derived.Test.YthapbnlcodkalaaDoorShopKit
import Derived.Test.YthapbnlcodkalaaDoorHand
import Derived.Deep.LoopGhost
namespace Go.Proofs.YthapbnlcodkalaaDoor
open Go.RowKit Go.Sort

section
variable {o : Oper} {a : Act} {w : World}
theorem run_add1 {k : Nat} {x : Operand} (ho : o.op = .binOp .add 3 x (.const (.int .i64 1)) 3) (hx : a.eval x = .int .i64 (k : Int)) (hk : k < 1000000) : (execOp a.eval o).run Tryd.prog w = .ok (.value (.int .i64 ((k + 1 : Nat) : Int))) w := by
  have e : IntKind.i64.wrap ((k : Int) + 1) = ((k + 1 : Nat) : Int) := by rw [IntKind.wrap_i64]; omega
  simp only [execOp, ho, hx]
  simp [go_sem, Act.eval]
  exact e
theorem run_index26 {k sb : Nat} {x y : Operand} (ho : o.op = .indexAddr 41 x y) (hx : a.eval x = .pointer (some ⟨sb, 7, none⟩)) (hy : a.eval y = .int .i64 ((k + 1 : Nat) : Int)) (hk : k < 24) : (execOp a.eval o).run Tryd.prog w = .ok (.value (.pointer (some ⟨sb, 8 + k, none⟩))) w := by
  have i1 : (0 : Int) ≤ ((k + 1 : Nat) : Int) := by omega
  have i2 : ((k + 1 : Nat) : Int) < 26 := by omega
  have e : 7 + (k + 1) = 8 + k := by omega
  simp only [execOp, ho, hx, hy]
  go_simp
  intro h
  exact absurd (h (by omega)) (by omega)
theorem run_cat {x : Operand} {s nm ky : ByteArray} (ho : o.op = .binOp .add 9 (.const (.string s)) x 9) (hx : a.eval x = .string nm) (hk : ky = s ++ nm) (hl : s.size + nm.size < 1000000) : (execOp a.eval o).run Tryd.prog w = .ok (.value (.string ky)) w := by
  subst hk
  simp only [execOp, ho, hx]
  go_simp
  omega
end
set_option maxHeartbeats 8000000 in
set_option maxRecDepth 1000000 in
theorem shop_any (s : Sp) (W : World) (hp : PowAt W) (hv : VTab W) (hok : s.ok) :
    Calls Tryd.prog 15 #[.agg s.cells] W fun e w' => ∃ v, e = .returned v ∧ Own w' W.heap.size v s.dict ∧ Below W.heap.size W w' := by
  obtain ⟨f, hf⟩ : ∃ f, f = s.f := ⟨_, rfl⟩
  obtain ⟨dr, hdr⟩ : ∃ dr, dr = s.dr := ⟨_, rfl⟩
  obtain ⟨C, hC⟩ : ∃ C : Array Value, C = s.cells := ⟨_, rfl⟩
  obtain ⟨W1, hW1⟩ : ∃ W1, W1 = W.alloc (.cells C 43) := ⟨_, rfl⟩
  obtain ⟨sb, hsb⟩ : ∃ sb, sb = W.heap.size := ⟨_, rfl⟩
  have B1 : Hid (Below W.heap.size W W1 ∧ W1.heap[sb]? = some (.cells C 43 (0, 0)) ∧ sb < W1.heap.size) := by
    rw [hW1, hsb]
    exact ⟨(Below.refl _ W).alloc (Nat.le_refl _) _, heap_alloc_new W _, by simp⟩
  have HP : Hid (PowAt W1) := tab_below B1.out.1 hp
  have HV : Hid (VTab W1) := hv.below (Nat.le_refl _) B1.out.1
  have HC : Hid (∀ k, k < 48 → C[k]? = some (.int .i64 (f k))) := fun k hk => by rw [hC, hf]; exact s.at k hk
  have HL : Hid (C[48]? = some (.bool dr)) := by show _ = _; rw [hC, hdr]; exact s.last
  have HN : Hid (∀ k, k < 48 → I64 (f k)) := fun k hk => by rw [hf]; exact hok k hk
  have HBD : Hid ((dictL ((shopP f dr).map un)).length < 140737488355328) := by rw [hf, hdr]; have := s.small hok; unfold Sp.pairs at this; show _ < _; omega
  obtain ⟨DD, hDD⟩ : ∃ DD, DD = s.dict := ⟨_, rfl⟩
  have HDD : Hid (DD = if dictE ((shopP f dr).map un) = 0 then dictL ((shopP f dr).map un) else []) := by rw [hDD, hf, hdr]; rfl
  rw [← hDD]
  have HW1 := hide (And.intro hW1 hsb)
  rw [← hC]
  clear hC hW1 hsb hp hok hDD hf hdr hv
  go_enter Tryd.func15, Tryd.ntmps15
  go_upto_region 1 with fail
  rw [← HW1.out.1, ← HW1.out.2]
  clear HW1
  go_wp2_with fail
  refine (sheet_any W1).mono ?_
  rintro e W2 ⟨rfl, s2⟩
  obtain ⟨pb, hpb⟩ : ∃ pb, pb = W1.heap.size + 1 := ⟨_, rfl⟩
  obtain ⟨tb, htb⟩ : ∃ tb, tb = W1.heap.size := ⟨_, rfl⟩
  rw [← hpb, ← htb] at s2 ⊢
  have S0 := hide s2
  clear s2 hpb htb
  have x0 : W2.cell? ⟨sb, 2, none⟩ = some (.int .i64 (f 2)) := by
    rw [cell_of_row W2 sb 2 C _ (0, 0) ((S0.out.below.block sb B1.out.2.2).trans B1.out.2.1)]
    exact HC.out 2 (by decide)
  have x1 : W2.cell? ⟨sb, 3, none⟩ = some (.int .i64 (f 3)) := by
    rw [cell_of_row W2 sb 3 C _ (0, 0) ((S0.out.below.block sb B1.out.2.2).trans B1.out.2.1)]
    exact HC.out 3 (by decide)
  have x2 : W2.cell? ⟨sb, 4, none⟩ = some (.int .i64 (f 4)) := by
    rw [cell_of_row W2 sb 4 C _ (0, 0) ((S0.out.below.block sb B1.out.2.2).trans B1.out.2.1)]
    exact HC.out 4 (by decide)
  have x3 : W2.cell? ⟨sb, 5, none⟩ = some (.int .i64 (f 5)) := by
    rw [cell_of_row W2 sb 5 C _ (0, 0) ((S0.out.below.block sb B1.out.2.2).trans B1.out.2.1)]
    exact HC.out 5 (by decide)
  have x4 : W2.cell? ⟨sb, 6, none⟩ = some (.int .i64 (f 6)) := by
    rw [cell_of_row W2 sb 6 C _ (0, 0) ((S0.out.below.block sb B1.out.2.2).trans B1.out.2.1)]
    exact HC.out 6 (by decide)
  go_wp2_with fail
  refine (laySums_any W1 W2 pb tb tb _ [] (f 2) (f 3) (f 4) (f 5) (f 6) S0.out (by simp) HP.out (HN.out 2 (by decide)) (HN.out 3 (by decide)) (HN.out 4 (by decide)) (HN.out 5 (by decide)) (HN.out 6 (by decide))).mono ?_
  rintro e W3 ⟨rfl, s1⟩
  rw [List.nil_append] at s1
  have S1 := hide s1
  clear s1 x0 x1 x2 x3 x4 S0
  go_upto_region 4 with fail
  go_loopg [16] 24 (fun gk i wr => ∃ k : Nat, i = .int .i64 k ∧ k ≤ 24 ∧ 24 - k ≤ gk ∧ Hid (Sh W1 pb tb tb (.cells #[.func (.func 39) #[] #[.pointer (some ⟨pb, 0, none⟩)]] 60) (headP f ++ cmdsP f k) wr))
  case atStart => exact ⟨0, rfl, Nat.zero_le _, Nat.le_refl _, by show Sh _ _ _ _ _ (headP f ++ []) _; rw [List.append_nil]; exact S1.out⟩
  case round =>
    clear S1
    obtain ⟨k, rfl, hk, hgk, SK⟩ := hrel
    by_cases hlt : k < 24
    · have i0 : (k : Int) < 24 := by omega
      go_upto_region 6 with fail
      have s6 : wr.drew.heap[sb]? = some (.cells C 43 (0, 0)) := (SK.out.below.block sb B1.out.2.2).trans B1.out.2.1
      refine wp_region_held_drew (S := fun X => X.heap[sb]? = some (.cells C 43 (0, 0))) (by kernel_rfl) s6 (fun _ => ?_)
      have S6 := hide (SK.out.later (Below.refl _ wr).drew)
      obtain ⟨x6, hx6⟩ : ∃ x6, x6 = wr.drew := ⟨_, rfl⟩
      rw [← hx6] at s6 S6 ⊢
      clear hx6 SK
      have i1 : (0 : Int) ≤ ((k + 1 : Nat) : Int) := by omega
      have i2 : ((k + 1 : Nat) : Int) < 26 := by omega
      have HV6 := hide (HV.out.below (Nat.le_refl _) S6.out.below)
      obtain ⟨nm, hnm⟩ : ∃ nm : ByteArray, nm = ⟨(verbOf (k + 1)).toArray⟩ := ⟨_, rfl⟩
      have CN : Hid (∀ W, VTab W → Calls Tryd.prog 32 #[.int .i64 ((k + 1 : Nat) : Int)] W fun e w' => e = .returned (.string nm) ∧ w' = W) := fun W hW => by rw [hnm]; exact name_any (k + 1) (by omega) W hW
      have hnl : nm.size ≤ 30 := by rw [hnm]; have := verb_len (k + 1) (by omega); simpa [ByteArray.size] using this
      obtain ⟨ky, hky⟩ : ∃ ky : ByteArray, ky = cmdK (k + 1) := ⟨_, rfl⟩
      have HKY : Hid (ky = (⟨#[99, 109, 100, 45]⟩ : ByteArray) ++ nm) := by rw [hky, hnm]; rfl
      have HKE := hide hky
      clear hnm hky
      refine H_take (i := 0) (v := .func (.func 40) #[] #[.pointer (some ⟨tb, 0, none⟩)]) (some 19) rfl rfl (by kernel_rfl) (by kernel_rfl) (by kernel_rfl) (fun _ _ _ h => h) rfl (fun X hX => ?_) s6 ?_
      · simp [go_sem]
      simp only [Act.put, List.setIfInBounds_toArray, List.set_cons_zero, List.set_cons_succ]
      refine H_take (i := 1) (v := .int .i64 (k : Int)) (some 20) rfl rfl (by kernel_rfl) (by kernel_rfl) (by kernel_rfl) (fun _ _ _ h => h) rfl (fun X hX => ?_) s6 ?_
      · simp [go_sem]
      simp only [Act.put, List.setIfInBounds_toArray, List.set_cons_zero, List.set_cons_succ]
      refine H_take (i := 2) (v := .int .i64 ((k + 1 : Nat) : Int)) (some 21) rfl rfl (by kernel_rfl) (by kernel_rfl) (by kernel_rfl) (fun _ _ _ h => h) rfl (fun X hX => ?_) s6 ?_
      · exact run_add1 rfl rfl (by omega)
      simp only [Act.put, List.setIfInBounds_toArray, List.set_cons_zero, List.set_cons_succ]
      refine H_take (i := 5) (v := .int .i64 (k : Int)) (some 24) rfl rfl (by kernel_rfl) (by kernel_rfl) (by kernel_rfl) (fun _ _ _ h => h) rfl (fun X hX => ?_) s6 ?_
      · simp [go_sem]
      simp only [Act.put, List.setIfInBounds_toArray, List.set_cons_zero, List.set_cons_succ]
      refine H_take (i := 6) (v := .int .i64 ((k + 1 : Nat) : Int)) (some 25) rfl rfl (by kernel_rfl) (by kernel_rfl) (by kernel_rfl) (fun _ _ _ h => h) rfl (fun X hX => ?_) s6 ?_
      · exact run_add1 rfl rfl (by omega)
      simp only [Act.put, List.setIfInBounds_toArray, List.set_cons_zero, List.set_cons_succ]
      refine H_take (i := 7) (v := .pointer (some ⟨sb, 7, none⟩)) (some 26) rfl rfl (by kernel_rfl) (by kernel_rfl) (by kernel_rfl) (fun _ _ _ h => h) rfl (fun X hX => ?_) s6 ?_
      · simp [go_sem]
      simp only [Act.put, List.setIfInBounds_toArray, List.set_cons_zero, List.set_cons_succ]
      refine H_take (i := 8) (v := .pointer (some ⟨sb, 8 + k, none⟩)) (some 27) rfl rfl (by kernel_rfl) (by kernel_rfl) (by kernel_rfl) (fun _ _ _ h => h) rfl (fun X hX => ?_) s6 ?_
      · exact run_index26 rfl rfl rfl (by omega)
      simp only [Act.put, List.setIfInBounds_toArray, List.set_cons_zero, List.set_cons_succ]
      refine H_take (i := 9) (v := .int .i64 (f (8 + k))) (some 28) rfl rfl (by kernel_rfl) (by kernel_rfl) (by kernel_rfl) (fun _ _ _ h => h) rfl (fun X hX => ?_) s6 ?_
      · exact run_load1 rfl rfl Tryd.isAgg3 ((cell_of_row X sb (8 + k) C _ (0, 0) hX).trans (HC.out (8 + k) (by omega)))
      simp only [Act.put, List.setIfInBounds_toArray, List.set_cons_zero, List.set_cons_succ]
      refine H_call (i := 3) (f := 32) (args := #[.int .i64 ((k + 1 : Nat) : Int)]) (some 22) rfl rfl (by kernel_rfl) rfl (by simp [go_sem]) ((CN.out x6 HV6.out).mono ?_)
      rintro e w2 ⟨rfl, hw2⟩
      obtain rfl := hw2.symm
      refine ⟨_, rfl, s6, ?_⟩
      simp only [Act.put, List.setIfInBounds_toArray, List.set_cons_zero, List.set_cons_succ]
      refine H_take (i := 4) (v := .string ky) (some 23) rfl rfl (by kernel_rfl) (by kernel_rfl) (by kernel_rfl) (fun _ _ _ h => h) rfl (fun X hX => ?_) s6 ?_
      · exact run_cat rfl rfl HKY.out (by have : (⟨#[99, 109, 100, 45]⟩ : ByteArray).size = 4 := rfl; omega)
      simp only [Act.put, List.setIfInBounds_toArray, List.set_cons_zero, List.set_cons_succ]
      have hc := number_any W1 x6 pb tb tb _ _ ky (f (8 + k)) S6.out (by simp [headP, sumsP, cmds_len]; omega) (HN.out (8 + k) (by omega)) (tab_below S6.out.below HP.out)
      rw [show (#[Value.string ky, .int .i64 (f (8 + k))] ++ #[Value.pointer (some ⟨tb, 0, none⟩)] : Array Value) = #[.string ky, .int .i64 (f (8 + k)), .pointer (some ⟨tb, 0, none⟩)] from rfl] at hc
      refine H_call (i := 10) (f := 40) (args := #[.string ky, .int .i64 (f (8 + k)), .pointer (some ⟨tb, 0, none⟩)]) (some 29) rfl rfl (by kernel_rfl) rfl (by simp [go_sem]) (hc.mono ?_)
      clear hc
      rintro e x7 ⟨rfl, k7⟩
      have s7 : x7.heap[sb]? = some (.cells C 43 (0, 0)) := (k7.below.block sb B1.out.2.2).trans B1.out.2.1
      have S7 : Hid (Sh W1 pb tb tb (.cells #[.func (.func 39) #[] #[.pointer (some ⟨pb, 0, none⟩)]] 60) (headP f ++ cmdsP f (k + 1)) x7) := by
        show Sh _ _ _ _ _ _ _
        rw [cmds_succ, ← List.append_assoc, ← HKE.out]
        exact k7
      refine ⟨_, rfl, s7, ?_⟩
      clear k7 s6 S6 HV6
      simp only [Act.put, List.setIfInBounds_toArray, List.set_cons_zero, List.set_cons_succ]
      refine wpAnyH_done (by kernel_rfl) ?_ _
      clear s7
      go_wp2_with fail
      go_roundg (23 - k)
      case measure => omega
      case rel => exact ⟨k + 1, by go_num, by omega, by omega, S7⟩
    · obtain rfl : k = 24 := by omega
      obtain ⟨pp, hpp⟩ : ∃ pp, pp = headP f ++ cmdsP f 24 := ⟨_, rfl⟩
      rw [← hpp] at SK
      have HPP : Hid (pp = headP f ++ cmdsP f 24 ∧ pp.length = 29) := ⟨hpp, by rw [hpp]; simp [headP, sumsP, cmds_len]⟩
      clear hpp hlt
      have x0 : wr.cell? ⟨sb, 33, none⟩ = some (.int .i64 (f 33)) := by
        rw [cell_of_row wr sb 33 C _ (0, 0) ((SK.out.below.block sb B1.out.2.2).trans B1.out.2.1)]
        exact HC.out 33 (by decide)
      go_wp2_with fail
      refine (number_any W1 wr pb tb tb _ (pp) sJt (f 33) SK.out (by have := HPP.out.2; simp; omega) (HN.out 33 (by decide)) (tab_below SK.out.below HP.out)).mono ?_
      rintro e Y1 ⟨rfl, s0⟩
      have R1 := hide s0
      clear s0 x0
      have x0 : Y1.cell? ⟨sb, 34, none⟩ = some (.int .i64 (f 34)) := by
        rw [cell_of_row Y1 sb 34 C _ (0, 0) ((R1.out.below.block sb B1.out.2.2).trans B1.out.2.1)]
        exact HC.out 34 (by decide)
      go_wp2_with fail
      refine (number_any W1 Y1 pb tb tb _ (pp ++ [(sJt, prS (f 33))]) sTo (f 34) R1.out (by have := HPP.out.2; simp; omega) (HN.out 34 (by decide)) (tab_below R1.out.below HP.out)).mono ?_
      rintro e Y2 ⟨rfl, s0⟩
      have R2 := hide s0
      clear s0 x0
      have x0 : Y2.cell? ⟨sb, 41, none⟩ = some (.int .i64 (f 41)) := by
        rw [cell_of_row Y2 sb 41 C _ (0, 0) ((R2.out.below.block sb B1.out.2.2).trans B1.out.2.1)]
        exact HC.out 41 (by decide)
      go_wp2_with fail
      refine (number_any W1 Y2 pb tb tb _ (pp ++ [(sJt, prS (f 33))] ++ [(sTo, prS (f 34))]) sMj (f 41) R2.out (by have := HPP.out.2; simp; omega) (HN.out 41 (by decide)) (tab_below R2.out.below HP.out)).mono ?_
      rintro e Y3 ⟨rfl, s0⟩
      have R3 := hide s0
      clear s0 x0
      have x0 : Y3.cell? ⟨sb, 36, none⟩ = some (.int .i64 (f 36)) := by
        rw [cell_of_row Y3 sb 36 C _ (0, 0) ((R3.out.below.block sb B1.out.2.2).trans B1.out.2.1)]
        exact HC.out 36 (by decide)
      go_wp2_with fail
      refine (number_any W1 Y3 pb tb tb _ (pp ++ [(sJt, prS (f 33))] ++ [(sTo, prS (f 34))] ++ [(sMj, prS (f 41))]) sTu (f 36) R3.out (by have := HPP.out.2; simp; omega) (HN.out 36 (by decide)) (tab_below R3.out.below HP.out)).mono ?_
      rintro e Y4 ⟨rfl, s0⟩
      have R4 := hide s0
      clear s0 x0
      have x0 : Y4.cell? ⟨sb, 37, none⟩ = some (.int .i64 (f 37)) := by
        rw [cell_of_row Y4 sb 37 C _ (0, 0) ((R4.out.below.block sb B1.out.2.2).trans B1.out.2.1)]
        exact HC.out 37 (by decide)
      go_wp2_with fail
      refine (number_any W1 Y4 pb tb tb _ (pp ++ [(sJt, prS (f 33))] ++ [(sTo, prS (f 34))] ++ [(sMj, prS (f 41))] ++ [(sTu, prS (f 36))]) sCo (f 37) R4.out (by have := HPP.out.2; simp; omega) (HN.out 37 (by decide)) (tab_below R4.out.below HP.out)).mono ?_
      rintro e Y5 ⟨rfl, s0⟩
      have R5 := hide s0
      clear s0 x0
      have x0 : Y5.cell? ⟨sb, 38, none⟩ = some (.int .i64 (f 38)) := by
        rw [cell_of_row Y5 sb 38 C _ (0, 0) ((R5.out.below.block sb B1.out.2.2).trans B1.out.2.1)]
        exact HC.out 38 (by decide)
      go_wp2_with fail
      refine (number_any W1 Y5 pb tb tb _ (pp ++ [(sJt, prS (f 33))] ++ [(sTo, prS (f 34))] ++ [(sMj, prS (f 41))] ++ [(sTu, prS (f 36))] ++ [(sCo, prS (f 37))]) sPr (f 38) R5.out (by have := HPP.out.2; simp; omega) (HN.out 38 (by decide)) (tab_below R5.out.below HP.out)).mono ?_
      rintro e Y6 ⟨rfl, s0⟩
      have R6 := hide s0
      clear s0 x0
      have x0 : Y6.cell? ⟨sb, 39, none⟩ = some (.int .i64 (f 39)) := by
        rw [cell_of_row Y6 sb 39 C _ (0, 0) ((R6.out.below.block sb B1.out.2.2).trans B1.out.2.1)]
        exact HC.out 39 (by decide)
      go_wp2_with fail
      refine (number_any W1 Y6 pb tb tb _ (pp ++ [(sJt, prS (f 33))] ++ [(sTo, prS (f 34))] ++ [(sMj, prS (f 41))] ++ [(sTu, prS (f 36))] ++ [(sCo, prS (f 37))] ++ [(sPr, prS (f 38))]) sWo (f 39) R6.out (by have := HPP.out.2; simp; omega) (HN.out 39 (by decide)) (tab_below R6.out.below HP.out)).mono ?_
      rintro e Y7 ⟨rfl, s0⟩
      have R7 := hide s0
      clear s0 x0
      have x0 : Y7.cell? ⟨sb, 40, none⟩ = some (.int .i64 (f 40)) := by
        rw [cell_of_row Y7 sb 40 C _ (0, 0) ((R7.out.below.block sb B1.out.2.2).trans B1.out.2.1)]
        exact HC.out 40 (by decide)
      go_wp2_with fail
      refine (number_any W1 Y7 pb tb tb _ (pp ++ [(sJt, prS (f 33))] ++ [(sTo, prS (f 34))] ++ [(sMj, prS (f 41))] ++ [(sTu, prS (f 36))] ++ [(sCo, prS (f 37))] ++ [(sPr, prS (f 38))] ++ [(sWo, prS (f 39))]) sWa (f 40) R7.out (by have := HPP.out.2; simp; omega) (HN.out 40 (by decide)) (tab_below R7.out.below HP.out)).mono ?_
      rintro e Y8 ⟨rfl, s0⟩
      have R8 := hide s0
      clear s0 x0
      have x0 : Y8.cell? ⟨sb, 35, none⟩ = some (.int .i64 (f 35)) := by
        rw [cell_of_row Y8 sb 35 C _ (0, 0) ((R8.out.below.block sb B1.out.2.2).trans B1.out.2.1)]
        exact HC.out 35 (by decide)
      go_wp2_with fail
      refine (number_any W1 Y8 pb tb tb _ (pp ++ [(sJt, prS (f 33))] ++ [(sTo, prS (f 34))] ++ [(sMj, prS (f 41))] ++ [(sTu, prS (f 36))] ++ [(sCo, prS (f 37))] ++ [(sPr, prS (f 38))] ++ [(sWo, prS (f 39))] ++ [(sWa, prS (f 40))]) sTc (f 35) R8.out (by have := HPP.out.2; simp; omega) (HN.out 35 (by decide)) (tab_below R8.out.below HP.out)).mono ?_
      rintro e Y9 ⟨rfl, s0⟩
      have R9 := hide s0
      clear s0 x0
      have x0 : Y9.cell? ⟨sb, 0, none⟩ = some (.int .i64 (f 0)) := by
        rw [cell_of_row Y9 sb 0 C _ (0, 0) ((R9.out.below.block sb B1.out.2.2).trans B1.out.2.1)]
        exact HC.out 0 (by decide)
      have x1 : Y9.cell? ⟨sb, 1, none⟩ = some (.int .i64 (f 1)) := by
        rw [cell_of_row Y9 sb 1 C _ (0, 0) ((R9.out.below.block sb B1.out.2.2).trans B1.out.2.1)]
        exact HC.out 1 (by decide)
      go_wp2_with (go_at_call 25; refine (less_any (f 0) (f 1) _).mono ?_; rintro e w2 ⟨rfl, hw2⟩; obtain rfl := hw2.symm)
      refine (number_any W1 Y9 pb tb tb _ (pp ++ [(sJt, prS (f 33))] ++ [(sTo, prS (f 34))] ++ [(sMj, prS (f 41))] ++ [(sTu, prS (f 36))] ++ [(sCo, prS (f 37))] ++ [(sPr, prS (f 38))] ++ [(sWo, prS (f 39))] ++ [(sWa, prS (f 40))] ++ [(sTc, prS (f 35))]) sUp (lessI (f 0) (f 1)) R9.out (by have := HPP.out.2; simp; omega) (lessI_64 _ _) (tab_below R9.out.below HP.out)).mono ?_
      rintro e Y10 ⟨rfl, s0⟩
      have R10 := hide s0
      clear s0 x0 x1
      have x0 : Y10.cell? ⟨sb, 42, none⟩ = some (.int .i64 (f 42)) := by
        rw [cell_of_row Y10 sb 42 C _ (0, 0) ((R10.out.below.block sb B1.out.2.2).trans B1.out.2.1)]
        exact HC.out 42 (by decide)
      go_wp2_with fail
      refine (number_any W1 Y10 pb tb tb _ (pp ++ [(sJt, prS (f 33))] ++ [(sTo, prS (f 34))] ++ [(sMj, prS (f 41))] ++ [(sTu, prS (f 36))] ++ [(sCo, prS (f 37))] ++ [(sPr, prS (f 38))] ++ [(sWo, prS (f 39))] ++ [(sWa, prS (f 40))] ++ [(sTc, prS (f 35))] ++ [(sUp, prS (lessI (f 0) (f 1)))]) sOl (f 42) R10.out (by have := HPP.out.2; simp; omega) (HN.out 42 (by decide)) (tab_below R10.out.below HP.out)).mono ?_
      rintro e Y11 ⟨rfl, s0⟩
      have R11 := hide s0
      clear s0 x0
      have x0 : Y11.cell? ⟨sb, 43, none⟩ = some (.int .i64 (f 43)) := by
        rw [cell_of_row Y11 sb 43 C _ (0, 0) ((R11.out.below.block sb B1.out.2.2).trans B1.out.2.1)]
        exact HC.out 43 (by decide)
      go_wp2_with fail
      refine (number_any W1 Y11 pb tb tb _ (pp ++ [(sJt, prS (f 33))] ++ [(sTo, prS (f 34))] ++ [(sMj, prS (f 41))] ++ [(sTu, prS (f 36))] ++ [(sCo, prS (f 37))] ++ [(sPr, prS (f 38))] ++ [(sWo, prS (f 39))] ++ [(sWa, prS (f 40))] ++ [(sTc, prS (f 35))] ++ [(sUp, prS (lessI (f 0) (f 1)))] ++ [(sOl, prS (f 42))]) sNe (f 43) R11.out (by have := HPP.out.2; simp; omega) (HN.out 43 (by decide)) (tab_below R11.out.below HP.out)).mono ?_
      rintro e Y12 ⟨rfl, s0⟩
      have R12 := hide s0
      clear s0 x0
      have x0 : Y12.cell? ⟨sb, 44, none⟩ = some (.int .i64 (f 44)) := by
        rw [cell_of_row Y12 sb 44 C _ (0, 0) ((R12.out.below.block sb B1.out.2.2).trans B1.out.2.1)]
        exact HC.out 44 (by decide)
      go_wp2_with fail
      refine (number_any W1 Y12 pb tb tb _ (pp ++ [(sJt, prS (f 33))] ++ [(sTo, prS (f 34))] ++ [(sMj, prS (f 41))] ++ [(sTu, prS (f 36))] ++ [(sCo, prS (f 37))] ++ [(sPr, prS (f 38))] ++ [(sWo, prS (f 39))] ++ [(sWa, prS (f 40))] ++ [(sTc, prS (f 35))] ++ [(sUp, prS (lessI (f 0) (f 1)))] ++ [(sOl, prS (f 42))] ++ [(sNe, prS (f 43))]) sMi (f 44) R12.out (by have := HPP.out.2; simp; omega) (HN.out 44 (by decide)) (tab_below R12.out.below HP.out)).mono ?_
      rintro e Y13 ⟨rfl, s0⟩
      have R13 := hide s0
      clear s0 x0
      have x0 : Y13.cell? ⟨sb, 45, none⟩ = some (.int .i64 (f 45)) := by
        rw [cell_of_row Y13 sb 45 C _ (0, 0) ((R13.out.below.block sb B1.out.2.2).trans B1.out.2.1)]
        exact HC.out 45 (by decide)
      go_wp2_with fail
      refine (number_any W1 Y13 pb tb tb _ (pp ++ [(sJt, prS (f 33))] ++ [(sTo, prS (f 34))] ++ [(sMj, prS (f 41))] ++ [(sTu, prS (f 36))] ++ [(sCo, prS (f 37))] ++ [(sPr, prS (f 38))] ++ [(sWo, prS (f 39))] ++ [(sWa, prS (f 40))] ++ [(sTc, prS (f 35))] ++ [(sUp, prS (lessI (f 0) (f 1)))] ++ [(sOl, prS (f 42))] ++ [(sNe, prS (f 43))] ++ [(sMi, prS (f 44))]) sWr (f 45) R13.out (by have := HPP.out.2; simp; omega) (HN.out 45 (by decide)) (tab_below R13.out.below HP.out)).mono ?_
      rintro e Y14 ⟨rfl, s0⟩
      have R14 := hide s0
      clear s0 x0
      have x0 : Y14.cell? ⟨sb, 47, none⟩ = some (.int .i64 (f 47)) := by
        rw [cell_of_row Y14 sb 47 C _ (0, 0) ((R14.out.below.block sb B1.out.2.2).trans B1.out.2.1)]
        exact HC.out 47 (by decide)
      go_wp2_with fail
      refine (number_any W1 Y14 pb tb tb _ (pp ++ [(sJt, prS (f 33))] ++ [(sTo, prS (f 34))] ++ [(sMj, prS (f 41))] ++ [(sTu, prS (f 36))] ++ [(sCo, prS (f 37))] ++ [(sPr, prS (f 38))] ++ [(sWo, prS (f 39))] ++ [(sWa, prS (f 40))] ++ [(sTc, prS (f 35))] ++ [(sUp, prS (lessI (f 0) (f 1)))] ++ [(sOl, prS (f 42))] ++ [(sNe, prS (f 43))] ++ [(sMi, prS (f 44))] ++ [(sWr, prS (f 45))]) sMx (f 47) R14.out (by have := HPP.out.2; simp; omega) (HN.out 47 (by decide)) (tab_below R14.out.below HP.out)).mono ?_
      rintro e Y15 ⟨rfl, s0⟩
      have R15 := hide s0
      clear s0 x0
      have x0 : Y15.cell? ⟨sb, 48, none⟩ = some (.bool dr) := by
        rw [cell_of_row Y15 sb 48 C _ (0, 0) ((R15.out.below.block sb B1.out.2.2).trans B1.out.2.1)]
        exact HL.out
      go_wp2_with (go_at_call 33; refine (truth_any dr _).mono ?_; rintro e w2 ⟨rfl, hw2⟩; obtain rfl := hw2.symm)
      refine (text_any W1 Y15 pb tb tb _ (pp ++ [(sJt, prS (f 33))] ++ [(sTo, prS (f 34))] ++ [(sMj, prS (f 41))] ++ [(sTu, prS (f 36))] ++ [(sCo, prS (f 37))] ++ [(sPr, prS (f 38))] ++ [(sWo, prS (f 39))] ++ [(sWa, prS (f 40))] ++ [(sTc, prS (f 35))] ++ [(sUp, prS (lessI (f 0) (f 1)))] ++ [(sOl, prS (f 42))] ++ [(sNe, prS (f 43))] ++ [(sMi, prS (f 44))] ++ [(sWr, prS (f 45))] ++ [(sMx, prS (f 47))]) sDr (trS dr) R15.out (by have := HPP.out.2; simp; omega)).mono ?_
      rintro e WY ⟨rfl, s0⟩
      have RY := hide s0
      clear s0 x0
      have E11 : Hid (pp ++ [(sJt, prS (f 33))] ++ [(sTo, prS (f 34))] ++ [(sMj, prS (f 41))] ++ [(sTu, prS (f 36))] ++ [(sCo, prS (f 37))] ++ [(sPr, prS (f 38))] ++ [(sWo, prS (f 39))] ++ [(sWa, prS (f 40))] ++ [(sTc, prS (f 35))] ++ [(sUp, prS (lessI (f 0) (f 1)))] ++ [(sOl, prS (f 42))] ++ [(sNe, prS (f 43))] ++ [(sMi, prS (f 44))] ++ [(sWr, prS (f 45))] ++ [(sMx, prS (f 47))] ++ [(sDr, trS dr)] = shopP f dr) := by
        show _ = _
        rw [HPP.out.1]
        simp [shopP, tailP]
      rw [E11.out] at RY
      go_wp2_with fail
      refine (told_any W1 WY pb tb tb _ (shopP f dr) RY.out (by rw [← E11.out]; have := HPP.out.2; simp; omega) HBD.out).mono ?_
      rintro e WZ ⟨v14, rfl, o14, b14⟩
      rw [← HDD.out] at o14
      obtain ⟨av, cv, rfl, _⟩ := o14.shape
      have F14 := hide (And.intro o14 b14)
      clear o14 b14
      go_wp2_with fail
      go_ret
      have hB : Below W.heap.size W WY := B1.out.1.trans (RY.out.below.mono B1.out.1.size)
      exact ⟨_, rfl, F14.out.1.mono hB.size, hB.trans (F14.out.2.mono hB.size)⟩
end Go.Proofs.YthapbnlcodkalaaDoor
