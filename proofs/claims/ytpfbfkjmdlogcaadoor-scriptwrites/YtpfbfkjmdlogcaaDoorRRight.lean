/-
  The document's rightStep, of whatever step.
-/
import Derived.Test.YtpfbfkjmdlogcaaDoorRRtA
namespace Go.Proofs.YtpfbfkjmdlogcaaDoor
open Go.RowKit

set_option maxHeartbeats 1000000 in
set_option maxRecDepth 1000000 in
theorem rs_none (W : World) (k conn brk : Int) (ad ak : Option Addr) (nd cd nk ck : Nat) (hk : k < 1 ∨ 7 < k) :
    Calls Tryd.prog 40 #[.agg #[.int .i64 k, .int .i64 conn, .slice ad nd cd, .int .i64 brk, .slice ak nk ck]] W fun e w' => e = .returned (.bool false) ∧ Below W.heap.size W w' := by
  have HB : Hid (Below W.heap.size W (W.alloc (.cells #[.int .i64 k, .int .i64 conn, .slice ad nd cd, .int .i64 brk, .slice ak nk ck] 44))) := (Below.refl _ W).alloc (Nat.le_refl _) _
  have e1 : (k == 1) = false := by rw [beq_eq_false_iff_ne]; omega
  have e2 : (k == 2) = false := by rw [beq_eq_false_iff_ne]; omega
  have e3 : (k == 3) = false := by rw [beq_eq_false_iff_ne]; omega
  have e4 : (k == 4) = false := by rw [beq_eq_false_iff_ne]; omega
  have e7 : (k == 7) = false := by rw [beq_eq_false_iff_ne]; omega
  by_cases h1 : k < 1
  · go_enter Tryd.func40, Tryd.ntmps40
    go_wp2_with fail
    go_ret
    exact ⟨rfl, HB.out⟩
  · have h2 : 7 < k := by omega
    go_enter Tryd.func40, Tryd.ntmps40
    go_wp2_with fail
    go_ret
    exact ⟨rfl, HB.out⟩
theorem numOk_part (n : Int) (b : Bool) : numOkB n b = (numOkB n true && (b || n == 0)) := by
  unfold numOkB
  simp
theorem refRightStep_any (W : World) (p : StepP) (dv kv : Value) (h : StepIn W p dv kv) :
    Calls Tryd.prog 40 #[.agg #[.int .i64 p.kind, .int .i64 p.conn, dv, .int .i64 p.brk, kv]] W fun e w' => e = .returned (.bool (checkB p)) ∧ Below W.heap.size W w' := by
  obtain ⟨⟨ad, cd, rfl, hd⟩, ak, ck, rfl, hk⟩ := h
  cases hf : formP p.kind with
  | none =>
    have e : checkB p = false := by unfold checkB; rw [hf]
    rw [e]
    exact rs_none W p.kind p.conn p.brk ad ak p.data.length cd p.keep.length ck (form_none hf)
  | some f =>
    obtain ⟨bc, bd, bb, bk⟩ := f
    have hb1 : (p.conn != 0) = !(p.conn == 0) := rfl
    have hb2 : (p.brk != 0) = !(p.brk == 0) := rfl
    have hde : p.data.isEmpty = (p.data.length == 0) := by cases p.data <;> rfl
    have e : checkB p = (numOkB p.conn true && (bc || p.conn == 0) && numOkB p.brk true && (bb || p.brk == 0) && (bd || p.data.length == 0) && (bk || p.keep.isEmpty || !(p.brk == 0)) && p.keep.all (numOkB · true)) := by
      unfold checkB
      rw [hf]
      simp only []
      rw [numOk_part p.conn bc, numOk_part p.brk bb, hde, hb2]
      simp only [Bool.and_assoc]
    rcases form_cases hf with ⟨hk1, rfl, rfl, rfl, rfl⟩ | ⟨hk1, rfl, rfl, rfl, rfl⟩ | ⟨hk1, rfl, rfl, rfl, rfl⟩ | ⟨hk1, rfl, rfl, rfl, rfl⟩ | ⟨hk1, rfl, rfl, rfl, rfl⟩ | ⟨hk1, rfl, rfl, rfl, rfl⟩ | ⟨hk1, rfl, rfl, rfl, rfl⟩
    · rw [hk1]
      exact rs_1 _ _ _ _ _ W p.conn p.brk ad ak p.data.length cd ck p.keep hk rfl rfl hb1 hb2 rfl e
    · rw [hk1]
      exact rs_2 _ _ _ _ _ W p.conn p.brk ad ak p.data.length cd ck p.keep hk rfl rfl hb1 hb2 rfl e
    · rw [hk1]
      exact rs_3 _ _ _ _ _ W p.conn p.brk ad ak p.data.length cd ck p.keep hk rfl rfl hb1 hb2 rfl e
    · rw [hk1]
      exact rs_4 _ _ _ _ _ W p.conn p.brk ad ak p.data.length cd ck p.keep hk rfl rfl hb1 hb2 rfl e
    · rw [hk1]
      exact rs_5 _ _ _ _ _ W p.conn p.brk ad ak p.data.length cd ck p.keep hk rfl rfl hb1 hb2 rfl e
    · rw [hk1]
      exact rs_6 _ _ _ _ _ W p.conn p.brk ad ak p.data.length cd ck p.keep hk rfl rfl hb1 hb2 rfl e
    · rw [hk1]
      exact rs_7 _ _ _ _ _ W p.conn p.brk ad ak p.data.length cd ck p.keep hk rfl rfl hb1 hb2 rfl e
end Go.Proofs.YtpfbfkjmdlogcaaDoor
