/-
  Use, Ignore.
-/
import Derived.Test.YtogmobkkpmpdcaaSStop
namespace Go.Proofs.Ytogmobkkpmpdcaa
open Go.RowKit
theorem valid_len {t : ByteArray} (h : validB t.data.toList = true) : t.size ≤ 200 := by
  unfold validB at h
  simp only [Bool.and_eq_true, decide_eq_true_eq] at h
  have h3 : t.size = t.data.toList.length := rfl
  omega
def useS (S : Sx) (n : Int) (t : ByteArray) : Sx := match S.F n with | some x => if validB t.data.toList then { S with F := updF S.F n (some { x with us := t }) } else S | none => S
theorem CnAt.setUs {w : World} {lab : Nat → Int} {i : Int} {x : Cn} (h : CnAt w lab i x) (t : ByteArray) :
    CnAt (w.setCell ⟨x.blk, 0, none⟩ (.string t)) lab i { x with us := t } ∧ Kept (fun k => k = x.blk) w (w.setCell ⟨x.blk, 0, none⟩ (.string t)) := by
  have hk : Kept (fun k => k = x.blk) w (w.setCell ⟨x.blk, 0, none⟩ (.string t)) := Kept.setCell (fun k => k = x.blk) w _ _ _ rfl
  obtain ⟨cb, hcb⟩ := h.bt
  refine ⟨⟨?_, h.book.kept hk h.apart.1 h.apart.2, ⟨cb, (hk.block _ h.lt.2.1 h.apart.1).trans hcb⟩, h.l1, h.l2, h.l3⟩, hk⟩
  show (w.setCell ⟨x.blk, 0, none⟩ (.string t)).heap[x.blk]? = _
  rw [(set_cells h.box 0 (.string t)).1]
  rfl
set_option maxHeartbeats 2000000 in
set_option maxRecDepth 1000000 in
theorem use_any (n : Int) (t : ByteArray) (B : Nat) (w : World) (lab : Nat → Int) (sb : Nat) (S : Sx) (h : SAt B w lab sb S) (hn : (Lit.int .i64 n).wf = true) :
    Calls Try.prog 25 #[ptrV sb, .int .i64 n, .string t] w fun e w' => e = .returned (.int .i64 (findE S n t.data.toList)) ∧ SAt B w' lab sb (useS S n t) ∧ Below B w w' := by
  have HS : Hid (SAt B w lab sb S) := h
  have CF : Hid (Calls Try.prog 44 #[ptrV sb, .int .i64 n, .string t] w fun e w' => e = .returned (.tuple #[findV S n t.data.toList, .int .i64 (findE S n t.data.toList)]) ∧ w' = w) := find_any n t B w lab sb S h hn
  by_cases hg : ∃ x, S.F n = some x ∧ validB t.data.toList = true
  · obtain ⟨x, hx, hv⟩ := hg
    have e1 : findV S n t.data.toList = ptrV x.blk := by unfold findV; rw [hx, hv]; rfl
    have e2 : findE S n t.data.toList = 0 := by unfold findE; rw [hx, hv]; rfl
    have e4 : useS S n t = { S with F := updF S.F n (some { x with us := t }) } := by unfold useS; rw [hx, hv]; rfl
    have htl := valid_len hv
    have HX := h.each n x hx
    have CC : Hid (Calls Try.prog 47 #[.string t] w fun e w' => e = .returned (.string t) ∧ Below w.heap.size w w') := text_any t w (by omega)
    have HF : Hid (S.F n = some x) := hx
    rw [e1, e2] at CF
    rw [e2, e4]
    clear e1 e2 e4 hx hv htl HX h
    go_enter Try.func25, Try.ntmps25
    go_wp2_with (first
      | (go_at_call 44; refine CF.out.mono ?_; rintro e w1 ⟨rfl, hw'⟩; obtain rfl := hw'.symm)
      | (go_at_call 47; refine CC.out.mono ?_; rintro e w2 ⟨rfl, b2⟩
         have s2 := HS.out.later b2
         have X2 := s2.each n x HF.out
         have d0 : w2.cell? ⟨x.blk, 0, none⟩ = some (.string x.us) := (X2.cell 0).trans rfl
         have f0 := X2.froz 0
         have blt2 := X2.lt.1
         have H2 : Hid (SAt B w2 lab sb S ∧ Below w.heap.size w w2 ∧ CnAt w2 lab n x) := ⟨s2, b2, X2⟩
         clear s2 b2 X2))
    go_ret
    obtain ⟨s2, b2, X2⟩ := H2.out
    obtain ⟨X3, k3⟩ := X2.setUs t
    obtain ⟨s3, b3⟩ := s2.turned HF.out k3 (fun k _ e => by rw [show k = x.blk from e]; exact X2.l1) (fun _ _ => rfl) X3 rfl
    exact ⟨rfl, s3, (b2.mono HS.out.sz).trans b3⟩
  · obtain ⟨z, hz⟩ : ∃ z, findE S n t.data.toList = z ∧ z ≠ 0 ∧ findV S n t.data.toList = .pointer none ∧ useS S n t = S := by
      cases hF : S.F n with
      | none => exact ⟨162, by unfold findE; rw [hF]; rfl, by decide, by unfold findV; rw [hF], by unfold useS; rw [hF]⟩
      | some x =>
        have hv : validB t.data.toList = false := by
          cases hv : validB t.data.toList with
          | false => rfl
          | true => exact absurd ⟨x, hF, hv⟩ hg
        exact ⟨50, by unfold findE; rw [hF, hv]; rfl, by decide, by unfold findV; rw [hF, hv]; rfl, by unfold useS; rw [hF, hv]; rfl⟩
    obtain ⟨e1, e0, e2, e4⟩ := hz
    rw [e1, e2] at CF
    rw [e1, e4]
    have hzb : (z != 0) = true := by simpa using e0
    clear e1 e0 e2 e4 hg h
    go_enter Try.func25, Try.ntmps25
    go_wp2_with (go_at_call 44; refine CF.out.mono ?_; rintro e w1 ⟨rfl, hw'⟩; obtain rfl := hw'.symm)
    go_ret
    exact ⟨rfl, HS.out, Below.refl _ _⟩
/-- A connection that does not watch a tube any more. -/
def ignC (x : Cn) (t : List UInt8) : Cn := if 0 < held x.g t ∧ x.n = 1 then x else { x with n := dropN x.g x.n t, g := dropG x.g t }
def ignS (S : Sx) (n : Int) (t : List UInt8) : Sx := match S.F n with | some x => if validB t then { S with F := updF S.F n (some (ignC x t)) } else S | none => S
set_option maxHeartbeats 2000000 in
set_option maxRecDepth 1000000 in
theorem ignore_any (n : Int) (t : ByteArray) (B : Nat) (w : World) (lab : Nat → Int) (sb : Nat) (S : Sx) (h : SAt B w lab sb S) (hn : (Lit.int .i64 n).wf = true) (hN : ∀ x, S.F n = some x → x.n < 1000000000 ∧ ∀ u, held x.g u ≤ 1) :
    Calls Try.prog 26 #[ptrV sb, .int .i64 n, .string t] w fun e w' => (∃ z y : Int, e = .returned (.tuple #[.int .i64 z, .int .i64 y])) ∧ SAt B w' lab sb (ignS S n t.data.toList) ∧ Below B w w' := by
  have HS : Hid (SAt B w lab sb S) := h
  have CF : Hid (Calls Try.prog 44 #[ptrV sb, .int .i64 n, .string t] w fun e w' => e = .returned (.tuple #[findV S n t.data.toList, .int .i64 (findE S n t.data.toList)]) ∧ w' = w) := find_any n t B w lab sb S h hn
  by_cases hg : ∃ x, S.F n = some x ∧ validB t.data.toList = true
  · obtain ⟨x, hx, hv⟩ := hg
    have e1 : findV S n t.data.toList = ptrV x.blk := by unfold findV; rw [hx, hv]; rfl
    have e2 : findE S n t.data.toList = 0 := by unfold findE; rw [hx, hv]; rfl
    have e4 : ignS S n t.data.toList = { S with F := updF S.F n (some (ignC x t.data.toList)) } := by unfold ignS; rw [hx, hv]; rfl
    have htl : t.size ≤ maxLen := by have := valid_len hv; unfold maxLen; omega
    have HX := h.each n x hx
    have HC : Hid (CnAt w lab n x) := HX
    obtain ⟨hnx, hh⟩ := hN x hx
    have CW : Hid (Calls Try.prog 37 #[ptrV x.blk, .string t] w fun e w' => e = .returned (.bool (decide (0 < held x.g t.data.toList))) ∧ w' = w) := watches_any t w lab n x HX htl
    have CL : Hid (Calls Try.prog 45 #[.pointer (some ⟨x.bb, 0, none⟩)] w fun e w' => e = .returned (.int .i64 (x.n : Int)) ∧ w' = w) := len_any w x.bb x.bm x.n x.g HX.book
    have CD : Hid (Calls Try.prog 48 #[.pointer (some ⟨x.bb, 0, none⟩), .string t] w fun e w' => ∃ z b, e = .returned (.tuple #[.int .i64 z, .bool b]) ∧ BookAt w' x.bb x.bm (dropN x.g x.n t.data.toList) (dropG x.g t.data.toList) ∧ Kept (fun k => k = x.bm) w w') :=
      (drop_any w x.bb x.bm x.n x.g t HX.book htl (by unfold maxLen; omega) (by have := hh t.data.toList; omega)).mono (fun e w' ⟨h1, h2, h3⟩ => by
        unfold dropE at h1
        split at h1
        · exact ⟨_, _, h1, h2, h3⟩
        · exact ⟨_, _, h1, h2, h3⟩)
    have CL2 : Hid (∀ w', BookAt w' x.bb x.bm (dropN x.g x.n t.data.toList) (dropG x.g t.data.toList) → Calls Try.prog 45 #[.pointer (some ⟨x.bb, 0, none⟩)] w' fun e w'' => e = .returned (.int .i64 (dropN x.g x.n t.data.toList : Int)) ∧ w'' = w') := fun w' hb => len_any w' x.bb x.bm _ _ hb
    have c1 : w.cell? ⟨x.blk, 1, none⟩ = some (ptrV x.bb) := (HX.cell 1).trans rfl
    have blt := HX.lt.1
    have HXX : Hid (S.F n = some x ∧ x.blk ≠ x.bm) := ⟨hx, fun e => HX.apart.2 e.symm⟩
    rw [e1, e2] at CF
    rw [e4]
    have fin : ∀ w2, BookAt w2 x.bb x.bm (dropN x.g x.n t.data.toList) (dropG x.g t.data.toList) → Kept (fun k => k = x.bm) w w2 → SAt B w2 lab sb { S with F := updF S.F n (some { x with n := dropN x.g x.n t.data.toList, g := dropG x.g t.data.toList }) } ∧ Below B w w2 := fun w2 h2 k2 => by
      have hc := HC.out
      obtain ⟨cb, hcb⟩ := hc.bt
      exact HS.out.turned hx k2 (fun k _ e => by rw [show k = x.bm from e]; exact hc.l3) (fun _ _ => rfl) (x' := { x with n := dropN x.g x.n t.data.toList, g := dropG x.g t.data.toList }) ⟨(k2.block _ hc.lt.1 HXX.out.2).trans hc.box, h2, ⟨cb, (k2.block _ hc.lt.2.1 (fun e => by have e : x.bb = x.bm := e; obtain ⟨es, cl, hm⟩ := hc.book.tab.map; rw [e, hm] at hcb; cases hcb)).trans hcb⟩, hc.l1, hc.l2, hc.l3⟩ rfl
    have FIN : Hid (∀ w2, BookAt w2 x.bb x.bm (dropN x.g x.n t.data.toList) (dropG x.g t.data.toList) → Kept (fun k => k = x.bm) w w2 → SAt B w2 lab sb { S with F := updF S.F n (some { x with n := dropN x.g x.n t.data.toList, g := dropG x.g t.data.toList }) } ∧ Below B w w2) := fin
    clear e1 e2 e4 hx hv htl HX hN h hh fin
    by_cases hp : 0 < held x.g t.data.toList
    · rw [decide_eq_true hp] at CW
      by_cases h1 : x.n = 1
      · have e5 : ignC x t.data.toList = x := if_pos ⟨hp, h1⟩
        have h1b : ((x.n : Int) == 1) = true := by simp [h1]
        rw [e5, updF_self HXX.out.1]
        clear e5 hp h1 hnx
        go_enter Try.func26, Try.ntmps26
        go_wp2_with (first
          | (go_at_call 44; refine CF.out.mono ?_; rintro e w1 ⟨rfl, hw'⟩; obtain rfl := hw'.symm)
          | (go_at_call 37; refine CW.out.mono ?_; rintro e w1 ⟨rfl, hw'⟩; obtain rfl := hw'.symm)
          | (go_at_call 45; refine CL.out.mono ?_; rintro e w1 ⟨rfl, hw'⟩; obtain rfl := hw'.symm))
        go_ret2
        exact ⟨⟨_, _, rfl⟩, HS.out, Below.refl _ _⟩
      · have e5 : ignC x t.data.toList = { x with n := dropN x.g x.n t.data.toList, g := dropG x.g t.data.toList } := if_neg (fun h => h1 h.2)
        have h1b : ((x.n : Int) == 1) = false := by simp; omega
        rw [e5]
        clear e5 hp h1 hnx
        go_enter Try.func26, Try.ntmps26
        go_wp2_with (first
          | (go_at_call 44; refine CF.out.mono ?_; rintro e w1 ⟨rfl, hw'⟩; obtain rfl := hw'.symm; clear CF)
          | (go_at_call 37; refine CW.out.mono ?_; rintro e w1 ⟨rfl, hw'⟩; obtain rfl := hw'.symm; clear CW)
          | (go_at_call 45; refine CL.out.mono ?_; rintro e w1 ⟨rfl, hw'⟩; obtain rfl := hw'.symm; clear CL)
          | (go_at_call 48; refine CD.out.mono ?_; rintro e w2 ⟨z2, v2, rfl, h2, k2⟩; have c2 : w2.cell? ⟨x.blk, 1, none⟩ = some (ptrV x.bb) := k2.cell HXX.out.2 c1; have blt2 := Nat.lt_of_lt_of_le blt k2.size; have H2 : Hid (BookAt w2 x.bb x.bm (dropN x.g x.n t.data.toList) (dropG x.g t.data.toList) ∧ Kept (fun k => k = x.bm) w w2) := ⟨h2, k2⟩; clear h2 k2)
          | (go_at_call 45; refine (CL2.out _ H2.out.1).mono ?_; rintro e w3 ⟨rfl, hw'⟩; obtain rfl := hw'.symm))
        go_ret2
        exact ⟨⟨_, _, rfl⟩, FIN.out _ H2.out.1 H2.out.2⟩
    · rw [decide_eq_false hp] at CW
      have e5 : ignC x t.data.toList = { x with n := dropN x.g x.n t.data.toList, g := dropG x.g t.data.toList } := if_neg (fun h => hp h.1)
      rw [e5]
      clear e5 hp hnx CL
      go_enter Try.func26, Try.ntmps26
      go_wp2_with (first
        | (go_at_call 44; refine CF.out.mono ?_; rintro e w1 ⟨rfl, hw'⟩; obtain rfl := hw'.symm; clear CF)
        | (go_at_call 37; refine CW.out.mono ?_; rintro e w1 ⟨rfl, hw'⟩; obtain rfl := hw'.symm; clear CW)
        | (go_at_call 48; refine CD.out.mono ?_; rintro e w2 ⟨z2, v2, rfl, h2, k2⟩; have c2 : w2.cell? ⟨x.blk, 1, none⟩ = some (ptrV x.bb) := k2.cell HXX.out.2 c1; have blt2 := Nat.lt_of_lt_of_le blt k2.size; have H2 : Hid (BookAt w2 x.bb x.bm (dropN x.g x.n t.data.toList) (dropG x.g t.data.toList) ∧ Kept (fun k => k = x.bm) w w2) := ⟨h2, k2⟩; clear h2 k2)
        | (go_at_call 45; refine (CL2.out _ H2.out.1).mono ?_; rintro e w3 ⟨rfl, hw'⟩; obtain rfl := hw'.symm))
      go_ret2
      exact ⟨⟨_, _, rfl⟩, FIN.out _ H2.out.1 H2.out.2⟩
  · obtain ⟨z, hz⟩ : ∃ z, findE S n t.data.toList = z ∧ z ≠ 0 ∧ findV S n t.data.toList = .pointer none ∧ ignS S n t.data.toList = S := by
      cases hF : S.F n with
      | none => exact ⟨162, by unfold findE; rw [hF]; rfl, by decide, by unfold findV; rw [hF], by unfold ignS; rw [hF]⟩
      | some x =>
        have hv : validB t.data.toList = false := by
          cases hv : validB t.data.toList with
          | false => rfl
          | true => exact absurd ⟨x, hF, hv⟩ hg
        exact ⟨50, by unfold findE; rw [hF, hv]; rfl, by decide, by unfold findV; rw [hF, hv]; rfl, by unfold ignS; rw [hF, hv]; rfl⟩
    obtain ⟨e1, e0, e2, e4⟩ := hz
    rw [e1, e2] at CF
    rw [e4]
    have hzb : (z != 0) = true := by simpa using e0
    clear e1 e0 e2 e4 hg h hN
    go_enter Try.func26, Try.ntmps26
    go_wp2_with (go_at_call 44; refine CF.out.mono ?_; rintro e w1 ⟨rfl, hw'⟩; obtain rfl := hw'.symm)
    go_ret2
    exact ⟨⟨_, _, rfl⟩, HS.out, Below.refl _ _⟩
end Go.Proofs.Ytogmobkkpmpdcaa
