/-
  watches, find, Watch, waits, Wait.
-/
import Derived.Test.YtogmobkkpmpdcaaSOpen
namespace Go.Proofs.Ytogmobkkpmpdcaa
open Go.RowKit
set_option maxHeartbeats 2000000 in
set_option maxRecDepth 1000000 in
theorem watches_any (t : ByteArray) (w : World) (lab : Nat → Int) (i : Int) (x : Cn) (h : CnAt w lab i x) (ht : t.size ≤ maxLen) :
    Calls Try.prog 37 #[ptrV x.blk, .string t] w fun e w' => e = .returned (.bool (decide (0 < held x.g t.data.toList))) ∧ w' = w := by
  have CC : Hid (Calls Try.prog 54 #[.pointer (some ⟨x.bb, 0, none⟩), .string t] w fun e w' => e = .returned (.int .i64 (held x.g t.data.toList)) ∧ w' = w) := count_any w x.bb x.bm x.n x.g t h.book ht
  have c1 : w.cell? ⟨x.blk, 1, none⟩ = some (ptrV x.bb) := (h.cell 1).trans rfl
  have blt := h.lt.1
  clear h
  go_enter Try.func37, Try.ntmps37
  go_wp2_with (go_at_call 54; refine CC.out.mono ?_; rintro e w1 ⟨rfl, hw'⟩; obtain rfl := hw'.symm)
  go_ret
  exact ⟨rfl, rfl⟩
set_option maxHeartbeats 2000000 in
set_option maxRecDepth 1000000 in
theorem waits_any (w : World) (lab : Nat → Int) (i : Int) (x : Cn) (h : CnAt w lab i x) :
    Calls Try.prog 39 #[ptrV x.blk] w fun e w' => e = .returned (.bool (x.tk != 0)) ∧ w' = w := by
  have c1 : w.cell? ⟨x.blk, 2, none⟩ = some (.int .i64 x.tk) := (h.cell 2).trans rfl
  have blt := h.lt.1
  clear h
  go_enter Try.func39, Try.ntmps39
  go_wp2_with fail
  go_ret
  exact ⟨rfl, rfl⟩
/-- What find tells. -/
def findE (S : Sx) (n : Int) (t : List UInt8) : Int := if (S.F n).isSome then (if validB t then 0 else 50) else 162
def findV (S : Sx) (n : Int) (t : List UInt8) : Value := match S.F n with | some x => if validB t then ptrV x.blk else .pointer none | none => .pointer none
set_option maxHeartbeats 2000000 in
set_option maxRecDepth 1000000 in
theorem find_any (n : Int) (t : ByteArray) (B : Nat) (w : World) (lab : Nat → Int) (sb : Nat) (S : Sx) (h : SAt B w lab sb S) (hn : (Lit.int .i64 n).wf = true) :
    Calls Try.prog 44 #[ptrV sb, .int .i64 n, .string t] w fun e w' => e = .returned (.tuple #[findV S n t.data.toList, .int .i64 (findE S n t.data.toList)]) ∧ w' = w := by
  have c0 := h.cell0.1
  have slt := h.lt
  have TB : Hid (VTabI w S.mb S.nn (fun i => (S.F i).map (fun x => ptrV x.blk))) := h.tab
  have CV : Hid (Calls Try.prog 52 #[.string t] w fun e w' => e = .returned (.bool (validB t.data.toList)) ∧ w' = w) := valid_any t w
  clear h
  cases hF : S.F n with
  | none =>
    have HF : Hid (S.F n = none) := hF
    have e1 : findV S n t.data.toList = .pointer none := by unfold findV; rw [hF]
    have e2 : findE S n t.data.toList = 162 := by unfold findE; rw [hF]; rfl
    rw [e1, e2]
    clear hF e1 e2
    go_enter Try.func44, Try.ntmps44
    go_wp2_with (refine wpList_vlookI rfl (.tmp 14) (.tmp 15) 47 57 Try.underlying47 (zero_seat _) rfl S.mb S.nn (fun i => (S.F i).map (fun x => ptrV x.blk)) n rfl rfl TB.out hn ?_; simp only [HF.out, Option.map_none, Option.getD_none, Option.isSome_none])
    go_ret2
    exact ⟨rfl, rfl⟩
  | some x =>
    have HF : Hid (S.F n = some x) := hF
    cases hv : validB t.data.toList with
    | false =>
      have e1 : findV S n t.data.toList = .pointer none := by unfold findV; rw [hF, hv]; rfl
      have e2 : findE S n t.data.toList = 50 := by unfold findE; rw [hF, hv]; rfl
      rw [e1, e2]
      rw [hv] at CV
      clear hF e1 e2 hv
      go_enter Try.func44, Try.ntmps44
      go_wp2_with (first
        | (refine wpList_vlookI rfl (.tmp 14) (.tmp 15) 47 57 Try.underlying47 (zero_seat _) rfl S.mb S.nn (fun i => (S.F i).map (fun x => ptrV x.blk)) n rfl rfl TB.out hn ?_; simp only [HF.out, Option.map_some, Option.getD_some, Option.isSome_some])
        | (go_at_call 52; refine CV.out.mono ?_; rintro e w1 ⟨rfl, hw'⟩; obtain rfl := hw'.symm))
      go_ret2
      exact ⟨rfl, rfl⟩
    | true =>
      have e1 : findV S n t.data.toList = ptrV x.blk := by unfold findV; rw [hF, hv]; rfl
      have e2 : findE S n t.data.toList = 0 := by unfold findE; rw [hF, hv]; rfl
      rw [e1, e2]
      rw [hv] at CV
      clear hF e1 e2 hv
      go_enter Try.func44, Try.ntmps44
      go_wp2_with (first
        | (refine wpList_vlookI rfl (.tmp 14) (.tmp 15) 47 57 Try.underlying47 (zero_seat _) rfl S.mb S.nn (fun i => (S.F i).map (fun x => ptrV x.blk)) n rfl rfl TB.out hn ?_; simp only [HF.out, Option.map_some, Option.getD_some, Option.isSome_some])
        | (go_at_call 52; refine CV.out.mono ?_; rintro e w1 ⟨rfl, hw'⟩; obtain rfl := hw'.symm))
      go_ret2
      exact ⟨rfl, rfl⟩
/-- A connection that watches a tube, too. -/
def watchC (x : Cn) (t : List UInt8) : Cn := if 0 < held x.g t then x else { x with n := holdN x.g x.n t, g := holdG x.g t }
/-- What Watch tells, and what is there then. -/
def watchV (S : Sx) (n : Int) (t : List UInt8) : Int := match S.F n with | some x => if validB t then (watchC x t).n else 0 | none => 0
def watchS (S : Sx) (n : Int) (t : List UInt8) : Sx := match S.F n with | some x => if validB t then { S with F := updF S.F n (some (watchC x t)) } else S | none => S
theorem updF_self {F : Int → Option Cn} {n : Int} {x : Cn} (h : F n = some x) : updF F n (some x) = F := by
  funext j
  unfold updF
  split
  · rename_i e; rw [e, h]
  · rfl
set_option maxHeartbeats 2000000 in
set_option maxRecDepth 1000000 in
theorem watch_any (n : Int) (t : ByteArray) (B : Nat) (w : World) (lab : Nat → Int) (sb : Nat) (S : Sx) (h : SAt B w lab sb S) (hn : (Lit.int .i64 n).wf = true) (hN : ∀ x, S.F n = some x → x.n < 1000000000) :
    Calls Try.prog 21 #[ptrV sb, .int .i64 n, .string t] w fun e w' => e = .returned (.tuple #[.int .i64 (watchV S n t.data.toList), .int .i64 (findE S n t.data.toList)]) ∧ SAt B w' lab sb (watchS S n t.data.toList) ∧ Below B w w' ∧ Sd w w' := by
  have HS : Hid (SAt B w lab sb S) := h
  have CF : Hid (Calls Try.prog 44 #[ptrV sb, .int .i64 n, .string t] w fun e w' => e = .returned (.tuple #[findV S n t.data.toList, .int .i64 (findE S n t.data.toList)]) ∧ w' = w) := find_any n t B w lab sb S h hn
  by_cases hg : ∃ x, S.F n = some x ∧ validB t.data.toList = true
  · obtain ⟨x, hx, hv⟩ := hg
    have e1 : findV S n t.data.toList = ptrV x.blk := by unfold findV; rw [hx, hv]; rfl
    have e2 : findE S n t.data.toList = 0 := by unfold findE; rw [hx, hv]; rfl
    have e3 : watchV S n t.data.toList = (watchC x t.data.toList).n := by unfold watchV; rw [hx, hv]; rfl
    have e4 : watchS S n t.data.toList = { S with F := updF S.F n (some (watchC x t.data.toList)) } := by unfold watchS; rw [hx, hv]; rfl
    have htl : t.size ≤ maxLen := by
      have h2 : validB t.data.toList = true := hv
      unfold validB at h2
      simp only [Bool.and_eq_true, decide_eq_true_eq] at h2
      have h3 : t.size = t.data.toList.length := rfl
      unfold maxLen
      omega
    have HX := h.each n x hx
    have HC : Hid (CnAt w lab n x) := HX
    have hnx := hN x hx
    have CW : Hid (Calls Try.prog 37 #[ptrV x.blk, .string t] w fun e w' => e = .returned (.bool (decide (0 < held x.g t.data.toList))) ∧ w' = w) := watches_any t w lab n x HX htl
    have c1 : w.cell? ⟨x.blk, 1, none⟩ = some (ptrV x.bb) := (HX.cell 1).trans rfl
    have blt := HX.lt.1
    rw [e1, e2] at CF
    rw [e2, e3, e4]
    by_cases hp : 0 < held x.g t.data.toList
    · have e5 : watchC x t.data.toList = x := if_pos hp
      have CL : Hid (Calls Try.prog 45 #[.pointer (some ⟨x.bb, 0, none⟩)] w fun e w' => e = .returned (.int .i64 (x.n : Int)) ∧ w' = w) := len_any w x.bb x.bm x.n x.g HX.book
      rw [e5, updF_self hx]
      rw [decide_eq_true hp] at CW
      clear e1 e2 e3 e4 e5 hx hv htl HX hN h hp hnx
      go_enter Try.func21, Try.ntmps21
      go_wp2_with (first
        | (go_at_call 44; refine CF.out.mono ?_; rintro e w1 ⟨rfl, hw'⟩; obtain rfl := hw'.symm)
        | (go_at_call 37; refine CW.out.mono ?_; rintro e w1 ⟨rfl, hw'⟩; obtain rfl := hw'.symm)
        | (go_at_call 45; refine CL.out.mono ?_; rintro e w1 ⟨rfl, hw'⟩; obtain rfl := hw'.symm))
      go_ret2
      exact ⟨rfl, HS.out, Below.refl _ _, Sd.refl _⟩
    · have e5 : watchC x t.data.toList = { x with n := holdN x.g x.n t.data.toList, g := holdG x.g t.data.toList } := if_neg hp
      have hz : held x.g t.data.toList = 0 := by have := held_nonneg HX.book t.data.toList; omega
      have CH : Hid (Calls Try.prog 31 #[.pointer (some ⟨x.bb, 0, none⟩), .string t] w fun e w' => ∃ v, e = .returned v ∧ BookAt w' x.bb x.bm (holdN x.g x.n t.data.toList) (holdG x.g t.data.toList) ∧ Kept (fun k => k = x.bm) w w') :=
        (hold_any w x.bb x.bm x.n x.g t HX.book htl (by unfold maxLen; omega) (by rw [hz]; decide)).mono (fun e w' ⟨h1, h2, h3⟩ => by
          unfold holdE at h1
          rw [hv] at h1
          exact ⟨_, h1, h2, h3⟩)
      have CL : Hid (∀ w', BookAt w' x.bb x.bm (holdN x.g x.n t.data.toList) (holdG x.g t.data.toList) → Calls Try.prog 45 #[.pointer (some ⟨x.bb, 0, none⟩)] w' fun e w'' => e = .returned (.int .i64 (holdN x.g x.n t.data.toList : Int)) ∧ w'' = w') := fun w' hb => len_any w' x.bb x.bm _ _ hb
      rw [e5]
      rw [decide_eq_false hp] at CW
      have HXX : Hid (S.F n = some x ∧ x.blk ≠ x.bm) := ⟨hx, fun e => by
        obtain ⟨es, cl, hm⟩ := HX.book.tab.map
        have hb := HX.box
        rw [e, hm] at hb
        cases hb⟩
      clear e1 e2 e3 e4 e5 hx hv htl HX hN h hp hnx hz
      go_enter Try.func21, Try.ntmps21
      go_wp2_with (first
        | (go_at_call 44; refine CF.out.mono ?_; rintro e w1 ⟨rfl, hw'⟩; obtain rfl := hw'.symm)
        | (go_at_call 37; refine CW.out.mono ?_; rintro e w1 ⟨rfl, hw'⟩; obtain rfl := hw'.symm)
        | (go_at_call 31; refine CH.out.mono ?_; rintro e w2 ⟨v2, rfl, h2, k2⟩; have c2 : w2.cell? ⟨x.blk, 1, none⟩ = some (ptrV x.bb) := k2.cell HXX.out.2 c1; have blt2 := Nat.lt_of_lt_of_le blt k2.size; have H2 : Hid (BookAt w2 x.bb x.bm (holdN x.g x.n t.data.toList) (holdG x.g t.data.toList) ∧ Kept (fun k => k = x.bm) w w2) := ⟨h2, k2⟩; clear h2 k2)
        | (go_at_call 45; refine (CL.out _ H2.out.1).mono ?_; rintro e w3 ⟨rfl, hw'⟩; obtain rfl := hw'.symm))
      go_ret2
      obtain ⟨h2, k2⟩ := H2.out
      obtain ⟨hx, hne⟩ := HXX.out
      have hc := HC.out
      obtain ⟨cb, hcb⟩ := hc.bt
      obtain ⟨t1, t2⟩ := HS.out.turned hx k2 (fun k _ e => by rw [show k = x.bm from e]; exact hc.l3) (fun _ _ => rfl) (x' := { x with n := holdN x.g x.n t.data.toList, g := holdG x.g t.data.toList }) ⟨(k2.block _ hc.lt.1 hne).trans hc.box, h2, ⟨cb, (k2.block _ hc.lt.2.1 (fun e => by have e : x.bb = x.bm := e; obtain ⟨es, cl, hm⟩ := hc.book.tab.map; rw [e, hm] at hcb; cases hcb)).trans hcb⟩, hc.l1, hc.l2, hc.l3⟩ rfl
      exact ⟨rfl, t1, t2, Sd.ofKept k2 (fun k c e => by rw [show k = x.bm from e]; exact hc.no.2.2 c)⟩
  · obtain ⟨z, hz⟩ : ∃ z, findE S n t.data.toList = z ∧ z ≠ 0 ∧ findV S n t.data.toList = .pointer none ∧ watchV S n t.data.toList = 0 ∧ watchS S n t.data.toList = S := by
      cases hF : S.F n with
      | none => exact ⟨162, by unfold findE; rw [hF]; rfl, by decide, by unfold findV; rw [hF], by unfold watchV; rw [hF], by unfold watchS; rw [hF]⟩
      | some x =>
        have hv : validB t.data.toList = false := by
          cases hv : validB t.data.toList with
          | false => rfl
          | true => exact absurd ⟨x, hF, hv⟩ hg
        exact ⟨50, by unfold findE; rw [hF, hv]; rfl, by decide, by unfold findV; rw [hF, hv]; rfl, by unfold watchV; rw [hF, hv]; rfl, by unfold watchS; rw [hF, hv]; rfl⟩
    obtain ⟨e1, e0, e2, e3, e4⟩ := hz
    rw [e1, e2] at CF
    rw [e1, e3, e4]
    have hzb : (z != 0) = true := by simpa using e0
    clear e1 e0 e2 e3 e4 hg hN h
    go_enter Try.func21, Try.ntmps21
    go_wp2_with (go_at_call 44; refine CF.out.mono ?_; rintro e w1 ⟨rfl, hw'⟩; obtain rfl := hw'.symm)
    go_ret2
    exact ⟨rfl, HS.out, Below.refl _ _, Sd.refl _⟩
end Go.Proofs.Ytogmobkkpmpdcaa
