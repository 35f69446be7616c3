/-
  Stop, Close.
-/
import Derived.Test.YtogmobkkpmpdcaaSWait
namespace Go.Proofs.Ytogmobkkpmpdcaa
open Go.RowKit
theorem get_int {R : List que.Stand} (h : ∀ r ∈ R, ∃ x : Int, r.v = .int .i64 x) (t : Int) : ∃ (z : Int) (b : Bool), que.getOfI R t = .tuple #[.int .i64 z, .bool b] := by
  unfold que.getOfI
  cases hf : R.find? (fun r => r.tk == t) with
  | none => exact ⟨0, false, rfl⟩
  | some r =>
    obtain ⟨x, hx⟩ := h r (List.mem_of_find?_eq_some hf)
    exact ⟨x, true, by simp only [hx]⟩
/-- What Stop tells, and what is there then. -/
def stopE (S : Sx) (n : Int) : Int := match S.F n with | none => 162 | some x => if x.tk = 0 then 164 else 0
def leftR (S : Sx) (x : Cn) : List que.Stand := S.R.filter (fun r => r.tk != x.tk)
def stopS (S : Sx) (n : Int) (x : Cn) : Sx := { S with R := leftR S x, F := updF S.F n (some { x with tk := 0, un := 0 }) }
def Stopped (S : Sx) (n : Int) (S' : Sx) : Prop := (stopE S n ≠ 0 ∧ S' = S) ∨ (stopE S n = 0 ∧ ∃ x, S.F n = some x ∧ x.tk ≠ 0 ∧ S' = stopS S n x)
/-- What Close tells, and what is there then. -/
def closeS (S : Sx) (n : Int) (x : Cn) : Sx := { S with R := leftR S x, F := updF S.F n none, nn := S.nn - 1 }
def closeE (S : Sx) (n : Int) : Int := if (S.F n).isSome then 0 else 162
def Closed (S : Sx) (n : Int) (S' : Sx) : Prop := (S.F n = none ∧ S' = S) ∨ (∃ x, S.F n = some x ∧ S' = closeS S n x)
theorem mine_left {S : Sx} {x : Cn} : ∀ k, que.Mine S.qb S.qm (leftR S x) k → que.Mine S.qb S.qm S.R k := fun _ h => que.mine_filter h
/-- Tickets are numbers. -/
theorem tk_wf {S : Sx} (hl : Lined S) {B : Nat} {w : World} {lab : Nat → Int} {sb : Nat} (h : SAt B w lab sb S) (hf : FewS S 1000000000) {n : Int} {x : Cn} (hx : S.F n = some x) : (Lit.int .i64 x.tk).wf = true := by
  rcases hl.wts n x hx with e | ⟨r, hr, e, _⟩
  · rw [e]; decide
  · have h1 := h.line.le r hr
    have h2 := hf.gv
    exact WalkArith.wf_i64 (by omega)
set_option maxHeartbeats 2000000 in
set_option maxRecDepth 1000000 in
theorem stop_any (n : Int) (B : Nat) (w : World) (lab : Nat → Int) (sb : Nat) (S : Sx) (h : SAt B w lab sb S) (hl : Lined S) (hf : FewS S 1000000000) (hn : (Lit.int .i64 n).wf = true) :
    Calls Try.prog 19 #[ptrV sb, .int .i64 n] w fun e w' => e = .returned (.int .i64 (stopE S n)) ∧ ∃ lab' S', SAt B w' lab' sb S' ∧ Stopped S n S' ∧ Below B w w' ∧ Sd w w' := by
  have HS : Hid (SAt B w lab sb S) := h
  have c0 := h.cell0.1
  have cl := h.cell0.2
  have slt := h.lt
  have TB : Hid (VTabI w S.mb S.nn (fun i => (S.F i).map (fun x => ptrV x.blk))) := h.tab
  cases hF : S.F n with
  | none =>
    have e : stopE S n = 162 := by unfold stopE; rw [hF]
    have HF : Hid (S.F n = none) := hF
    rw [e]
    have HE : Hid (stopE S n ≠ 0) := (by rw [e]; decide : stopE S n ≠ 0)
    clear hF h e hf hl
    go_enter Try.func19, Try.ntmps19
    go_wp2_with (refine wpList_vlookI rfl (.tmp 11) (.tmp 12) 47 57 Try.underlying47 (zero_seat _) rfl S.mb S.nn (fun i => (S.F i).map (fun x => ptrV x.blk)) n rfl rfl TB.out hn ?_; simp only [HF.out, Option.map_none, Option.getD_none, Option.isSome_none])
    go_ret
    exact ⟨rfl, lab, S, HS.out, .inl ⟨HE.out, rfl⟩, Below.refl _ _, Sd.refl _⟩
  | some x =>
    have HF : Hid (S.F n = some x) := hF
    have HX := h.each n x hF
    have CW : Hid (Calls Try.prog 39 #[ptrV x.blk] w fun e w' => e = .returned (.bool (x.tk != 0)) ∧ w' = w) := waits_any w lab n x HX
    by_cases ht : x.tk = 0
    · have e : stopE S n = 164 := by unfold stopE; rw [hF]; exact if_pos ht
      rw [e]
      have HE : Hid (stopE S n ≠ 0) := (by rw [e]; decide : stopE S n ≠ 0)
      have htb : (x.tk != 0) = false := by simpa using ht
      rw [htb] at CW
      clear hF h e hf hl HX ht htb
      go_enter Try.func19, Try.ntmps19
      go_wp2_with (first
        | (refine wpList_vlookI rfl (.tmp 11) (.tmp 12) 47 57 Try.underlying47 (zero_seat _) rfl S.mb S.nn (fun i => (S.F i).map (fun x => ptrV x.blk)) n rfl rfl TB.out hn ?_; simp only [HF.out, Option.map_some, Option.getD_some, Option.isSome_some])
        | (go_at_call 39; refine CW.out.mono ?_; rintro e w1 ⟨rfl, hw'⟩; obtain rfl := hw'.symm))
      go_ret
      exact ⟨rfl, lab, S, HS.out, .inl ⟨HE.out, rfl⟩, Below.refl _ _, Sd.refl _⟩
    · have e : stopE S n = 0 := by unfold stopE; rw [hF]; exact if_neg ht
      rw [e]
      have HE : Hid (stopE S n = 0 ∧ x.tk ≠ 0) := ⟨e, ht⟩
      have htb : (x.tk != 0) = true := by simpa using ht
      rw [htb] at CW
      have CL : Hid (∀ W, Below w.heap.size w W → Calls Try.prog 43 #[.pointer (some ⟨S.qb, 0, none⟩), .int .i64 x.tk] W fun e w' => ∃ z b, e = .returned (.tuple #[.int .i64 z, .bool b]) ∧ que.QueueAtI w' S.qb S.qm S.gv (leftR S x) ∧ Kept (que.Mine S.qb S.qm (leftR S x)) W w') := fun W hW => by
        obtain ⟨z, b, hz⟩ := get_int hl.ints x.tk
        refine (que.leaveI W S.qb S.qm S.gv x.tk S.R (h.line.below hW) (tk_wf hl h hf hF) hl.ints).mono ?_
        rintro e w' ⟨rfl, q1, q2⟩
        exact ⟨z, b, by rw [hz], q1, q2⟩
      have c2 : w.cell? ⟨x.blk, 2, none⟩ = some (.int .i64 x.tk) := (HX.cell 2).trans rfl
      have blt := HX.lt.1
      clear hF h e hf hl HX ht htb
      go_enter Try.func19, Try.ntmps19
      go_upto_region 6 with (first
        | (refine wpList_vlookI rfl (.tmp 11) (.tmp 12) 47 57 Try.underlying47 (zero_seat _) rfl S.mb S.nn (fun i => (S.F i).map (fun x => ptrV x.blk)) n rfl rfl TB.out hn ?_; simp only [HF.out, Option.map_some, Option.getD_some, Option.isSome_some])
        | (go_at_call 39; refine CW.out.mono ?_; rintro e w1 ⟨rfl, hw'⟩; obtain rfl := hw'.symm))
      go_region_with (go_at_call 43; refine (CL.out _ (by first | exact (Below.refl _ w).drew | exact Below.refl _ w)).mono ?_; rintro e w1 ⟨z, b, rfl, q1, k1⟩
                      have k1 : Kept (que.Mine S.qb S.qm (leftR S x)) w w1 := (Kept.ofBelow (Below.refl _ w).drew).trans k1
                      obtain ⟨lab1, s1, b1, l1⟩ := HS.out.lined k1 mine_left q1 (fun k hk => .inl (mine_left k hk))
                      have X1 := s1.each n x HF.out
                      have d2 : w1.cell? ⟨x.blk, 2, none⟩ = some (.int .i64 x.tk) := (X1.cell 2).trans rfl
                      have d3 : w1.cell? ⟨x.blk, 3, none⟩ = some (.int .i64 x.un) := (X1.cell 3).trans rfl
                      have f2 := X1.froz 2
                      have f3 := X1.froz 3
                      have blt1 := X1.lt.1
                      have H1 : Hid (SAt B w1 lab1 sb { S with gv := S.gv, R := leftR S x } ∧ Below B w w1 ∧ CnAt w1 lab1 n x ∧ Sd w w1) := ⟨s1, b1, X1, Sd.ofKept k1 (fun k c hm => HS.out.lineNo k c (mine_left k hm))⟩
                      clear q1 k1 s1 b1 l1 X1)
      all_goals
        go_wp2_with fail
        go_ret
        obtain ⟨s1, b1, X1, d1⟩ := H1.out
        obtain ⟨X2, k2⟩ := X1.set 0 0
        obtain ⟨s3, b3⟩ := s1.turned HF.out k2 (fun k _ e => by rw [show k = x.blk from e]; exact X1.l1) (fun _ _ => rfl) X2 rfl
        exact ⟨rfl, lab1, _, s3, .inr ⟨HE.out.1, x, HF.out, HE.out.2, rfl⟩, b1.trans b3, d1.trans (Sd.ofKept k2 (fun k c e => by rw [show k = x.blk from e]; exact X1.no.1 c))⟩
set_option maxHeartbeats 2000000 in
set_option maxRecDepth 1000000 in
theorem close_any (n : Int) (B : Nat) (w : World) (lab : Nat → Int) (sb : Nat) (S : Sx) (h : SAt B w lab sb S) (hl : Lined S) (hf : FewS S 1000000000) (hn : (Lit.int .i64 n).wf = true) :
    Calls Try.prog 20 #[ptrV sb, .int .i64 n] w fun e w' => e = .returned (.int .i64 (closeE S n)) ∧ ∃ lab' S', SAt B w' lab' sb S' ∧ Closed S n S' ∧ Below B w w' ∧ Sd w w' := by
  have HS : Hid (SAt B w lab sb S) := h
  have c0 := h.cell0.1
  have cl := h.cell0.2
  have slt := h.lt
  have TB : Hid (VTabI w S.mb S.nn (fun i => (S.F i).map (fun x => ptrV x.blk))) := h.tab
  cases hF : S.F n with
  | none =>
    have e : closeE S n = 162 := by unfold closeE; rw [hF]; rfl
    have HF : Hid (S.F n = none) := hF
    rw [e]
    clear hF h e hf hl
    go_enter Try.func20, Try.ntmps20
    go_wp2_with (refine wpList_vlookI rfl (.tmp 11) (.tmp 12) 47 57 Try.underlying47 (zero_seat _) rfl S.mb S.nn (fun i => (S.F i).map (fun x => ptrV x.blk)) n rfl rfl TB.out hn ?_; simp only [HF.out, Option.map_none, Option.getD_none, Option.isSome_none])
    go_ret
    exact ⟨rfl, lab, S, HS.out, .inl ⟨HF.out, rfl⟩, Below.refl _ _, Sd.refl _⟩
  | some x =>
    have HF : Hid (S.F n = some x) := hF
    have HX := h.each n x hF
    have e : closeE S n = 0 := by unfold closeE; rw [hF]; rfl
    rw [e]
    have CL : Hid (∀ W, Below w.heap.size w W → Calls Try.prog 43 #[.pointer (some ⟨S.qb, 0, none⟩), .int .i64 x.tk] W fun e w' => ∃ z b, e = .returned (.tuple #[.int .i64 z, .bool b]) ∧ que.QueueAtI w' S.qb S.qm S.gv (leftR S x) ∧ Kept (que.Mine S.qb S.qm (leftR S x)) W w') := fun W hW => by
      obtain ⟨z, b, hz⟩ := get_int hl.ints x.tk
      refine (que.leaveI W S.qb S.qm S.gv x.tk S.R (h.line.below hW) (tk_wf hl h hf hF) hl.ints).mono ?_
      rintro e w' ⟨rfl, q1, q2⟩
      exact ⟨z, b, by rw [hz], q1, q2⟩
    have c2 : w.cell? ⟨x.blk, 2, none⟩ = some (.int .i64 x.tk) := (HX.cell 2).trans rfl
    have blt := HX.lt.1
    clear hF h e hf hl HX
    go_enter Try.func20, Try.ntmps20
    go_upto_region 4 with (refine wpList_vlookI rfl (.tmp 11) (.tmp 12) 47 57 Try.underlying47 (zero_seat _) rfl S.mb S.nn (fun i => (S.F i).map (fun x => ptrV x.blk)) n rfl rfl TB.out hn ?_; simp only [HF.out, Option.map_some, Option.getD_some, Option.isSome_some])
    go_region_with (go_at_call 43; refine (CL.out _ (by first | exact (Below.refl _ w).drew | exact Below.refl _ w)).mono ?_; rintro e w1 ⟨z, b, rfl, q1, k1⟩
                    have k1 : Kept (que.Mine S.qb S.qm (leftR S x)) w w1 := (Kept.ofBelow (Below.refl _ w).drew).trans k1
                    obtain ⟨lab1, s1, b1, l1⟩ := HS.out.lined k1 mine_left q1 (fun k hk => .inl (mine_left k hk))
                    have c01 := s1.cell0.1
                    have slt1 := s1.lt
                    have T1 : Hid (VTabI w1 S.mb S.nn (fun i => (S.F i).map (fun x => ptrV x.blk))) := s1.tab
                    have H1 : Hid (SAt B w1 lab1 sb { S with gv := S.gv, R := leftR S x } ∧ Below B w w1 ∧ Sd w w1) := ⟨s1, b1, Sd.ofKept k1 (fun k c hm => HS.out.lineNo k c (mine_left k hm))⟩
                    clear q1 k1 s1 b1 l1)
    all_goals
      go_wp2_with (at_delete; refine wpList_vstrikeI rfl (.tmp 30) (.tmp 31) 47 57 Try.underlying47 rfl S.mb S.nn (fun i => (S.F i).map (fun x => ptrV x.blk)) n rfl rfl T1.out hn ?_; intro w2 t2 g2; simp only [HF.out, Option.map_some, Option.isSome_some, if_true] at t2; have H2 : Hid (VTabI w2 S.mb (S.nn - 1) (delVI (fun i => (S.F i).map (fun x => ptrV x.blk)) n) ∧ Kept (fun k => k = S.mb) w1 w2) := ⟨t2, Kept.ofGrown g2 (fun g e => by cases e; rfl)⟩; clear t2 g2)
      go_ret
      obtain ⟨s1, b1, d1⟩ := H1.out
      obtain ⟨s2, b2⟩ := s1.went H2.out.1 H2.out.2
      exact ⟨rfl, lab1, _, s2, .inr ⟨x, HF.out, rfl⟩, b1.trans b2, d1.trans (Sd.ofKept H2.out.2 (fun k c e => by rw [show k = S.mb from e]; exact s1.tab.no c _))⟩
end Go.Proofs.Ytogmobkkpmpdcaa
