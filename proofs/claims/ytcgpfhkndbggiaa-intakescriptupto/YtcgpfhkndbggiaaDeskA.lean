/-
  The desk: the walk of act.
-/
import Derived.Test.YtcgpfhkndbggiaaDeskC
import Derived.Test.YtcgpfhkndbggiaaDeskW3
import Derived.Test.YtcgpfhkndbggiaaSHand
import Derived.Test.YtcgpfhkndbggiaaActs
namespace Go.Proofs.Ytcgpfhkndbggiaa
open Go.RowKit

/-- What is read of the desk ahead of a call of the pair at place i. -/
def Sees (Db ga gb i : Nat) (va vb : Value) (ib rb : Nat) (X : World) : Prop := X.cell? ⟨Db, 0, none⟩ = some va ∧ X.cell? ⟨Db, 1, none⟩ = some vb ∧ X.cell? ⟨ga, i, none⟩ = some (.pointer (some ⟨ib, 0, none⟩)) ∧ X.cell? ⟨gb, i, none⟩ = some (.pointer (some ⟨rb, 0, none⟩))
theorem DeskAt.sees {w W : World} {lab : Nat → Tag} {Db f n m ga ca gb cb : Nat} {es : List Ent} {L : List Pr} {vl : Value} {R : List UInt8} {M T i : Nat} {p : Pr} (h : DeskAt w lab Db f es L (.slice (some ⟨ga, 0, none⟩) n ca) (.slice (some ⟨gb, 0, none⟩) m cb) vl R M T W) (hi : L[i]? = some p) :
    Sees Db ga gb i (.slice (some ⟨ga, 0, none⟩) n ca) (.slice (some ⟨gb, 0, none⟩) m cb) p.ib p.rb W := by
  obtain ⟨c0, c1, _⟩ := h.cells
  obtain ⟨g, c, e, k⟩ := h.ptrA hi
  obtain ⟨g2, c2, e2, k2⟩ := h.ptrB hi
  simp only [Value.slice.injEq, Option.some.injEq, Addr.mk.injEq, and_true] at e e2
  obtain ⟨rfl, _⟩ := e
  obtain ⟨rfl, _⟩ := e2
  exact ⟨c0, c1, k, k2⟩
theorem act_at {W : World} {qb : Nat} {x0 x1 x2 x3 : Value} (hq : W.heap[qb]? = some (.cells #[x0, x1, x2, x3] 36 (0, 0))) : W.cell? ⟨qb, 0, none⟩ = some x0 ∧ W.cell? ⟨qb, 1, none⟩ = some x1 ∧ W.cell? ⟨qb, 2, none⟩ = some x2 ∧ W.cell? ⟨qb, 3, none⟩ = some x3 := by
  simp [World.cell?, hq]
theorem InAt.noAct {w : World} {ib rb : Nat} {v : Value} {s : In} {cs : Array Value} (h : InAt w ib v s) (hr : w.heap[rb]? = some (.cells cs 36 (0, 0))) : ¬ Mine ib v rb := by
  obtain ⟨g, came, hb, ho, _⟩ := h
  rintro (rfl | hk)
  · unfold BoxAt at hb
    rw [hb] at hr
    simp at hr
  · rcases ho.2 with ⟨rfl, _⟩ | ⟨g', cap, cur, rfl, _, hg, _⟩
    · cases hk
    · cases hk
      rw [hg] at hr
      simp at hr
theorem RfAt.noAct {w : World} {rb qb : Nat} {v : Value} {s : In} {cs : Array Value} (h : RfAt w rb v s) (hr : w.heap[qb]? = some (.cells cs 36 (0, 0))) : ¬ Mine rb v qb := by
  obtain ⟨n, cr, ed, hb, ho, _⟩ := h
  rintro (rfl | hk)
  · unfold RBox at hb
    rw [hb] at hr
    simp at hr
  · rcases ho.2 with ⟨rfl, _⟩ | ⟨g', cap, cur, rfl, _, hg, _⟩
    · cases hk
    · cases hk
      rw [hg] at hr
      simp at hr
theorem body_most (s : In) (n : Int) : (s.body n).most = s.most := by
  unfold In.body
  split <;> rfl

set_option maxHeartbeats 8000000 in
set_option maxRecDepth 1000000 in
theorem dact_any (w W : World) (Db N Q M T : Nat) (x0 x1 x2 : Int) (a : Option Addr) (c : Nat) (b : List UInt8) (h : DK w Db N Q M T W) (hm : MaxAt w) (hN0 : 0 < N) (hN : N ≤ 4) (hb : IsBytes w a c b) (hTM : T ≤ M) (hM : M ≤ 4294967000) (hQ : Q ≤ 16000000) (hT : T + b.length ≤ 2000000000) :
    Calls Try.prog 11 #[.pointer (some ⟨Db, 0, none⟩), .agg #[.int .i64 x0, .int .i64 x1, .int .i64 x2, .slice a b.length c]] W fun e w' => e = .returned (.bool true) ∧ ∃ N', N ≤ N' ∧ N' ≤ 4 ∧ DK w Db N' (Q + 2) (M + 40) (T + b.length) w' := by
  obtain ⟨bl, hbl⟩ : ∃ bl, bl = b.length := ⟨_, rfl⟩
  rw [← hbl]
  have HBL := hide hbl
  obtain ⟨xb, hxb⟩ : ∃ xb, xb = W.heap.size := ⟨_, rfl⟩
  obtain ⟨W1, hW1⟩ : ∃ W1, W1 = W.alloc (.cells #[.int .i64 x0, .int .i64 x1, .int .i64 x2, .slice a bl c] 36) := ⟨_, rfl⟩
  have HW1 := hide hW1
  have BW : Below W.heap.size W W1 := by rw [hW1]; exact (Below.refl _ W).alloc (Nat.le_refl _) _
  have r1 : W1.heap[xb]? = some (.cells #[.int .i64 x0, .int .i64 x1, .int .i64 x2, .slice a bl c] 36 (0, 0)) := by rw [hW1, hxb]; exact heap_alloc_last _ _
  have HBW := hide BW
  have HR1 := hide r1
  have HXB := hide hxb
  have hd1 := h.later BW
  have HH := hide h
  have HD1 := hide hd1
  obtain ⟨q0, q1, q2, q3⟩ := act_at r1
  have hl1 := cell_lt q0
  obtain ⟨n0, hn0⟩ : ∃ na : Option Addr × Nat, W1.cell? ⟨Db, 0, none⟩ = some (.slice na.1 N na.2) := by
    obtain ⟨lab, f, es, L, va, vb, vl, R, hd, hev, hlen, hq⟩ := hd1
    obtain ⟨aa, ca, hva, _⟩ := row_shape hd.rowA.1
    obtain ⟨c0, _⟩ := hd.cells
    rw [hva, hlen] at c0
    exact ⟨(aa, ca), c0⟩
  have hltD := cell_lt hn0
  obtain ⟨hr1, hr2⟩ := among_range (i := x1) (n := (N : Int)) (by omega)
  obtain ⟨i, hie⟩ : ∃ i : Nat, amongI x1 N = i := ⟨(amongI x1 N).toNat, by omega⟩
  have AM := fun X : World => among_any x1 N X (by omega)
  rw [hie] at AM hr1 hr2
  have HAM := hide AM
  obtain ⟨ks1, ks2⟩ := among_range (i := x0) (n := 6) (by omega)
  obtain ⟨km, hkm⟩ : ∃ km : Nat, amongI x0 6 = km := ⟨(amongI x0 6).toNat, by omega⟩
  have AK := fun X : World => among_any x0 6 X (by omega)
  rw [hkm] at AK ks1 ks2
  have HAK := hide AK
  have hi : i < N := by omega
  have HB := hide hb
  clear h hd1 hbl hxb hW1 BW r1 AM AK hie hkm hb
  go_enter Try.func11, Try.ntmps11
  go_upto_region 1 with fail
  rw [← HW1.out, ← HXB.out]
  refine wp_tail 7 mixed (by kernel_rfl) ?_
  simp only [List.take_succ_cons, List.take_zero, List.drop_succ_cons, List.drop_zero]
  still_step
  still_step
  still_step
  still_step
  still_step
  still_step
  still_step
  refine wpStill_nil ?_
  have bx : Below W1.heap.size W1 W1.drew := (Below.refl _ W1).drew
  obtain ⟨wx, hwx⟩ : ∃ wx, wx = W1.drew := ⟨_, rfl⟩
  rw [← hwx] at bx
  have HBX := hide (HBW.out.trans (bx.mono HBW.out.size))
  have HDX := hide (HD1.out.later bx)
  have rx := (bx.block xb hl1).trans HR1.out
  have HRX := hide rx
  go_upto_region 2 with (go_at_call 20; refine (HAM.out _).mono ?_; rintro e w9 ⟨rfl, hw9⟩; rw [hw9]; clear hw9 w9)
  rw [← hwx]
  clear q0 q1 q2 q3 hl1 hn0 hltD hwx bx HD1 HR1 HW1 HBW HAM
  obtain ⟨q0, q1, q2, q3⟩ := act_at rx
  have hl1 := cell_lt q0
  clear q1 rx
  go_upto_region 3 with (go_at_call 20; refine (HAK.out _).mono ?_; rintro e w9 ⟨rfl, hw9⟩; rw [hw9]; clear hw9 w9)
  clear q0
  have hcs : km = 0 ∨ km = 1 ∨ km = 2 ∨ km = 3 ∨ km = 4 ∨ km = 5 := by omega
  clear ks1 ks2 HAK
  rcases hcs with rfl | rfl | rfl | rfl | rfl | rfl
  · have CF := hide (dfeed_any w wx Db N Q M T i a c b HDX.out hm hi HB.out hT)
    rw [← HBL.out] at CF
    go_wp2_with (go_at_call 30; refine CF.out.mono ?_; rintro e w4 ⟨rfl, d4⟩; have D4 := hide d4; clear d4)
    go_ret
    exact ⟨rfl, N, Nat.le_refl _, hN, D4.out.mono (by omega) (by omega) (by omega)⟩
  · have CF := hide (dnext_any w wx Db N Q M T i HDX.out hm hi hTM hM hQ)
    go_wp2_with (go_at_call 13; refine CF.out.mono ?_; rintro e w4 ⟨rfl, d4⟩; have D4 := hide d4; clear d4)
    go_ret
    exact ⟨rfl, N, Nat.le_refl _, hN, D4.out.mono (by omega) (by omega) (by omega)⟩
  · obtain ⟨lab, f, es, L, va, vb, vl, R, hd, hev, hlen, hq⟩ := HDX.out
    obtain ⟨p, hp⟩ : ∃ p, L[i]? = some p := ⟨_, List.getElem?_eq_getElem (by omega)⟩
    have hpp := hd.each i p hp
    obtain ⟨ga, ca, hva, ka⟩ := hd.ptrA hp
    obtain ⟨gb, cb, hvb, kb⟩ := hd.ptrB hp
    rw [hlen] at hva hvb
    subst hva
    subst hvb
    have bd : Below wx.heap.size wx wx.drew := (Below.refl _ wx).drew
    have HD3 := hide (hd.later bd)
    have HP := hide hp
    have HEV := hide hev
    have HLN := hide hlen
    have HQ := hide hq
    have HTS : Hid (p.t = p.s) := (hev i p hp).symm
    have HF := hide (And.intro hpp.fit hpp.most)
    have hiN : (i : Int) < (N : Int) := by omega
    have FT : Hid ((p.s.body x2).Fit ∧ (p.s.body x2).held.length ≤ T ∧ (p.s.body x2).most ≤ 65535) := by
      obtain ⟨q1, q2, _⟩ := body_fit hpp.fit x2
      refine ⟨q1, Nat.le_trans q2 hpp.len, ?_⟩
      rw [body_most]
      exact hpp.most
    have rd := (bd.block xb hl1).trans HRX.out
    have HX : Hid (xb < wx.drew.heap.size ∧ ¬ Mine p.ib p.iv xb ∧ ¬ Mine p.rb p.rv xb ∧ wx.drew.cell? ⟨xb, 2, none⟩ = some (.int .i64 x2)) := ⟨(Array.getElem?_eq_some_iff.1 rd).1, hpp.inA.noAct HRX.out, hpp.inB.noAct HRX.out, (act_at rd).2.2.1⟩
    have h0 : 0 ≠ p.ib := by have := (hpp.mineA p.ib (.inl rfl)).1; have := hm.lt; omega
    have CA := hide (Body_any wx.drew p.ib p.iv p.s x2 (hpp.inA.below bd) hpp.fit (hm.below (hd.below.trans (bd.mono hd.below.size)) hm.lt) h0)
    have sq : Sees Db ga gb i (.slice (some ⟨ga, 0, none⟩) N ca) (.slice (some ⟨gb, 0, none⟩) N cb) p.ib p.rb wx.drew ∧ wx.drew.cell? ⟨xb, 2, none⟩ = some (.int .i64 x2) := ⟨HD3.out.sees hp, HX.out.2.2.2⟩
    clear hd hp hev hlen hq hpp ka kb bd rd h0 q2 q3 hl1 HDX
    go_upto_region 8 with fail
    refine wp_region_held_drew (S := fun X => Sees Db ga gb i (.slice (some ⟨ga, 0, none⟩) N ca) (.slice (some ⟨gb, 0, none⟩) N cb) p.ib p.rb X ∧ X.cell? ⟨xb, 2, none⟩ = some (.int .i64 x2)) (by kernel_rfl) sq (fun _ => ?_)
    refine H_take (i := 0) (v := .pointer (some ⟨Db, 0, none⟩)) (some 31) rfl rfl (by kernel_rfl) (by kernel_rfl) (by kernel_rfl) (fun _ _ _ h => h) rfl (fun X hX => ?_) sq ?_
    · simp [go_sem]
    simp only [Act.put, List.setIfInBounds_toArray, List.set_cons_zero, List.set_cons_succ]
    refine H_take (i := 1) (v := .pointer (some ⟨Db, 0, none⟩)) (some 32) rfl rfl (by kernel_rfl) (by kernel_rfl) (by kernel_rfl) (fun _ _ _ h => h) rfl (fun X hX => ?_) sq ?_
    · simp [go_sem]
    simp only [Act.put, List.setIfInBounds_toArray, List.set_cons_zero, List.set_cons_succ]
    refine H_take (i := 2) (v := .pointer (some ⟨Db, 0, none⟩)) (some 33) rfl rfl (by kernel_rfl) (by kernel_rfl) (by kernel_rfl) (fun _ _ _ h => h) rfl (fun X hX => ?_) sq ?_
    · simp [go_sem]
    simp only [Act.put, List.setIfInBounds_toArray, List.set_cons_zero, List.set_cons_succ]
    refine H_take (i := 3) (v := .slice (some ⟨ga, 0, none⟩) N ca) (some 34) rfl rfl (by kernel_rfl) (by kernel_rfl) (by kernel_rfl) (fun _ _ _ h => h) rfl (fun X hX => ?_) sq ?_
    · exact run_load1 rfl rfl Try.isAgg25 hX.1.1
    simp only [Act.put, List.setIfInBounds_toArray, List.set_cons_zero, List.set_cons_succ]
    refine H_take (i := 4) (v := .int .i64 (i : Int)) (some 35) rfl rfl (by kernel_rfl) (by kernel_rfl) (by kernel_rfl) (fun _ _ _ h => h) rfl (fun X hX => ?_) sq ?_
    · simp [go_sem]
    simp only [Act.put, List.setIfInBounds_toArray, List.set_cons_zero, List.set_cons_succ]
    refine H_take (i := 5) (v := .pointer (some ⟨ga, i, none⟩)) (some 36) rfl rfl (by kernel_rfl) (by kernel_rfl) (by kernel_rfl) (fun _ _ _ h => h) rfl (fun X hX => ?_) sq ?_
    · simp [go_sem, hiN]
    simp only [Act.put, List.setIfInBounds_toArray, List.set_cons_zero, List.set_cons_succ]
    refine H_take (i := 6) (v := .pointer (some ⟨p.ib, 0, none⟩)) (some 37) rfl rfl (by kernel_rfl) (by kernel_rfl) (by kernel_rfl) (fun _ _ _ h => h) rfl (fun X hX => ?_) sq ?_
    · exact run_load1 rfl rfl Try.isAgg38 hX.1.2.2.1
    simp only [Act.put, List.setIfInBounds_toArray, List.set_cons_zero, List.set_cons_succ]
    refine H_take (i := 7) (v := .pointer (some ⟨xb, 2, none⟩)) (some 38) rfl rfl (by kernel_rfl) (by kernel_rfl) (by kernel_rfl) (fun _ _ _ h => h) rfl (fun X hX => ?_) sq ?_
    · simp [go_sem]
    simp only [Act.put, List.setIfInBounds_toArray, List.set_cons_zero, List.set_cons_succ]
    refine H_take (i := 8) (v := .int .i64 x2) (some 39) rfl rfl (by kernel_rfl) (by kernel_rfl) (by kernel_rfl) (fun _ _ _ h => h) rfl (fun X hX => ?_) sq ?_
    · exact run_load1 rfl rfl Try.isAgg3 hX.2
    simp only [Act.put, List.setIfInBounds_toArray, List.set_cons_zero, List.set_cons_succ]
    refine H_take (i := 10) (v := .pointer (some ⟨Db, 0, none⟩)) (some 41) rfl rfl (by kernel_rfl) (by kernel_rfl) (by kernel_rfl) (fun _ _ _ h => h) rfl (fun X hX => ?_) sq ?_
    · simp [go_sem]
    simp only [Act.put, List.setIfInBounds_toArray, List.set_cons_zero, List.set_cons_succ]
    refine H_take (i := 11) (v := .pointer (some ⟨Db, 0, none⟩)) (some 42) rfl rfl (by kernel_rfl) (by kernel_rfl) (by kernel_rfl) (fun _ _ _ h => h) rfl (fun X hX => ?_) sq ?_
    · simp [go_sem]
    simp only [Act.put, List.setIfInBounds_toArray, List.set_cons_zero, List.set_cons_succ]
    refine H_take (i := 12) (v := .pointer (some ⟨Db, 1, none⟩)) (some 43) rfl rfl (by kernel_rfl) (by kernel_rfl) (by kernel_rfl) (fun _ _ _ h => h) rfl (fun X hX => ?_) sq ?_
    · simp [go_sem]
    simp only [Act.put, List.setIfInBounds_toArray, List.set_cons_zero, List.set_cons_succ]
    refine H_take (i := 13) (v := .slice (some ⟨gb, 0, none⟩) N cb) (some 44) rfl rfl (by kernel_rfl) (by kernel_rfl) (by kernel_rfl) (fun _ _ _ h => h) rfl (fun X hX => ?_) sq ?_
    · exact run_load1 rfl rfl Try.isAgg26 hX.1.2.1
    simp only [Act.put, List.setIfInBounds_toArray, List.set_cons_zero, List.set_cons_succ]
    refine H_take (i := 14) (v := .int .i64 (i : Int)) (some 45) rfl rfl (by kernel_rfl) (by kernel_rfl) (by kernel_rfl) (fun _ _ _ h => h) rfl (fun X hX => ?_) sq ?_
    · simp [go_sem]
    simp only [Act.put, List.setIfInBounds_toArray, List.set_cons_zero, List.set_cons_succ]
    refine H_take (i := 15) (v := .pointer (some ⟨gb, i, none⟩)) (some 46) rfl rfl (by kernel_rfl) (by kernel_rfl) (by kernel_rfl) (fun _ _ _ h => h) rfl (fun X hX => ?_) sq ?_
    · simp [go_sem, hiN]
    simp only [Act.put, List.setIfInBounds_toArray, List.set_cons_zero, List.set_cons_succ]
    refine H_take (i := 16) (v := .pointer (some ⟨p.rb, 0, none⟩)) (some 47) rfl rfl (by kernel_rfl) (by kernel_rfl) (by kernel_rfl) (fun _ _ _ h => h) rfl (fun X hX => ?_) sq ?_
    · exact run_load1 rfl rfl Try.isAgg40 hX.1.2.2.2
    simp only [Act.put, List.setIfInBounds_toArray, List.set_cons_zero, List.set_cons_succ]
    refine H_take (i := 17) (v := .pointer (some ⟨xb, 2, none⟩)) (some 48) rfl rfl (by kernel_rfl) (by kernel_rfl) (by kernel_rfl) (fun _ _ _ h => h) rfl (fun X hX => ?_) sq ?_
    · simp [go_sem]
    simp only [Act.put, List.setIfInBounds_toArray, List.set_cons_zero, List.set_cons_succ]
    refine H_take (i := 18) (v := .int .i64 x2) (some 49) rfl rfl (by kernel_rfl) (by kernel_rfl) (by kernel_rfl) (fun _ _ _ h => h) rfl (fun X hX => ?_) sq ?_
    · exact run_load1 rfl rfl Try.isAgg3 hX.2
    simp only [Act.put, List.setIfInBounds_toArray, List.set_cons_zero, List.set_cons_succ]
    refine H_call (i := 9) (f := 27) (args := #[.pointer (some ⟨p.ib, 0, none⟩), .int .i64 x2]) (some 40) rfl rfl (by kernel_rfl) rfl (by simp [go_sem]) (CA.out.mono ?_)
    rintro e w4 ⟨rfl, g4⟩
    obtain ⟨iv1, hin, hk, hmm⟩ := g4
    obtain ⟨lab4, D4, _, _⟩ := HD3.out.turnA HP.out hin hk hmm FT.out.1 FT.out.2.2 FT.out.2.1 (.user 0)
    have P4 : (L.set i { p with iv := iv1, s := p.s.body x2 })[i]? = some { p with iv := iv1, s := p.s.body x2 } := List.getElem?_set_self (List.getElem?_eq_some_iff.1 HP.out).1
    have se4 := D4.sees P4
    have sq4 : Sees Db ga gb i (.slice (some ⟨ga, 0, none⟩) N ca) (.slice (some ⟨gb, 0, none⟩) N cb) p.ib p.rb w4 ∧ w4.cell? ⟨xb, 2, none⟩ = some (.int .i64 x2) := ⟨se4, (World.cell?_of_block (hk.block xb HX.out.1 HX.out.2.1)).trans HX.out.2.2.2⟩
    refine ⟨_, rfl, sq4, ?_⟩
    simp only [Act.put, List.setIfInBounds_toArray, List.set_cons_zero, List.set_cons_succ]
    have hp4 := D4.each i _ P4
    have inB : RfAt w4 p.rb p.rv p.s := by have h1 := hp4.inB; rw [show ({ p with iv := iv1, s := p.s.body x2 } : Pr).t = p.s from HTS.out] at h1; exact h1
    refine H_call (i := 19) (f := 31) (args := #[.pointer (some ⟨p.rb, 0, none⟩), .int .i64 x2]) (some 50) rfl rfl (by kernel_rfl) rfl (by simp [go_sem]) ((refBody_any w4 p.rb p.rv p.s x2 inB HF.out.1.held HF.out.2).mono ?_)
    rintro e w5 ⟨rfl, g5⟩
    have hk5 : Kept (Mine p.rb p.rv) w4 w5 := by obtain ⟨_, _, hk, _⟩ := g5; exact hk
    obtain ⟨lab5, rv1, D5, _, _⟩ := D4.turnB P4 g5
    have P5 : ((L.set i { p with iv := iv1, s := p.s.body x2 }).set i { ({ p with iv := iv1, s := p.s.body x2 } : Pr) with rv := rv1, t := p.s.body x2 })[i]? = some { ({ p with iv := iv1, s := p.s.body x2 } : Pr) with rv := rv1, t := p.s.body x2 } := List.getElem?_set_self (by rw [List.length_set]; exact (List.getElem?_eq_some_iff.1 HP.out).1)
    have se5 := D5.sees P5
    have sq5 : Sees Db ga gb i (.slice (some ⟨ga, 0, none⟩) N ca) (.slice (some ⟨gb, 0, none⟩) N cb) p.ib p.rb w5 ∧ w5.cell? ⟨xb, 2, none⟩ = some (.int .i64 x2) := ⟨se5, (World.cell?_of_block (hk5.block xb (Nat.lt_of_lt_of_le HX.out.1 hk.size) HX.out.2.2.1)).trans sq4.2⟩
    refine ⟨_, rfl, sq5, ?_⟩
    simp only [Act.put, List.setIfInBounds_toArray, List.set_cons_zero, List.set_cons_succ]
    refine H_take (i := 20) (v := .bool true) (some 51) rfl rfl (by kernel_rfl) (by kernel_rfl) (by kernel_rfl) (fun _ _ _ h => h) rfl (fun X hX => ?_) sq5 ?_
    · simp [go_sem]
    simp only [Act.put, List.setIfInBounds_toArray, List.set_cons_zero, List.set_cons_succ]
    refine H_take (i := 21) (v := .bool true) (some 4) rfl rfl (by kernel_rfl) (by kernel_rfl) (by kernel_rfl) (fun _ _ _ h => h) rfl (fun X hX => ?_) sq5 ?_
    · simp [go_sem]
    simp only [Act.put, List.setIfInBounds_toArray, List.set_cons_zero, List.set_cons_succ]
    refine wpAnyH_done (by kernel_rfl) ?_ _
    go_wp2_with fail
    go_ret
    refine ⟨rfl, N, Nat.le_refl _, hN, DK.mono (Q := Q) (M := M) (T := T) ⟨lab5, f, es, _, _, _, vl, R, D5, fun j q hj => ?_, by rw [List.length_set, List.length_set]; exact HLN.out, HQ.out⟩ (by omega) (by omega) (by omega)⟩
    by_cases hji : j = i
    · subst hji
      rw [P5] at hj
      obtain rfl := Option.some.inj hj
      rfl
    · rw [List.getElem?_set_ne (fun e => hji e.symm), List.getElem?_set_ne (fun e => hji e.symm)] at hj
      exact HEV.out j q hj
  · obtain ⟨lab, f, es, L, va, vb, vl, R, hd, hev, hlen, hq⟩ := HDX.out
    obtain ⟨p, hp⟩ : ∃ p, L[i]? = some p := ⟨_, List.getElem?_eq_getElem (by omega)⟩
    have hpp := hd.each i p hp
    obtain ⟨ga, ca, hva, ka⟩ := hd.ptrA hp
    obtain ⟨gb, cb, hvb, kb⟩ := hd.ptrB hp
    rw [hlen] at hva hvb
    subst hva
    subst hvb
    have bd : Below wx.heap.size wx wx.drew := (Below.refl _ wx).drew
    have HD3 := hide (hd.later bd)
    have HP := hide hp
    have HEV := hide hev
    have HLN := hide hlen
    have HQ := hide hq
    have HTS : Hid (p.t = p.s) := (hev i p hp).symm
    have HF := hide (And.intro hpp.fit hpp.most)
    have hiN : (i : Int) < (N : Int) := by omega
    have CA := hide (Held_in wx.drew p.ib p.iv p.s (hpp.inA.below bd) hpp.fit.held)
    have sq : Sees Db ga gb i (.slice (some ⟨ga, 0, none⟩) N ca) (.slice (some ⟨gb, 0, none⟩) N cb) p.ib p.rb wx.drew := HD3.out.sees hp
    clear hd hp hev hlen hq hpp ka kb bd q2 q3 hl1 HDX
    go_upto_region 10 with fail
    refine wp_region_held_drew (S := fun X => Sees Db ga gb i (.slice (some ⟨ga, 0, none⟩) N ca) (.slice (some ⟨gb, 0, none⟩) N cb) p.ib p.rb X) (by kernel_rfl) sq (fun _ => ?_)
    refine H_take (i := 0) (v := .pointer (some ⟨Db, 0, none⟩)) (some 54) rfl rfl (by kernel_rfl) (by kernel_rfl) (by kernel_rfl) (fun _ _ _ h => h) rfl (fun X hX => ?_) sq ?_
    · simp [go_sem]
    simp only [Act.put, List.setIfInBounds_toArray, List.set_cons_zero, List.set_cons_succ]
    refine H_take (i := 1) (v := .pointer (some ⟨Db, 0, none⟩)) (some 55) rfl rfl (by kernel_rfl) (by kernel_rfl) (by kernel_rfl) (fun _ _ _ h => h) rfl (fun X hX => ?_) sq ?_
    · simp [go_sem]
    simp only [Act.put, List.setIfInBounds_toArray, List.set_cons_zero, List.set_cons_succ]
    refine H_take (i := 2) (v := .pointer (some ⟨Db, 0, none⟩)) (some 56) rfl rfl (by kernel_rfl) (by kernel_rfl) (by kernel_rfl) (fun _ _ _ h => h) rfl (fun X hX => ?_) sq ?_
    · simp [go_sem]
    simp only [Act.put, List.setIfInBounds_toArray, List.set_cons_zero, List.set_cons_succ]
    refine H_take (i := 3) (v := .slice (some ⟨ga, 0, none⟩) N ca) (some 57) rfl rfl (by kernel_rfl) (by kernel_rfl) (by kernel_rfl) (fun _ _ _ h => h) rfl (fun X hX => ?_) sq ?_
    · exact run_load1 rfl rfl Try.isAgg25 hX.1
    simp only [Act.put, List.setIfInBounds_toArray, List.set_cons_zero, List.set_cons_succ]
    refine H_take (i := 4) (v := .int .i64 (i : Int)) (some 58) rfl rfl (by kernel_rfl) (by kernel_rfl) (by kernel_rfl) (fun _ _ _ h => h) rfl (fun X hX => ?_) sq ?_
    · simp [go_sem]
    simp only [Act.put, List.setIfInBounds_toArray, List.set_cons_zero, List.set_cons_succ]
    refine H_take (i := 5) (v := .pointer (some ⟨ga, i, none⟩)) (some 59) rfl rfl (by kernel_rfl) (by kernel_rfl) (by kernel_rfl) (fun _ _ _ h => h) rfl (fun X hX => ?_) sq ?_
    · simp [go_sem, hiN]
    simp only [Act.put, List.setIfInBounds_toArray, List.set_cons_zero, List.set_cons_succ]
    refine H_take (i := 6) (v := .pointer (some ⟨p.ib, 0, none⟩)) (some 60) rfl rfl (by kernel_rfl) (by kernel_rfl) (by kernel_rfl) (fun _ _ _ h => h) rfl (fun X hX => ?_) sq ?_
    · exact run_load1 rfl rfl Try.isAgg38 hX.2.2.1
    simp only [Act.put, List.setIfInBounds_toArray, List.set_cons_zero, List.set_cons_succ]
    refine H_take (i := 8) (v := .pointer (some ⟨Db, 0, none⟩)) (some 62) rfl rfl (by kernel_rfl) (by kernel_rfl) (by kernel_rfl) (fun _ _ _ h => h) rfl (fun X hX => ?_) sq ?_
    · simp [go_sem]
    simp only [Act.put, List.setIfInBounds_toArray, List.set_cons_zero, List.set_cons_succ]
    refine H_take (i := 9) (v := .pointer (some ⟨Db, 0, none⟩)) (some 63) rfl rfl (by kernel_rfl) (by kernel_rfl) (by kernel_rfl) (fun _ _ _ h => h) rfl (fun X hX => ?_) sq ?_
    · simp [go_sem]
    simp only [Act.put, List.setIfInBounds_toArray, List.set_cons_zero, List.set_cons_succ]
    refine H_take (i := 10) (v := .pointer (some ⟨Db, 1, none⟩)) (some 64) rfl rfl (by kernel_rfl) (by kernel_rfl) (by kernel_rfl) (fun _ _ _ h => h) rfl (fun X hX => ?_) sq ?_
    · simp [go_sem]
    simp only [Act.put, List.setIfInBounds_toArray, List.set_cons_zero, List.set_cons_succ]
    refine H_take (i := 11) (v := .slice (some ⟨gb, 0, none⟩) N cb) (some 65) rfl rfl (by kernel_rfl) (by kernel_rfl) (by kernel_rfl) (fun _ _ _ h => h) rfl (fun X hX => ?_) sq ?_
    · exact run_load1 rfl rfl Try.isAgg26 hX.2.1
    simp only [Act.put, List.setIfInBounds_toArray, List.set_cons_zero, List.set_cons_succ]
    refine H_take (i := 12) (v := .int .i64 (i : Int)) (some 66) rfl rfl (by kernel_rfl) (by kernel_rfl) (by kernel_rfl) (fun _ _ _ h => h) rfl (fun X hX => ?_) sq ?_
    · simp [go_sem]
    simp only [Act.put, List.setIfInBounds_toArray, List.set_cons_zero, List.set_cons_succ]
    refine H_take (i := 13) (v := .pointer (some ⟨gb, i, none⟩)) (some 67) rfl rfl (by kernel_rfl) (by kernel_rfl) (by kernel_rfl) (fun _ _ _ h => h) rfl (fun X hX => ?_) sq ?_
    · simp [go_sem, hiN]
    simp only [Act.put, List.setIfInBounds_toArray, List.set_cons_zero, List.set_cons_succ]
    refine H_take (i := 14) (v := .pointer (some ⟨p.rb, 0, none⟩)) (some 68) rfl rfl (by kernel_rfl) (by kernel_rfl) (by kernel_rfl) (fun _ _ _ h => h) rfl (fun X hX => ?_) sq ?_
    · exact run_load1 rfl rfl Try.isAgg40 hX.2.2.2
    simp only [Act.put, List.setIfInBounds_toArray, List.set_cons_zero, List.set_cons_succ]
    refine H_call (i := 7) (f := 14) (args := #[.pointer (some ⟨p.ib, 0, none⟩)]) (some 61) rfl rfl (by kernel_rfl) rfl (by simp [go_sem]) (CA.out.mono ?_)
    rintro e w4 ⟨rfl, n4, hw4⟩
    have b4 : Below wx.drew.heap.size wx.drew w4 := by rw [hw4]; exact below_drewN (Below.refl _ _) n4
    clear hw4
    have D4 := HD3.out.later b4
    have sq4 := D4.sees HP.out
    refine ⟨_, rfl, sq4, ?_⟩
    simp only [Act.put, List.setIfInBounds_toArray, List.set_cons_zero, List.set_cons_succ]
    have hp4 := D4.each i _ HP.out
    have inB : RfAt w4 p.rb p.rv p.s := by have h1 := hp4.inB; rw [show p.t = p.s from HTS.out] at h1; exact h1
    refine H_call (i := 15) (f := 15) (args := #[.pointer (some ⟨p.rb, 0, none⟩)]) (some 69) rfl rfl (by kernel_rfl) rfl (by simp [go_sem]) ((refHeld_any w4 p.rb p.rv p.s inB).mono ?_)
    rintro e w5 ⟨rfl, hw5⟩
    rw [hw5]
    clear hw5 w5
    refine ⟨_, rfl, sq4, ?_⟩
    simp only [Act.put, List.setIfInBounds_toArray, List.set_cons_zero, List.set_cons_succ]
    refine H_take (i := 16) (v := .bool true) (some 70) rfl rfl (by kernel_rfl) (by kernel_rfl) (by kernel_rfl) (fun _ _ _ h => h) rfl (fun X hX => ?_) sq4 ?_
    · simp [go_sem]
    simp only [Act.put, List.setIfInBounds_toArray, List.set_cons_zero, List.set_cons_succ]
    refine H_take (i := 17) (v := .bool true) (some 4) rfl rfl (by kernel_rfl) (by kernel_rfl) (by kernel_rfl) (fun _ _ _ h => h) rfl (fun X hX => ?_) sq4 ?_
    · simp [go_sem]
    simp only [Act.put, List.setIfInBounds_toArray, List.set_cons_zero, List.set_cons_succ]
    refine wpAnyH_done (by kernel_rfl) ?_ _
    go_wp2_with fail
    go_ret
    exact ⟨rfl, N, Nat.le_refl _, hN, DK.mono (Q := Q) (M := M) (T := T) ⟨lab, f, es, L, _, _, vl, R, D4, HEV.out, HLN.out, HQ.out⟩ (by omega) (by omega) (by omega)⟩
  · have CF := hide (dclone_any w wx Db N Q M T i x2 HDX.out hi hN)
    go_wp2_with (go_at_call 32; refine CF.out.mono ?_; rintro e w4 ⟨rfl, N4, hn4, hn5, d4⟩; have D4 := hide d4; clear d4)
    go_ret
    exact ⟨rfl, N4, hn4, hn5, D4.out.mono (by omega) (by omega) (by omega)⟩
  · have CF := hide (HDX.out.write (by omega) (by omega))
    have hltD : Db < wx.heap.size := by
      obtain ⟨_, _, _, _, _, _, _, _, hd, _⟩ := HDX.out
      exact hd.cells.2.2.2.2
    go_wp2_with (go_at_call 16; refine CF.out.mono ?_; rintro e w4 ⟨rfl, d4⟩; have D4 := hide d4; clear d4)
    go_ret
    exact ⟨rfl, N, Nat.le_refl _, hN, D4.out.mono (by omega) (by omega) (by omega)⟩
end Go.Proofs.Ytcgpfhkndbggiaa
