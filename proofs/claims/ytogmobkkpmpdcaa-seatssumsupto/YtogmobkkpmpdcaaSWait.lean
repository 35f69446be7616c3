/-
  Wait, Stop, Close.
-/
import Derived.Test.YtogmobkkpmpdcaaSWatch
namespace Go.Proofs.Ytogmobkkpmpdcaa
open Go.RowKit
theorem CnAt.apart {w : World} {lab : Nat → Int} {i : Int} {x : Cn} (h : CnAt w lab i x) : x.bb ≠ x.blk ∧ x.bm ≠ x.blk := by
  constructor
  · intro e
    have h1 := h.book.cell
    rw [e, h.cell 0] at h1
    cases h1
  · intro e
    obtain ⟨es, cl, hm⟩ := h.book.tab.map
    rw [e, h.box] at hm
    cases hm
/-- Its ticket, and until when, are written. -/
theorem CnAt.set {w : World} {lab : Nat → Int} {i : Int} {x : Cn} (h : CnAt w lab i x) (tk un : Int) :
    CnAt ((w.setCell ⟨x.blk, 2, none⟩ (.int .i64 tk)).setCell ⟨x.blk, 3, none⟩ (.int .i64 un)) lab i { x with tk := tk, un := un } ∧ Kept (fun k => k = x.blk) w ((w.setCell ⟨x.blk, 2, none⟩ (.int .i64 tk)).setCell ⟨x.blk, 3, none⟩ (.int .i64 un)) := by
  have hk : Kept (fun k => k = x.blk) w ((w.setCell ⟨x.blk, 2, none⟩ (.int .i64 tk)).setCell ⟨x.blk, 3, none⟩ (.int .i64 un)) := (Kept.setCell (fun k => k = x.blk) w _ _ _ rfl).trans (Kept.setCell (fun k => k = x.blk) _ _ _ _ rfl)
  obtain ⟨cb, hcb⟩ := h.bt
  refine ⟨⟨?_, h.book.kept hk h.apart.1 h.apart.2, ⟨cb, (hk.block _ h.lt.2.1 h.apart.1).trans hcb⟩, h.l1, h.l2, h.l3⟩, hk⟩
  show ((w.setCell ⟨x.blk, 2, none⟩ (.int .i64 tk)).setCell ⟨x.blk, 3, none⟩ (.int .i64 un)).heap[x.blk]? = _
  rw [(set_cells (set_cells h.box 2 (.int .i64 tk)).1 3 (.int .i64 un)).1]
  rfl
/-- How much there may be. -/
structure FewS (S : Sx) (N : Nat) : Prop where
  nn : S.nn ≤ N
  gv : S.gv ≤ N
  rl : S.R.length ≤ N
  n : ∀ i x, S.F i = some x → x.n ≤ N
/-- Who waits has a ticket, and nobody else. -/
structure Lined (S : Sx) : Prop where
  val : ∀ r ∈ S.R, ∃ i x, r.v = .int .i64 i ∧ S.F i = some x ∧ x.tk = r.tk
  wts : ∀ i x, S.F i = some x → x.tk = 0 ∨ ∃ r ∈ S.R, r.tk = x.tk ∧ r.v = .int .i64 i
theorem Lined.ints {S : Sx} (h : Lined S) : ∀ r ∈ S.R, ∃ x : Int, r.v = .int .i64 x := fun r hr => by
  obtain ⟨i, x, h1, _⟩ := h.val r hr
  exact ⟨i, h1⟩
/-- What Wait tells, and what is there then. -/
def waitE (S : Sx) (n u : Int) : Int := match S.F n with | none => 162 | some x => if u < -1 then 1 else if x.tk ≠ 0 then 164 else 0
def waitS (S : Sx) (n u : Int) (k : Nat) (x : Cn) : Sx := { S with gv := S.gv + 1, R := S.R ++ [⟨k, S.gv + 1, .int .i64 n⟩], F := updF S.F n (some { x with tk := S.gv + 1, un := u }) }
def Waited (S : Sx) (n u : Int) (S' : Sx) : Prop := (waitE S n u ≠ 0 ∧ S' = S) ∨ (waitE S n u = 0 ∧ ∃ k x, S.F n = some x ∧ x.tk = 0 ∧ S' = waitS S n u k x)
set_option maxHeartbeats 2000000 in
set_option maxRecDepth 1000000 in
theorem wait_any (n u : Int) (B : Nat) (w : World) (lab : Nat → Int) (sb : Nat) (S : Sx) (h : SAt B w lab sb S) (hn : (Lit.int .i64 n).wf = true) (hf : FewS S 1000000000) :
    Calls Try.prog 18 #[ptrV sb, .int .i64 n, .int .i64 u] w fun e w' => e = .returned (.int .i64 (waitE S n u)) ∧ ∃ lab' S', SAt B w' lab' sb S' ∧ Waited S n u S' ∧ Below B w w' ∧ Sd w w' := by
  have HS : Hid (SAt B w lab sb S) := h
  have c0 := h.cell0.1
  have cl := h.cell0.2
  have slt := h.lt
  have TB : Hid (VTabI w S.mb S.nn (fun i => (S.F i).map (fun x => ptrV x.blk))) := h.tab
  cases hF : S.F n with
  | none =>
    have e : waitE S n u = 162 := by unfold waitE; rw [hF]
    have HF : Hid (S.F n = none) := hF
    rw [e]
    have HE : Hid (waitE S n u ≠ 0) := (by rw [e]; decide : waitE S n u ≠ 0)
    clear hF h e hf
    go_enter Try.func18, Try.ntmps18
    go_wp2_with (refine wpList_vlookI rfl (.tmp 13) (.tmp 14) 47 57 Try.underlying47 (zero_seat _) rfl S.mb S.nn (fun i => (S.F i).map (fun x => ptrV x.blk)) n rfl rfl TB.out hn ?_; simp only [HF.out, Option.map_none, Option.getD_none, Option.isSome_none])
    go_ret
    exact ⟨rfl, lab, S, HS.out, .inl ⟨HE.out, rfl⟩, Below.refl _ _, Sd.refl _⟩
  | some x =>
    have HF : Hid (S.F n = some x) := hF
    have HX := h.each n x hF
    by_cases hu : u < -1
    · have e : waitE S n u = 1 := by unfold waitE; rw [hF]; exact if_pos hu
      rw [e]
      have HE : Hid (waitE S n u ≠ 0) := (by rw [e]; decide : waitE S n u ≠ 0)
      clear hF h e hf HX
      go_enter Try.func18, Try.ntmps18
      go_wp2_with (refine wpList_vlookI rfl (.tmp 13) (.tmp 14) 47 57 Try.underlying47 (zero_seat _) rfl S.mb S.nn (fun i => (S.F i).map (fun x => ptrV x.blk)) n rfl rfl TB.out hn ?_; simp only [HF.out, Option.map_some, Option.getD_some, Option.isSome_some])
      go_ret
      exact ⟨rfl, lab, S, HS.out, .inl ⟨HE.out, rfl⟩, Below.refl _ _, Sd.refl _⟩
    · have CW : Hid (Calls Try.prog 39 #[ptrV x.blk] w fun e w' => e = .returned (.bool (x.tk != 0)) ∧ w' = w) := waits_any w lab n x HX
      by_cases ht : x.tk = 0
      · have e : waitE S n u = 0 := by unfold waitE; rw [hF]; simp only []; rw [if_neg hu, if_neg (by simpa using ht)]
        rw [e]
        have HE : Hid (waitE S n u = 0 ∧ x.tk = 0) := ⟨e, ht⟩
        have CJ : Hid (Calls Try.prog 42 #[.pointer (some ⟨S.qb, 0, none⟩), .int .i64 n] w fun e w' => e = .returned (.int .i64 (S.gv + 1)) ∧ que.QueueAtI w' S.qb S.qm (S.gv + 1) (S.R ++ [⟨w.heap.size, S.gv + 1, .int .i64 n⟩]) ∧ Kept (que.Mine S.qb S.qm S.R) w w') :=
          que.joinI w S.qb S.qm S.gv (.int .i64 n) S.R h.line (by have := hf.gv; omega) (by have := hf.rl; unfold maxLen; omega) ⟨n, rfl⟩
        have hm : ∀ k, que.Mine S.qb S.qm (S.R ++ [⟨w.heap.size, S.gv + 1, .int .i64 n⟩]) k → que.Mine S.qb S.qm S.R k ∨ w.heap.size ≤ k := by
          rintro k (h1 | h1 | ⟨r, hr, rfl⟩)
          · exact .inl (.inl h1)
          · exact .inl (.inr (.inl h1))
          · rcases List.mem_append.1 hr with hr | hr
            · exact .inl (.inr (.inr ⟨r, hr, rfl⟩))
            · obtain rfl := List.mem_singleton.1 hr
              exact .inr (Nat.le_refl _)
        have HM : Hid (∀ k, que.Mine S.qb S.qm (S.R ++ [⟨w.heap.size, S.gv + 1, .int .i64 n⟩]) k → que.Mine S.qb S.qm S.R k ∨ w.heap.size ≤ k) := hm
        have htb : (x.tk != 0) = false := by simpa using ht
        rw [htb] at CW
        clear hF h e hf HX ht htb hm
        go_enter Try.func18, Try.ntmps18
        go_wp2_with (first
          | (refine wpList_vlookI rfl (.tmp 13) (.tmp 14) 47 57 Try.underlying47 (zero_seat _) rfl S.mb S.nn (fun i => (S.F i).map (fun x => ptrV x.blk)) n rfl rfl TB.out hn ?_; simp only [HF.out, Option.map_some, Option.getD_some, Option.isSome_some])
          | (go_at_call 39; refine CW.out.mono ?_; rintro e w1 ⟨rfl, hw'⟩; obtain rfl := hw'.symm)
          | (go_at_call 42; refine CJ.out.mono ?_; rintro e w1 ⟨rfl, q1, k1⟩
             obtain ⟨lab1, s1, b1, l1⟩ := HS.out.lined k1 (fun _ h => h) q1 HM.out
             have X1 := s1.each n x HF.out
             have d2 : w1.cell? ⟨x.blk, 2, none⟩ = some (.int .i64 x.tk) := (X1.cell 2).trans rfl
             have d3 : w1.cell? ⟨x.blk, 3, none⟩ = some (.int .i64 x.un) := (X1.cell 3).trans rfl
             have f2 := X1.froz 2
             have f3 := X1.froz 3
             have blt1 := X1.lt.1
             have H1 : Hid (SAt B w1 lab1 sb { S with gv := S.gv + 1, R := S.R ++ [⟨w.heap.size, S.gv + 1, .int .i64 n⟩] } ∧ Below B w w1 ∧ CnAt w1 lab1 n x ∧ Sd w w1) := ⟨s1, b1, X1, Sd.ofKept k1 HS.out.lineNo⟩
             clear q1 k1 s1 b1 l1 X1))
        go_ret
        obtain ⟨s1, b1, X1, d1⟩ := H1.out
        obtain ⟨X2, k2⟩ := X1.set (S.gv + 1) u
        obtain ⟨s3, b3⟩ := s1.turned HF.out k2 (fun k _ e => by rw [show k = x.blk from e]; exact X1.l1) (fun _ _ => rfl) X2 rfl
        exact ⟨rfl, lab1, _, s3, .inr ⟨HE.out.1, w.heap.size, x, HF.out, HE.out.2, rfl⟩, b1.trans b3, d1.trans (Sd.ofKept k2 (fun k c e => by rw [show k = x.blk from e]; exact X1.no.1 c))⟩
      · have e : waitE S n u = 164 := by unfold waitE; rw [hF]; simp only []; rw [if_neg hu, if_pos ht]
        rw [e]
        have HE : Hid (waitE S n u ≠ 0) := (by rw [e]; decide : waitE S n u ≠ 0)
        have htb : (x.tk != 0) = true := by simpa using ht
        rw [htb] at CW
        clear hF h e hf HX ht htb
        go_enter Try.func18, Try.ntmps18
        go_wp2_with (first
          | (refine wpList_vlookI rfl (.tmp 13) (.tmp 14) 47 57 Try.underlying47 (zero_seat _) rfl S.mb S.nn (fun i => (S.F i).map (fun x => ptrV x.blk)) n rfl rfl TB.out hn ?_; simp only [HF.out, Option.map_some, Option.getD_some, Option.isSome_some])
          | (go_at_call 39; refine CW.out.mono ?_; rintro e w1 ⟨rfl, hw'⟩; obtain rfl := hw'.symm))
        go_ret
        exact ⟨rfl, lab, S, HS.out, .inl ⟨HE.out, rfl⟩, Below.refl _ _, Sd.refl _⟩
end Go.Proofs.Ytogmobkkpmpdcaa
