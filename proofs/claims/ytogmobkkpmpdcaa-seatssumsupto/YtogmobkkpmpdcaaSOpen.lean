/-
  Open.
-/
import Derived.Test.YtogmobkkpmpdcaaSNew
namespace Go.Proofs.Ytogmobkkpmpdcaa
open Go.RowKit
/-- What Open tells, and what is there then. -/
def openE (S : Sx) (n : Int) : Int := if n < 0 ∨ 64 ≤ n then 160 else if (S.F n).isSome then 161 else 0
theorem zero_seat (w : World) : (zeroValue 57).run Try.prog w = .ok (.pointer none) w := by kernel_rfl
def Opened (S : Sx) (n : Int) (S' : Sx) : Prop := (openE S n ≠ 0 ∧ S' = S) ∨ (openE S n = 0 ∧ ∃ blk bb bm, S' = { S with F := updF S.F n (some (cn0 blk bb bm)), nn := S.nn + 1 })
set_option maxHeartbeats 2000000 in
set_option maxRecDepth 1000000 in
theorem open_any (n : Int) (B : Nat) (w : World) (lab : Nat → Int) (sb : Nat) (S : Sx) (h : SAt B w lab sb S) (hn : (Lit.int .i64 n).wf = true) (hN : S.nn < maxLen) :
    Calls Try.prog 17 #[ptrV sb, .int .i64 n] w fun e w' => e = .returned (.int .i64 (openE S n)) ∧ ∃ lab' S', SAt B w' lab' sb S' ∧ Opened S n S' ∧ Below B w w' ∧ Sd w w' := by
  have HS : Hid (SAt B w lab sb S) := h
  have c0 := h.cell0.1
  have slt := h.lt
  have TB : Hid (VTabI w S.mb S.nn (fun i => (S.F i).map (fun x => ptrV x.blk))) := h.tab
  have HN : Hid ((Lit.int .i64 n).wf = true ∧ S.nn < maxLen) := ⟨hn, hN⟩
  clear h hn hN
  by_cases h1 : n < 0
  · go_enter Try.func17, Try.ntmps17
    go_wp2_with fail
    go_ret
    have e : openE S n = 160 := if_pos (.inl h1)
    exact ⟨by rw [e]; rfl, lab, S, HS.out, .inl ⟨by rw [e]; decide, rfl⟩, Below.refl _ _, Sd.refl _⟩
  · by_cases h2 : 64 ≤ n
    · go_enter Try.func17, Try.ntmps17
      go_wp2_with fail
      go_ret
      have e : openE S n = 160 := if_pos (.inr h2)
      exact ⟨by rw [e]; rfl, lab, S, HS.out, .inl ⟨by rw [e]; decide, rfl⟩, Below.refl _ _, Sd.refl _⟩
    · cases hF : S.F n with
      | some x =>
        have HF : Hid (S.F n = some x) := hF
        clear hF
        go_enter Try.func17, Try.ntmps17
        go_wp2_with (first
          | (refine wpList_vlookI rfl (.tmp 17) (.tmp 18) 47 57 Try.underlying47 (zero_seat _) rfl S.mb S.nn (fun i => (S.F i).map (fun x => ptrV x.blk)) n rfl rfl TB.out HN.out.1 ?_; simp only [HF.out, Option.map_some, Option.getD_some, Option.isSome_some]))
        go_ret
        have e : openE S n = 161 := by unfold openE; rw [if_neg (by omega), HF.out]; rfl
        exact ⟨by rw [e]; rfl, lab, S, HS.out, .inl ⟨by rw [e]; decide, rfl⟩, Below.refl _ _, Sd.refl _⟩
      | none =>
        have HF : Hid (S.F n = none) := hF
        clear hF
        have CN : Hid (∀ w : World, Calls Try.prog 41 #[] w fun e w' => ∃ blk bb bm, e = .returned (ptrV blk) ∧ (∀ (lab : Nat → Int) (i : Int), (∀ k, w.heap.size ≤ k → k < w'.heap.size → lab k = i) → CnAt w' lab i (cn0 blk bb bm)) ∧ Below w.heap.size w w') := newSeat_any
        go_enter Try.func17, Try.ntmps17
        go_upto_region 6 with (first
          | (refine wpList_vlookI rfl (.tmp 17) (.tmp 18) 47 57 Try.underlying47 (zero_seat _) rfl S.mb S.nn (fun i => (S.F i).map (fun x => ptrV x.blk)) n rfl rfl TB.out HN.out.1 ?_; simp only [HF.out, Option.map_none, Option.getD_none, Option.isSome_none]))
        go_region_with (go_at_call 41; refine (CN.out _).mono ?_; rintro e w1 ⟨blk, bb, bm, rfl, x1, b1⟩; have b1 : Below w.heap.size w w1 := (Below.refl _ w).drew.trans b1; have c01 := (b1.cell (p := ⟨sb, 0, none⟩) slt).trans c0; have slt1 := Nat.lt_of_lt_of_le slt b1.size
                        obtain ⟨w2, hrun, ht2, hg2⟩ := VTabI.put_run Try.underlying47 (TB.out.block (b1.block _ TB.out.lt)) n (ptrV blk) HN.out.2 HN.out.1
                        have H1 : Hid ((∀ (lab : Nat → Int) (i : Int), (∀ k, w.heap.size ≤ k → k < w1.heap.size → lab k = i) → CnAt w1 lab i (cn0 blk bb bm)) ∧ Below w.heap.size w w1) := ⟨x1, b1⟩
                        have H2 : Hid (VTabI w2 S.mb (S.nn + 1) (putVI (fun i => (S.F i).map (fun x => ptrV x.blk)) n (ptrV blk)) ∧ Kept (fun k => k = S.mb) w1 w2) := ⟨by have h := ht2; simp only [HF.out] at h; exact h, Kept.ofGrown hg2 (fun g e => by cases e; rfl)⟩
                        clear x1 b1 ht2 hg2)
        all_goals
          go_wp2_with fail
          go_ret
          obtain ⟨x1, b1⟩ := H1.out
          obtain ⟨t2, k2⟩ := H2.out
          have e : openE S n = 0 := by unfold openE; rw [if_neg (by omega), HF.out]; rfl
          obtain ⟨lab', h1, h2⟩ := HS.out.came (x := cn0 blk bb bm) ⟨by omega, by omega⟩ HF.out b1 (fun lab' hl => x1 lab' n hl) t2 k2
          exact ⟨by rw [e]; rfl, lab', _, h1, .inr ⟨e, blk, bb, bm, rfl⟩, h2, (Sd.ofBelow b1).trans (Sd.ofKept k2 (fun k c e => by rw [show k = S.mb from e]; exact (HS.out.tab.block (b1.block _ HS.out.tab.lt)).no c _))⟩
end Go.Proofs.Ytogmobkkpmpdcaa
