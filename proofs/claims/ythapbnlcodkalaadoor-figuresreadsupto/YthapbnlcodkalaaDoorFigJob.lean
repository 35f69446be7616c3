/-
  Layer 13: a job.
-/
import Derived.Test.YthapbnlcodkalaaDoorFigTube
namespace Go.Proofs.YthapbnlcodkalaaDoor
open Go.RowKit Go.Sort

def jId : ByteArray := ⟨#[105, 100]⟩
def jTube : ByteArray := ⟨#[116, 117, 98, 101]⟩
def jState : ByteArray := ⟨#[115, 116, 97, 116, 101]⟩
def jPri : ByteArray := ⟨#[112, 114, 105]⟩
def jAge : ByteArray := ⟨#[97, 103, 101]⟩
def jDelay : ByteArray := ⟨#[100, 101, 108, 97, 121]⟩
def jTtr : ByteArray := ⟨#[116, 116, 114]⟩
def jLeft : ByteArray := ⟨#[116, 105, 109, 101, 45, 108, 101, 102, 116]⟩
def jFile : ByteArray := ⟨#[102, 105, 108, 101]⟩
def jRes : ByteArray := ⟨#[114, 101, 115, 101, 114, 118, 101, 115]⟩
def jTim : ByteArray := ⟨#[116, 105, 109, 101, 111, 117, 116, 115]⟩
def jRel : ByteArray := ⟨#[114, 101, 108, 101, 97, 115, 101, 115]⟩
def jBur : ByteArray := ⟨#[98, 117, 114, 105, 101, 115]⟩
def jKic : ByteArray := ⟨#[107, 105, 99, 107, 115]⟩
def stS (n : Int) : ByteArray := if n = 1 then ⟨#[114, 101, 97, 100, 121]⟩ else if n = 2 then ⟨#[100, 101, 108, 97, 121, 101, 100]⟩ else if n = 3 then ⟨#[114, 101, 115, 101, 114, 118, 101, 100]⟩ else if n = 4 then ⟨#[98, 117, 114, 105, 101, 100]⟩ else ⟨#[]⟩
def tlI (st du now : Int) : Int := if st = 2 ∨ st = 3 then lessI du now else 0
def jobP (nm : ByteArray) (id pr dl tr bo st du _od _ho c0 c1 c2 c3 c4 file now : Int) : List BP := [(jId, prS id), (jTube, nm), (jState, stS st), (jPri, prS pr), (jAge, prS (lessI now bo)), (jDelay, prS dl), (jTtr, prS tr), (jLeft, prS (tlI st du now)), (jFile, prS file), (jRes, prS c0), (jTim, prS c1), (jRel, prS c2), (jBur, prS c3), (jKic, prS c4)]
theorem tl_64 (st du now : Int) : I64 (tlI st du now) := by
  unfold tlI
  split
  · exact lessI_64 _ _
  · unfold I64; decide
theorem info_job : (Tryd.prog.info? 26).map (·.size) = some 16 := by kernel_rfl
set_option maxHeartbeats 2000000 in
set_option maxRecDepth 1000000 in
theorem stateName_any (n : Int) (w : World) : Calls Tryd.prog 24 #[.int .i64 n] w fun e w' => e = .returned (.string (stS n)) ∧ w' = w := by
  by_cases h1 : n = 1
  · subst h1
    go_enter Tryd.func24, Tryd.ntmps24
    go_wp2_with fail
    go_ret
    exact ⟨rfl, rfl⟩
  by_cases h2 : n = 2
  · subst h2
    go_enter Tryd.func24, Tryd.ntmps24
    go_wp2_with fail
    go_ret
    exact ⟨rfl, rfl⟩
  by_cases h3 : n = 3
  · subst h3
    go_enter Tryd.func24, Tryd.ntmps24
    go_wp2_with fail
    go_ret
    exact ⟨rfl, rfl⟩
  by_cases h4 : n = 4
  · subst h4
    go_enter Tryd.func24, Tryd.ntmps24
    go_wp2_with fail
    go_ret
    exact ⟨rfl, rfl⟩
  have e1 : (n == 1) = false := by simpa using h1
  have e2 : (n == 2) = false := by simpa using h2
  have e3 : (n == 3) = false := by simpa using h3
  have e4 : (n == 4) = false := by simpa using h4
  have hs : Hid (stS n = ⟨#[]⟩) := by show _ = _; rw [stS, if_neg h1, if_neg h2, if_neg h3, if_neg h4]
  clear h1 h2 h3 h4
  go_enter Tryd.func24, Tryd.ntmps24
  go_wp2_with fail
  go_ret
  exact ⟨by rw [hs.out]; rfl, rfl⟩
set_option maxHeartbeats 4000000 in
set_option maxRecDepth 1000000 in
theorem timeLeft_any (nm : ByteArray) (id pr dl tr bo st du od ho c0 c1 c2 c3 c4 now : Int) (bv : Value) (w : World) :
    Calls Tryd.prog 26 #[.agg #[.int .i64 id, .int .i64 pr, .int .i64 dl, .int .i64 tr, .int .i64 bo, .int .i64 st, .int .i64 du, .int .i64 od, .int .i64 ho, .int .i64 c0, .int .i64 c1, .int .i64 c2, .int .i64 c3, .int .i64 c4, .string nm, bv], .int .i64 now] w fun e w' => e = .returned (.int .i64 (tlI st du now)) ∧ Below w.heap.size w w' := by
  by_cases h2 : st = 2
  · subst h2
    go_enter Tryd.func26, Tryd.ntmps26
    go_wp2_with (go_at_call 25; refine (less_any du now _).mono ?_; rintro e w2 ⟨rfl, hw2⟩; obtain rfl := hw2.symm)
    go_ret
    exact ⟨rfl, (Below.refl _ w).alloc (Nat.le_refl _) _⟩
  by_cases h3 : st = 3
  · subst h3
    go_enter Tryd.func26, Tryd.ntmps26
    go_wp2_with (go_at_call 25; refine (less_any du now _).mono ?_; rintro e w2 ⟨rfl, hw2⟩; obtain rfl := hw2.symm)
    go_ret
    exact ⟨rfl, (Below.refl _ w).alloc (Nat.le_refl _) _⟩
  have e2 : (st != 2) = true := by simpa using h2
  have e3 : (st != 3) = true := by simpa using h3
  have hs : Hid (tlI st du now = 0) := by show _ = _; rw [tlI, if_neg (by omega)]
  clear h2 h3
  go_enter Tryd.func26, Tryd.ntmps26
  go_wp2_with fail
  go_ret
  exact ⟨by rw [hs.out]; rfl, (Below.refl _ w).alloc (Nat.le_refl _) _⟩
set_option maxHeartbeats 8000000 in
set_option maxRecDepth 1000000 in
theorem job_any (nm : ByteArray) (id pr dl tr bo st du od ho c0 c1 c2 c3 c4 file now : Int) (bv : Value) (W : World) (hp : PowAt W) (hn : I64 id ∧ I64 pr ∧ I64 dl ∧ I64 tr ∧ I64 bo ∧ I64 st ∧ I64 du ∧ I64 od ∧ I64 ho ∧ I64 c0 ∧ I64 c1 ∧ I64 c2 ∧ I64 c3 ∧ I64 c4 ∧ I64 file ∧ I64 now) (hb : (dictL ((jobP nm id pr dl tr bo st du od ho c0 c1 c2 c3 c4 file now).map un)).length < 140737488355328) :
    Calls Tryd.prog 10 #[.agg #[.int .i64 id, .int .i64 pr, .int .i64 dl, .int .i64 tr, .int .i64 bo, .int .i64 st, .int .i64 du, .int .i64 od, .int .i64 ho, .int .i64 c0, .int .i64 c1, .int .i64 c2, .int .i64 c3, .int .i64 c4, .string nm, bv], .int .i64 file, .int .i64 now] W fun e w' => ∃ v, e = .returned v ∧ Own w' W.heap.size v (if dictE ((jobP nm id pr dl tr bo st du od ho c0 c1 c2 c3 c4 file now).map un) = 0 then dictL ((jobP nm id pr dl tr bo st du od ho c0 c1 c2 c3 c4 file now).map un) else []) ∧ Below W.heap.size W w' := by
  obtain ⟨C, hC⟩ : ∃ C : Array Value, C = #[.int .i64 id, .int .i64 pr, .int .i64 dl, .int .i64 tr, .int .i64 bo, .int .i64 st, .int .i64 du, .int .i64 od, .int .i64 ho, .int .i64 c0, .int .i64 c1, .int .i64 c2, .int .i64 c3, .int .i64 c4, .string nm, bv] := ⟨_, rfl⟩
  obtain ⟨W1, hW1⟩ : ∃ W1, W1 = W.alloc (.cells C 26) := ⟨_, rfl⟩
  obtain ⟨sb, hsb⟩ : ∃ sb, sb = W.heap.size := ⟨_, rfl⟩
  have B1 : Hid (Below W.heap.size W W1 ∧ W1.heap[sb]? = some (.cells C 26 (0, 0)) ∧ sb < W1.heap.size) := by
    rw [hW1, hsb]
    exact ⟨(Below.refl _ W).alloc (Nat.le_refl _) _, heap_alloc_new W _, by simp⟩
  have HP : Hid (PowAt W1) := tab_below B1.out.1 hp
  have HC : Hid (C = #[.int .i64 id, .int .i64 pr, .int .i64 dl, .int .i64 tr, .int .i64 bo, .int .i64 st, .int .i64 du, .int .i64 od, .int .i64 ho, .int .i64 c0, .int .i64 c1, .int .i64 c2, .int .i64 c3, .int .i64 c4, .string nm, bv] ∧ C.size = 16) := ⟨hC, by rw [hC]; rfl⟩
  have HN := hide hn
  have HBD := hide hb
  have CP : Hid (∀ w, Calls Tryd.prog 26 #[.agg C, .int .i64 now] w fun e w' => e = .returned (.int .i64 (tlI st du now)) ∧ Below w.heap.size w w') := by
    rw [hC]
    exact timeLeft_any nm id pr dl tr bo st du od ho c0 c1 c2 c3 c4 now bv
  obtain ⟨lf, hlf⟩ : ∃ lf, lf = tlI st du now := ⟨_, rfl⟩
  rw [← hlf] at CP
  have HLF := hide hlf
  obtain ⟨ag, hag⟩ : ∃ ag, ag = lessI now bo := ⟨_, rfl⟩
  have CA : Hid (∀ w, Calls Tryd.prog 25 #[.int .i64 now, .int .i64 bo] w fun e w' => e = .returned (.int .i64 ag) ∧ w' = w) := by
    rw [hag]
    exact less_any now bo
  have HAG := hide hag
  obtain ⟨sw, hsw⟩ : ∃ sw, sw = stS st := ⟨_, rfl⟩
  have CW : Hid (∀ w, Calls Tryd.prog 24 #[.int .i64 st] w fun e w' => e = .returned (.string sw) ∧ w' = w) := by
    rw [hsw]
    exact stateName_any st
  have HSW := hide hsw
  obtain ⟨DD, hDD⟩ : ∃ DD, DD = (if dictE ((jobP nm id pr dl tr bo st du od ho c0 c1 c2 c3 c4 file now).map un) = 0 then dictL ((jobP nm id pr dl tr bo st du od ho c0 c1 c2 c3 c4 file now).map un) else []) := ⟨_, rfl⟩
  rw [← hDD]
  have HDD := hide hDD
  clear hDD
  have HW1 := hide (And.intro hW1 hsb)
  rw [← hC]
  clear hC hW1 hsb hp hn hb hlf hag hsw
  go_enter Tryd.func10, Tryd.ntmps10
  go_upto_region 1 with fail
  rw [← HW1.out.1, ← HW1.out.2]
  clear HW1
  go_wp2_with fail
  refine (sheet_any W1).mono ?_
  rintro e W2 ⟨rfl, s2⟩
  obtain ⟨pb, hpb⟩ : ∃ pb, pb = W1.heap.size + 1 := ⟨_, rfl⟩
  obtain ⟨tb, htb⟩ : ∃ tb, tb = W1.heap.size := ⟨_, rfl⟩
  rw [← hpb, ← htb] at s2 ⊢
  have S0 := hide s2
  clear s2 hpb htb
  have x0 : W2.cell? ⟨sb, 0, none⟩ = some (.int .i64 id) := by
    rw [cell_of_row W2 sb 0 C _ (0, 0) ((S0.out.below.block sb B1.out.2.2).trans B1.out.2.1), HC.out.1]
    rfl
  go_wp2_with fail
  refine (number_any W1 W2 pb tb tb _ ([]) jId id S0.out (by simp) HN.out.1 (tab_below S0.out.below HP.out)).mono ?_
  rintro e W3 ⟨rfl, s0⟩
  have S1 := hide s0
  clear s0 x0
  have x0 : W3.cell? ⟨sb, 14, none⟩ = some (.string nm) := by
    rw [cell_of_row W3 sb 14 C _ (0, 0) ((S1.out.below.block sb B1.out.2.2).trans B1.out.2.1), HC.out.1]
    rfl
  go_wp2_with fail
  refine (text_any W1 W3 pb tb tb _ ([] ++ [(jId, prS id)]) jTube nm S1.out (by simp)).mono ?_
  rintro e W4 ⟨rfl, s0⟩
  have S2 := hide s0
  clear s0 x0
  have x0 : W4.cell? ⟨sb, 5, none⟩ = some (.int .i64 st) := by
    rw [cell_of_row W4 sb 5 C _ (0, 0) ((S2.out.below.block sb B1.out.2.2).trans B1.out.2.1), HC.out.1]
    rfl
  go_wp2_with (go_at_call 24; refine (CW.out _).mono ?_; rintro e w2 ⟨rfl, hw2⟩; obtain rfl := hw2.symm)
  refine (text_any W1 W4 pb tb tb _ ([] ++ [(jId, prS id)] ++ [(jTube, nm)]) jState sw S2.out (by simp)).mono ?_
  rintro e W5 ⟨rfl, s0⟩
  have S3 := hide s0
  clear s0 x0
  have x0 : W5.cell? ⟨sb, 1, none⟩ = some (.int .i64 pr) := by
    rw [cell_of_row W5 sb 1 C _ (0, 0) ((S3.out.below.block sb B1.out.2.2).trans B1.out.2.1), HC.out.1]
    rfl
  go_wp2_with fail
  refine (number_any W1 W5 pb tb tb _ ([] ++ [(jId, prS id)] ++ [(jTube, nm)] ++ [(jState, sw)]) jPri pr S3.out (by simp) HN.out.2.1 (tab_below S3.out.below HP.out)).mono ?_
  rintro e W6 ⟨rfl, s0⟩
  have S4 := hide s0
  clear s0 x0
  have x0 : W6.cell? ⟨sb, 4, none⟩ = some (.int .i64 bo) := by
    rw [cell_of_row W6 sb 4 C _ (0, 0) ((S4.out.below.block sb B1.out.2.2).trans B1.out.2.1), HC.out.1]
    rfl
  go_wp2_with (go_at_call 25; refine (CA.out _).mono ?_; rintro e w2 ⟨rfl, hw2⟩; obtain rfl := hw2.symm)
  refine (number_any W1 W6 pb tb tb _ ([] ++ [(jId, prS id)] ++ [(jTube, nm)] ++ [(jState, sw)] ++ [(jPri, prS pr)]) jAge ag S4.out (by simp) (by rw [HAG.out]; exact lessI_64 _ _) (tab_below S4.out.below HP.out)).mono ?_
  rintro e W7 ⟨rfl, s0⟩
  have S5 := hide s0
  clear s0 x0
  have x0 : W7.cell? ⟨sb, 2, none⟩ = some (.int .i64 dl) := by
    rw [cell_of_row W7 sb 2 C _ (0, 0) ((S5.out.below.block sb B1.out.2.2).trans B1.out.2.1), HC.out.1]
    rfl
  go_wp2_with fail
  refine (number_any W1 W7 pb tb tb _ ([] ++ [(jId, prS id)] ++ [(jTube, nm)] ++ [(jState, sw)] ++ [(jPri, prS pr)] ++ [(jAge, prS ag)]) jDelay dl S5.out (by simp) HN.out.2.2.1 (tab_below S5.out.below HP.out)).mono ?_
  rintro e W8 ⟨rfl, s0⟩
  have S6 := hide s0
  clear s0 x0
  have x0 : W8.cell? ⟨sb, 3, none⟩ = some (.int .i64 tr) := by
    rw [cell_of_row W8 sb 3 C _ (0, 0) ((S6.out.below.block sb B1.out.2.2).trans B1.out.2.1), HC.out.1]
    rfl
  go_wp2_with fail
  refine (number_any W1 W8 pb tb tb _ ([] ++ [(jId, prS id)] ++ [(jTube, nm)] ++ [(jState, sw)] ++ [(jPri, prS pr)] ++ [(jAge, prS ag)] ++ [(jDelay, prS dl)]) jTtr tr S6.out (by simp) HN.out.2.2.2.1 (tab_below S6.out.below HP.out)).mono ?_
  rintro e W9 ⟨rfl, s0⟩
  have S7 := hide s0
  clear s0 x0
  go_wp2_with (first
    | (refine wpList_load_row rfl 26 (.tmp 3) rfl sb rfl 26 C (0, 0) _ ((S7.out.below.block sb B1.out.2.2).trans B1.out.2.1) Tryd.underlying26 rfl (by rw [HC.out.2]; exact info_job) ?_)
    | (go_at_call 26; refine (CP.out _).mono ?_; rintro e W10 ⟨rfl, b12⟩; have S8 := hide (S7.out.later b12); clear b12))
  refine (number_any W1 W10 pb tb tb _ ([] ++ [(jId, prS id)] ++ [(jTube, nm)] ++ [(jState, sw)] ++ [(jPri, prS pr)] ++ [(jAge, prS ag)] ++ [(jDelay, prS dl)] ++ [(jTtr, prS tr)]) jLeft lf S8.out (by simp) (by rw [HLF.out]; exact tl_64 _ _ _) (tab_below S8.out.below HP.out)).mono ?_
  rintro e W11 ⟨rfl, s0⟩
  have S9 := hide s0
  clear s0
  go_wp2_with fail
  refine (number_any W1 W11 pb tb tb _ ([] ++ [(jId, prS id)] ++ [(jTube, nm)] ++ [(jState, sw)] ++ [(jPri, prS pr)] ++ [(jAge, prS ag)] ++ [(jDelay, prS dl)] ++ [(jTtr, prS tr)] ++ [(jLeft, prS lf)]) jFile file S9.out (by simp) HN.out.2.2.2.2.2.2.2.2.2.2.2.2.2.2.1 (tab_below S9.out.below HP.out)).mono ?_
  rintro e W12 ⟨rfl, s0⟩
  have S10 := hide s0
  clear s0
  have x0 : W12.cell? ⟨sb, 9, none⟩ = some (.int .i64 c0) := by
    rw [cell_of_row W12 sb 9 C _ (0, 0) ((S10.out.below.block sb B1.out.2.2).trans B1.out.2.1), HC.out.1]
    rfl
  go_wp2_with fail
  refine (number_any W1 W12 pb tb tb _ ([] ++ [(jId, prS id)] ++ [(jTube, nm)] ++ [(jState, sw)] ++ [(jPri, prS pr)] ++ [(jAge, prS ag)] ++ [(jDelay, prS dl)] ++ [(jTtr, prS tr)] ++ [(jLeft, prS lf)] ++ [(jFile, prS file)]) jRes c0 S10.out (by simp) HN.out.2.2.2.2.2.2.2.2.2.1 (tab_below S10.out.below HP.out)).mono ?_
  rintro e W13 ⟨rfl, s0⟩
  have S11 := hide s0
  clear s0 x0
  have x0 : W13.cell? ⟨sb, 10, none⟩ = some (.int .i64 c1) := by
    rw [cell_of_row W13 sb 10 C _ (0, 0) ((S11.out.below.block sb B1.out.2.2).trans B1.out.2.1), HC.out.1]
    rfl
  go_wp2_with fail
  refine (number_any W1 W13 pb tb tb _ ([] ++ [(jId, prS id)] ++ [(jTube, nm)] ++ [(jState, sw)] ++ [(jPri, prS pr)] ++ [(jAge, prS ag)] ++ [(jDelay, prS dl)] ++ [(jTtr, prS tr)] ++ [(jLeft, prS lf)] ++ [(jFile, prS file)] ++ [(jRes, prS c0)]) jTim c1 S11.out (by simp) HN.out.2.2.2.2.2.2.2.2.2.2.1 (tab_below S11.out.below HP.out)).mono ?_
  rintro e W14 ⟨rfl, s0⟩
  have S12 := hide s0
  clear s0 x0
  have x0 : W14.cell? ⟨sb, 11, none⟩ = some (.int .i64 c2) := by
    rw [cell_of_row W14 sb 11 C _ (0, 0) ((S12.out.below.block sb B1.out.2.2).trans B1.out.2.1), HC.out.1]
    rfl
  go_wp2_with fail
  refine (number_any W1 W14 pb tb tb _ ([] ++ [(jId, prS id)] ++ [(jTube, nm)] ++ [(jState, sw)] ++ [(jPri, prS pr)] ++ [(jAge, prS ag)] ++ [(jDelay, prS dl)] ++ [(jTtr, prS tr)] ++ [(jLeft, prS lf)] ++ [(jFile, prS file)] ++ [(jRes, prS c0)] ++ [(jTim, prS c1)]) jRel c2 S12.out (by simp) HN.out.2.2.2.2.2.2.2.2.2.2.2.1 (tab_below S12.out.below HP.out)).mono ?_
  rintro e W15 ⟨rfl, s0⟩
  have S13 := hide s0
  clear s0 x0
  have x0 : W15.cell? ⟨sb, 12, none⟩ = some (.int .i64 c3) := by
    rw [cell_of_row W15 sb 12 C _ (0, 0) ((S13.out.below.block sb B1.out.2.2).trans B1.out.2.1), HC.out.1]
    rfl
  go_wp2_with fail
  refine (number_any W1 W15 pb tb tb _ ([] ++ [(jId, prS id)] ++ [(jTube, nm)] ++ [(jState, sw)] ++ [(jPri, prS pr)] ++ [(jAge, prS ag)] ++ [(jDelay, prS dl)] ++ [(jTtr, prS tr)] ++ [(jLeft, prS lf)] ++ [(jFile, prS file)] ++ [(jRes, prS c0)] ++ [(jTim, prS c1)] ++ [(jRel, prS c2)]) jBur c3 S13.out (by simp) HN.out.2.2.2.2.2.2.2.2.2.2.2.2.1 (tab_below S13.out.below HP.out)).mono ?_
  rintro e W16 ⟨rfl, s0⟩
  have S14 := hide s0
  clear s0 x0
  have x0 : W16.cell? ⟨sb, 13, none⟩ = some (.int .i64 c4) := by
    rw [cell_of_row W16 sb 13 C _ (0, 0) ((S14.out.below.block sb B1.out.2.2).trans B1.out.2.1), HC.out.1]
    rfl
  go_wp2_with fail
  refine (number_any W1 W16 pb tb tb _ ([] ++ [(jId, prS id)] ++ [(jTube, nm)] ++ [(jState, sw)] ++ [(jPri, prS pr)] ++ [(jAge, prS ag)] ++ [(jDelay, prS dl)] ++ [(jTtr, prS tr)] ++ [(jLeft, prS lf)] ++ [(jFile, prS file)] ++ [(jRes, prS c0)] ++ [(jTim, prS c1)] ++ [(jRel, prS c2)] ++ [(jBur, prS c3)]) jKic c4 S14.out (by simp) HN.out.2.2.2.2.2.2.2.2.2.2.2.2.2.1 (tab_below S14.out.below HP.out)).mono ?_
  rintro e W17 ⟨rfl, s0⟩
  have S15 := hide s0
  clear s0 x0
  have E11 : Hid ([] ++ [(jId, prS id)] ++ [(jTube, nm)] ++ [(jState, sw)] ++ [(jPri, prS pr)] ++ [(jAge, prS ag)] ++ [(jDelay, prS dl)] ++ [(jTtr, prS tr)] ++ [(jLeft, prS lf)] ++ [(jFile, prS file)] ++ [(jRes, prS c0)] ++ [(jTim, prS c1)] ++ [(jRel, prS c2)] ++ [(jBur, prS c3)] ++ [(jKic, prS c4)] = jobP nm id pr dl tr bo st du od ho c0 c1 c2 c3 c4 file now) := by
    show _ = _
    rw [HLF.out, HAG.out, HSW.out]
    simp [jobP]
  rw [E11.out] at S15
  go_wp2_with fail
  refine (told_any W1 W17 pb tb tb _ (jobP nm id pr dl tr bo st du od ho c0 c1 c2 c3 c4 file now) S15.out (by simp [jobP]) HBD.out).mono ?_
  rintro e WZ ⟨v14, rfl, o14, b14⟩
  rw [← HDD.out] at o14
  obtain ⟨av, cv, rfl, _⟩ := o14.shape
  have F14 := hide (And.intro o14 b14)
  clear o14 b14
  go_wp2_with fail
  go_ret
  have hB : Below W.heap.size W W17 := B1.out.1.trans (S15.out.below.mono B1.out.1.size)
  exact ⟨_, rfl, F14.out.1.mono hB.size, hB.trans (F14.out.2.mono hB.size)⟩
end Go.Proofs.YthapbnlcodkalaaDoor
