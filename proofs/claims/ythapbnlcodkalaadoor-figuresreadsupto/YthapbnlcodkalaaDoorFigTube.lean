/-
  Layer 13: the sums, a tube.
-/
import Derived.Test.YthapbnlcodkalaaDoorFigKit
namespace Go.Proofs.YthapbnlcodkalaaDoor
open Go.RowKit Go.Sort

def kUrgent : ByteArray := ⟨#[99, 117, 114, 114, 101, 110, 116, 45, 106, 111, 98, 115, 45, 117, 114, 103, 101, 110, 116]⟩
def kReady : ByteArray := ⟨#[99, 117, 114, 114, 101, 110, 116, 45, 106, 111, 98, 115, 45, 114, 101, 97, 100, 121]⟩
def kReserved : ByteArray := ⟨#[99, 117, 114, 114, 101, 110, 116, 45, 106, 111, 98, 115, 45, 114, 101, 115, 101, 114, 118, 101, 100]⟩
def kDelayed : ByteArray := ⟨#[99, 117, 114, 114, 101, 110, 116, 45, 106, 111, 98, 115, 45, 100, 101, 108, 97, 121, 101, 100]⟩
def kBuried : ByteArray := ⟨#[99, 117, 114, 114, 101, 110, 116, 45, 106, 111, 98, 115, 45, 98, 117, 114, 105, 101, 100]⟩
def kName : ByteArray := ⟨#[110, 97, 109, 101]⟩
def kTotal : ByteArray := ⟨#[116, 111, 116, 97, 108, 45, 106, 111, 98, 115]⟩
def kUsing : ByteArray := ⟨#[99, 117, 114, 114, 101, 110, 116, 45, 117, 115, 105, 110, 103]⟩
def kWaiting : ByteArray := ⟨#[99, 117, 114, 114, 101, 110, 116, 45, 119, 97, 105, 116, 105, 110, 103]⟩
def kWatching : ByteArray := ⟨#[99, 117, 114, 114, 101, 110, 116, 45, 119, 97, 116, 99, 104, 105, 110, 103]⟩
def kPause : ByteArray := ⟨#[112, 97, 117, 115, 101]⟩
def kDelete : ByteArray := ⟨#[99, 109, 100, 45, 100, 101, 108, 101, 116, 101]⟩
def kPauses : ByteArray := ⟨#[99, 109, 100, 45, 112, 97, 117, 115, 101, 45, 116, 117, 98, 101]⟩
def kLeft : ByteArray := ⟨#[112, 97, 117, 115, 101, 45, 116, 105, 109, 101, 45, 108, 101, 102, 116]⟩
def I64 (n : Int) : Prop := -9223372036854775808 ≤ n ∧ n ≤ 9223372036854775807
def sumsP (r d v b u : Int) : List BP := [(kUrgent, prS u), (kReady, prS r), (kReserved, prS v), (kDelayed, prS d), (kBuried, prS b)]
set_option maxHeartbeats 4000000 in
set_option maxRecDepth 1000000 in
theorem laySums_any (w W : World) (pb tb bs : Nat) (o : Obj) (ps : List BP) (r d v b u : Int) (h : Sh w pb tb bs o ps W) (hl : ps.length ≤ 900) (hp : PowAt w) (hr : I64 r) (hd : I64 d) (hv : I64 v) (hbn : I64 b) (hu : I64 u) :
    Calls Tryd.prog 29 #[.func (.func 40) #[] #[.pointer (some ⟨tb, 0, none⟩)], .agg #[.int .i64 r, .int .i64 d, .int .i64 v, .int .i64 b, .int .i64 u]] W fun e w' => e = .returned (.tuple #[]) ∧ Sh w pb tb tb (.cells #[.func (.func 39) #[] #[.pointer (some ⟨pb, 0, none⟩)]] 60) (ps ++ sumsP r d v b u) w' := by
  obtain ⟨W1, hW1⟩ : ∃ W1, W1 = W.alloc (.cells #[.int .i64 r, .int .i64 d, .int .i64 v, .int .i64 b, .int .i64 u] 36) := ⟨_, rfl⟩
  have S0 := hide (h.ward (.cells #[.int .i64 r, .int .i64 d, .int .i64 v, .int .i64 b, .int .i64 u] 36))
  rw [← hW1] at S0
  have HP := hide (And.intro hp (And.intro hr (And.intro hd (And.intro hv (And.intro hbn hu)))))
  have HW := hide hW1
  obtain ⟨sb, hsb⟩ : ∃ sb, sb = W.heap.size := ⟨_, rfl⟩
  rw [← hsb] at S0
  have HSB := hide hsb
  clear h hp hr hd hv hbn hu hW1 hsb
  go_enter Tryd.func29, Tryd.ntmps29
  go_upto_region 1 with fail
  rw [← HW.out, ← HSB.out]
  clear HW HSB
  have x0 : W1.cell? ⟨sb, 4, none⟩ = some (.int .i64 u) := cell_of_row W1 sb 4 _ _ (0, 0) S0.out.ext
  go_wp2_with fail
  refine (number_any w W1 pb tb sb _ (ps) kUrgent u S0.out (by omega) HP.out.2.2.2.2.2 (tab_below S0.out.below HP.out.1)).mono ?_
  rintro e W2 ⟨rfl, s1⟩
  have S1 := hide s1
  clear s1 x0
  have x1 : W2.cell? ⟨sb, 0, none⟩ = some (.int .i64 r) := cell_of_row W2 sb 0 _ _ (0, 0) S1.out.ext
  go_wp2_with fail
  refine (number_any w W2 pb tb sb _ (ps ++ [(kUrgent, prS u)]) kReady r S1.out (by simp; omega) HP.out.2.1 (tab_below S1.out.below HP.out.1)).mono ?_
  rintro e W3 ⟨rfl, s2⟩
  have S2 := hide s2
  clear s2 x1
  have x2 : W3.cell? ⟨sb, 2, none⟩ = some (.int .i64 v) := cell_of_row W3 sb 2 _ _ (0, 0) S2.out.ext
  go_wp2_with fail
  refine (number_any w W3 pb tb sb _ (ps ++ [(kUrgent, prS u)] ++ [(kReady, prS r)]) kReserved v S2.out (by simp; omega) HP.out.2.2.2.1 (tab_below S2.out.below HP.out.1)).mono ?_
  rintro e W4 ⟨rfl, s3⟩
  have S3 := hide s3
  clear s3 x2
  have x3 : W4.cell? ⟨sb, 1, none⟩ = some (.int .i64 d) := cell_of_row W4 sb 1 _ _ (0, 0) S3.out.ext
  go_wp2_with fail
  refine (number_any w W4 pb tb sb _ (ps ++ [(kUrgent, prS u)] ++ [(kReady, prS r)] ++ [(kReserved, prS v)]) kDelayed d S3.out (by simp; omega) HP.out.2.2.1 (tab_below S3.out.below HP.out.1)).mono ?_
  rintro e W5 ⟨rfl, s4⟩
  have S4 := hide s4
  clear s4 x3
  have x4 : W5.cell? ⟨sb, 3, none⟩ = some (.int .i64 b) := cell_of_row W5 sb 3 _ _ (0, 0) S4.out.ext
  go_wp2_with fail
  refine (number_any w W5 pb tb sb _ (ps ++ [(kUrgent, prS u)] ++ [(kReady, prS r)] ++ [(kReserved, prS v)] ++ [(kDelayed, prS d)]) kBuried b S4.out (by simp; omega) HP.out.2.2.2.2.1 (tab_below S4.out.below HP.out.1)).mono ?_
  rintro e W6 ⟨rfl, s5⟩
  have S5 := hide s5
  clear s5 x4
  go_wp2_with fail
  go_end0
  refine ⟨rfl, ?_⟩
  have e := S5.out.unward
  simp only [List.append_assoc, List.cons_append, List.nil_append] at e
  exact e
def leftI (pz ul now : Int) : Int := if pz = 0 then 0 else lessI ul now
def tubeP (nm : ByteArray) (r d rs b u us wa wt tt de pa pz ul now : Int) : List BP := [(kName, nm)] ++ sumsP r d rs b u ++ [(kTotal, prS tt), (kUsing, prS us), (kWaiting, prS wt), (kWatching, prS wa), (kPause, prS pz), (kDelete, prS de), (kPauses, prS pa), (kLeft, prS (leftI pz ul now))]
theorem lessI_64 (a b : Int) : I64 (lessI a b) := by
  unfold lessI I64
  split
  · decide
  · have e : wrap64 (a - b) = IntKind.i64.wrap (a - b) := by unfold wrap64; rw [IntKind.wrap_i64]
    rw [e, IntKind.wrap_i64]
    omega
theorem left_64 (pz ul now : Int) : I64 (leftI pz ul now) := by
  unfold leftI
  split
  · unfold I64; decide
  · exact lessI_64 _ _
theorem info_tube : (Tryd.prog.info? 38).map (·.size) = some 14 := by kernel_rfl
set_option maxHeartbeats 4000000 in
set_option maxRecDepth 1000000 in
theorem pauseLeft_any (nm : ByteArray) (r d rs b u us wa wt tt de pa pz ul now : Int) (w : World) :
    Calls Tryd.prog 30 #[.agg #[.string nm, .int .i64 r, .int .i64 d, .int .i64 rs, .int .i64 b, .int .i64 u, .int .i64 us, .int .i64 wa, .int .i64 wt, .int .i64 tt, .int .i64 de, .int .i64 pa, .int .i64 pz, .int .i64 ul], .int .i64 now] w fun e w' => e = .returned (.int .i64 (leftI pz ul now)) ∧ Below w.heap.size w w' := by
  by_cases h : pz = 0
  · subst h
    go_enter Tryd.func30, Tryd.ntmps30
    go_wp2_with fail
    go_ret
    exact ⟨rfl, (Below.refl _ w).alloc (Nat.le_refl _) _⟩
  · have hb : (pz == 0) = false := by simpa using h
    go_enter Tryd.func30, Tryd.ntmps30
    go_wp2_with (go_at_call 25; refine (less_any ul now _).mono ?_; rintro e w2 ⟨rfl, hw2⟩; obtain rfl := hw2.symm)
    go_ret
    refine ⟨?_, (Below.refl _ w).alloc (Nat.le_refl _) _⟩
    rw [leftI, if_neg h]
    rfl
set_option maxHeartbeats 8000000 in
set_option maxRecDepth 1000000 in
theorem tube_any (nm : ByteArray) (r d rs b u us wa wt tt de pa pz ul now : Int) (W : World) (hp : PowAt W) (hn : I64 r ∧ I64 d ∧ I64 rs ∧ I64 b ∧ I64 u ∧ I64 us ∧ I64 wa ∧ I64 wt ∧ I64 tt ∧ I64 de ∧ I64 pa ∧ I64 pz ∧ I64 ul) (hb : (dictL ((tubeP nm r d rs b u us wa wt tt de pa pz ul now).map un)).length < 140737488355328) :
    Calls Tryd.prog 13 #[.agg #[.string nm, .int .i64 r, .int .i64 d, .int .i64 rs, .int .i64 b, .int .i64 u, .int .i64 us, .int .i64 wa, .int .i64 wt, .int .i64 tt, .int .i64 de, .int .i64 pa, .int .i64 pz, .int .i64 ul], .int .i64 now] W fun e w' => ∃ v, e = .returned v ∧ Own w' W.heap.size v (if dictE ((tubeP nm r d rs b u us wa wt tt de pa pz ul now).map un) = 0 then dictL ((tubeP nm r d rs b u us wa wt tt de pa pz ul now).map un) else []) ∧ Below W.heap.size W w' := by
  obtain ⟨C, hC⟩ : ∃ C : Array Value, C = #[.string nm, .int .i64 r, .int .i64 d, .int .i64 rs, .int .i64 b, .int .i64 u, .int .i64 us, .int .i64 wa, .int .i64 wt, .int .i64 tt, .int .i64 de, .int .i64 pa, .int .i64 pz, .int .i64 ul] := ⟨_, rfl⟩
  obtain ⟨W1, hW1⟩ : ∃ W1, W1 = W.alloc (.cells C 38) := ⟨_, rfl⟩
  obtain ⟨sb, hsb⟩ : ∃ sb, sb = W.heap.size := ⟨_, rfl⟩
  have B1 : Hid (Below W.heap.size W W1 ∧ W1.heap[sb]? = some (.cells C 38 (0, 0)) ∧ sb < W1.heap.size) := by
    rw [hW1, hsb]
    exact ⟨(Below.refl _ W).alloc (Nat.le_refl _) _, heap_alloc_new W _, by simp⟩
  have HP : Hid (PowAt W1) := tab_below B1.out.1 hp
  have HC : Hid (C = #[.string nm, .int .i64 r, .int .i64 d, .int .i64 rs, .int .i64 b, .int .i64 u, .int .i64 us, .int .i64 wa, .int .i64 wt, .int .i64 tt, .int .i64 de, .int .i64 pa, .int .i64 pz, .int .i64 ul] ∧ C.size = 14) := ⟨hC, by rw [hC]; rfl⟩
  have HN := hide hn
  have HBD := hide hb
  have CP : Hid (∀ w, Calls Tryd.prog 30 #[.agg C, .int .i64 now] w fun e w' => e = .returned (.int .i64 (leftI pz ul now)) ∧ Below w.heap.size w w') := by
    rw [hC]
    exact pauseLeft_any nm r d rs b u us wa wt tt de pa pz ul now
  obtain ⟨lf, hlf⟩ : ∃ lf, lf = leftI pz ul now := ⟨_, rfl⟩
  rw [← hlf] at CP
  have HLF := hide hlf
  obtain ⟨DD, hDD⟩ : ∃ DD, DD = (if dictE ((tubeP nm r d rs b u us wa wt tt de pa pz ul now).map un) = 0 then dictL ((tubeP nm r d rs b u us wa wt tt de pa pz ul now).map un) else []) := ⟨_, rfl⟩
  rw [← hDD]
  have HDD := hide hDD
  clear hDD
  have HW1 := hide (And.intro hW1 hsb)
  rw [← hC]
  clear hC hW1 hsb hp hn hb hlf
  go_enter Tryd.func13, Tryd.ntmps13
  go_upto_region 1 with fail
  rw [← HW1.out.1, ← HW1.out.2]
  clear HW1
  go_wp2_with fail
  refine (sheet_any W1).mono ?_
  rintro e W2 ⟨rfl, s2⟩
  obtain ⟨pb, hpb⟩ : ∃ pb, pb = W1.heap.size + 1 := ⟨_, rfl⟩
  obtain ⟨tb, htb⟩ : ∃ tb, tb = W1.heap.size := ⟨_, rfl⟩
  rw [← hpb, ← htb] at s2 ⊢
  have S0 := hide s2
  clear s2 hpb htb
  have x0 : W2.cell? ⟨sb, 0, none⟩ = some (.string nm) := by
    rw [cell_of_row W2 sb 0 C _ (0, 0) ((S0.out.below.block sb B1.out.2.2).trans B1.out.2.1), HC.out.1]
    rfl
  go_wp2_with fail
  refine (text_any W1 W2 pb tb tb _ [] kName nm S0.out (by simp)).mono ?_
  rintro e W3 ⟨rfl, s1⟩
  have S1 := hide s1
  clear s1 x0
  have x1 : W3.cell? ⟨sb, 1, none⟩ = some (.int .i64 r) := by
    rw [cell_of_row W3 sb 1 C _ (0, 0) ((S1.out.below.block sb B1.out.2.2).trans B1.out.2.1), HC.out.1]
    rfl
  have x2 : W3.cell? ⟨sb, 2, none⟩ = some (.int .i64 d) := by
    rw [cell_of_row W3 sb 2 C _ (0, 0) ((S1.out.below.block sb B1.out.2.2).trans B1.out.2.1), HC.out.1]
    rfl
  have x3 : W3.cell? ⟨sb, 3, none⟩ = some (.int .i64 rs) := by
    rw [cell_of_row W3 sb 3 C _ (0, 0) ((S1.out.below.block sb B1.out.2.2).trans B1.out.2.1), HC.out.1]
    rfl
  have x4 : W3.cell? ⟨sb, 4, none⟩ = some (.int .i64 b) := by
    rw [cell_of_row W3 sb 4 C _ (0, 0) ((S1.out.below.block sb B1.out.2.2).trans B1.out.2.1), HC.out.1]
    rfl
  have x5 : W3.cell? ⟨sb, 5, none⟩ = some (.int .i64 u) := by
    rw [cell_of_row W3 sb 5 C _ (0, 0) ((S1.out.below.block sb B1.out.2.2).trans B1.out.2.1), HC.out.1]
    rfl
  go_wp2_with fail
  refine (laySums_any W1 W3 pb tb tb _ ([] ++ [(kName, nm)]) r d rs b u S1.out (by simp) HP.out HN.out.1 HN.out.2.1 HN.out.2.2.1 HN.out.2.2.2.1 HN.out.2.2.2.2.1).mono ?_
  rintro e W4 ⟨rfl, s2⟩
  have S2 := hide s2
  clear s2 x1 x2 x3 x4 x5
  have x0 : W4.cell? ⟨sb, 9, none⟩ = some (.int .i64 tt) := by
    rw [cell_of_row W4 sb 9 C _ (0, 0) ((S2.out.below.block sb B1.out.2.2).trans B1.out.2.1), HC.out.1]
    rfl
  go_wp2_with fail
  refine (number_any W1 W4 pb tb tb _ ([] ++ [(kName, nm)] ++ sumsP r d rs b u) kTotal tt S2.out (by simp [sumsP]) HN.out.2.2.2.2.2.2.2.2.1 (tab_below S2.out.below HP.out)).mono ?_
  rintro e W5 ⟨rfl, s3⟩
  have S3 := hide s3
  clear s3 x0
  have x0 : W5.cell? ⟨sb, 6, none⟩ = some (.int .i64 us) := by
    rw [cell_of_row W5 sb 6 C _ (0, 0) ((S3.out.below.block sb B1.out.2.2).trans B1.out.2.1), HC.out.1]
    rfl
  go_wp2_with fail
  refine (number_any W1 W5 pb tb tb _ ([] ++ [(kName, nm)] ++ sumsP r d rs b u ++ [(kTotal, prS tt)]) kUsing us S3.out (by simp [sumsP]) HN.out.2.2.2.2.2.1 (tab_below S3.out.below HP.out)).mono ?_
  rintro e W6 ⟨rfl, s4⟩
  have S4 := hide s4
  clear s4 x0
  have x0 : W6.cell? ⟨sb, 8, none⟩ = some (.int .i64 wt) := by
    rw [cell_of_row W6 sb 8 C _ (0, 0) ((S4.out.below.block sb B1.out.2.2).trans B1.out.2.1), HC.out.1]
    rfl
  go_wp2_with fail
  refine (number_any W1 W6 pb tb tb _ ([] ++ [(kName, nm)] ++ sumsP r d rs b u ++ [(kTotal, prS tt)] ++ [(kUsing, prS us)]) kWaiting wt S4.out (by simp [sumsP]) HN.out.2.2.2.2.2.2.2.1 (tab_below S4.out.below HP.out)).mono ?_
  rintro e W7 ⟨rfl, s5⟩
  have S5 := hide s5
  clear s5 x0
  have x0 : W7.cell? ⟨sb, 7, none⟩ = some (.int .i64 wa) := by
    rw [cell_of_row W7 sb 7 C _ (0, 0) ((S5.out.below.block sb B1.out.2.2).trans B1.out.2.1), HC.out.1]
    rfl
  go_wp2_with fail
  refine (number_any W1 W7 pb tb tb _ ([] ++ [(kName, nm)] ++ sumsP r d rs b u ++ [(kTotal, prS tt)] ++ [(kUsing, prS us)] ++ [(kWaiting, prS wt)]) kWatching wa S5.out (by simp [sumsP]) HN.out.2.2.2.2.2.2.1 (tab_below S5.out.below HP.out)).mono ?_
  rintro e W8 ⟨rfl, s6⟩
  have S6 := hide s6
  clear s6 x0
  have x0 : W8.cell? ⟨sb, 12, none⟩ = some (.int .i64 pz) := by
    rw [cell_of_row W8 sb 12 C _ (0, 0) ((S6.out.below.block sb B1.out.2.2).trans B1.out.2.1), HC.out.1]
    rfl
  go_wp2_with fail
  refine (number_any W1 W8 pb tb tb _ ([] ++ [(kName, nm)] ++ sumsP r d rs b u ++ [(kTotal, prS tt)] ++ [(kUsing, prS us)] ++ [(kWaiting, prS wt)] ++ [(kWatching, prS wa)]) kPause pz S6.out (by simp [sumsP]) HN.out.2.2.2.2.2.2.2.2.2.2.2.1 (tab_below S6.out.below HP.out)).mono ?_
  rintro e W9 ⟨rfl, s7⟩
  have S7 := hide s7
  clear s7 x0
  have x0 : W9.cell? ⟨sb, 10, none⟩ = some (.int .i64 de) := by
    rw [cell_of_row W9 sb 10 C _ (0, 0) ((S7.out.below.block sb B1.out.2.2).trans B1.out.2.1), HC.out.1]
    rfl
  go_wp2_with fail
  refine (number_any W1 W9 pb tb tb _ ([] ++ [(kName, nm)] ++ sumsP r d rs b u ++ [(kTotal, prS tt)] ++ [(kUsing, prS us)] ++ [(kWaiting, prS wt)] ++ [(kWatching, prS wa)] ++ [(kPause, prS pz)]) kDelete de S7.out (by simp [sumsP]) HN.out.2.2.2.2.2.2.2.2.2.1 (tab_below S7.out.below HP.out)).mono ?_
  rintro e W10 ⟨rfl, s8⟩
  have S8 := hide s8
  clear s8 x0
  have x0 : W10.cell? ⟨sb, 11, none⟩ = some (.int .i64 pa) := by
    rw [cell_of_row W10 sb 11 C _ (0, 0) ((S8.out.below.block sb B1.out.2.2).trans B1.out.2.1), HC.out.1]
    rfl
  go_wp2_with fail
  refine (number_any W1 W10 pb tb tb _ ([] ++ [(kName, nm)] ++ sumsP r d rs b u ++ [(kTotal, prS tt)] ++ [(kUsing, prS us)] ++ [(kWaiting, prS wt)] ++ [(kWatching, prS wa)] ++ [(kPause, prS pz)] ++ [(kDelete, prS de)]) kPauses pa S8.out (by simp [sumsP]) HN.out.2.2.2.2.2.2.2.2.2.2.1 (tab_below S8.out.below HP.out)).mono ?_
  rintro e W11 ⟨rfl, s9⟩
  have S9 := hide s9
  clear s9 x0
  go_wp2_with (first
    | (refine wpList_load_row rfl 38 (.tmp 2) rfl sb rfl 38 C (0, 0) _ ((S9.out.below.block sb B1.out.2.2).trans B1.out.2.1) Tryd.underlying38 rfl (by rw [HC.out.2]; exact info_tube) ?_)
    | (go_at_call 30; refine (CP.out _).mono ?_; rintro e W12 ⟨rfl, b12⟩; have S10 := hide (S9.out.later b12); clear b12))
  refine (number_any W1 W12 pb tb tb _ ([] ++ [(kName, nm)] ++ sumsP r d rs b u ++ [(kTotal, prS tt)] ++ [(kUsing, prS us)] ++ [(kWaiting, prS wt)] ++ [(kWatching, prS wa)] ++ [(kPause, prS pz)] ++ [(kDelete, prS de)] ++ [(kPauses, prS pa)]) kLeft lf S10.out (by simp [sumsP]) (by rw [HLF.out]; exact left_64 _ _ _) (tab_below S10.out.below HP.out)).mono ?_
  rintro e W13 ⟨rfl, s11⟩
  have S11 := hide s11
  clear s11
  have E11 : Hid ([] ++ [(kName, nm)] ++ sumsP r d rs b u ++ [(kTotal, prS tt)] ++ [(kUsing, prS us)] ++ [(kWaiting, prS wt)] ++ [(kWatching, prS wa)] ++ [(kPause, prS pz)] ++ [(kDelete, prS de)] ++ [(kPauses, prS pa)] ++ [(kLeft, prS lf)] = tubeP nm r d rs b u us wa wt tt de pa pz ul now) := by
    show _ = _
    rw [HLF.out]
    simp [tubeP, sumsP]
  rw [E11.out] at S11
  go_wp2_with fail
  refine (told_any W1 W13 pb tb tb _ (tubeP nm r d rs b u us wa wt tt de pa pz ul now) S11.out (by simp [tubeP, sumsP]) HBD.out).mono ?_
  rintro e W14 ⟨v14, rfl, o14, b14⟩
  rw [← HDD.out] at o14
  obtain ⟨av, cv, rfl, _⟩ := o14.shape
  have F14 := hide (And.intro o14 b14)
  clear o14 b14
  go_wp2_with fail
  go_ret
  have hB : Below W.heap.size W W13 := B1.out.1.trans (S11.out.below.mono B1.out.1.size)
  exact ⟨_, rfl, F14.out.1.mono hB.size, hB.trans (F14.out.2.mono hB.size)⟩
end Go.Proofs.YthapbnlcodkalaaDoor
