/-
  The walks of the document's right and Check.
-/
import Derived.Test.YtfecbepleeoibaaDoorRefForm
import Derived.Test.YtfecbepleeoibaaDoorRefValid
namespace Go.Proofs.YtfecbepleeoibaaDoor
open Go.RowKit Go.Lib

/-- The document's test of a command. -/
def rightB (c : Cm) (n : Nat) : Bool := decide (1 ≤ c.kind ∧ c.kind ≤ 25) && (betweenB c.kind.toNat 112 c.pri 0 4294967295 && betweenB c.kind.toNat 100 c.delay 0 4294967295 && betweenB c.kind.toNat 114 c.ttr 1 4294967295 && betweenB c.kind.toNat 110 c.number 0 4294967295 && betweenB c.kind.toNat 105 c.id 0 4611686018427387903) &&
  ((formL c.kind.toNat).contains 116 && validB c.tube || !(formL c.kind.toNat).contains 116 && c.tube.isEmpty) && (c.kind == 1 || n == 0)

theorem between_most (k : Nat) (hk : k < 26) (f : Nat) (hf : f < 6) (n : Int) : betweenB k (letterOf f) n 0 (great f) = (decide (0 ≤ n) && decide (n ≤ mostIn (formOf k) f)) := by
  unfold betweenB mostIn
  rw [has_letter k hk f (by omega)]
  cases (formOf k).contains f
  · simp only [Bool.false_eq_true, if_false]
    by_cases h : n = 0
    · subst h; rfl
    · have : (n == 0) = false := by rw [beq_eq_false_iff_ne]; exact h
      rw [this]
      by_cases h0 : 0 ≤ n
      · rw [decide_eq_false (show ¬ n ≤ 0 by omega)]; simp
      · rw [decide_eq_false h0]; simp
  · rfl
theorem four_put : ∀ k, k < 26 → (formOf k).contains 4 = decide (k = 1) := by decide
theorem between_ttr (k : Nat) (hk : k < 26) (n : Int) : betweenB k 114 n 1 4294967295 = (!(decide (k = 1) && n == 0) && (decide (0 ≤ n) && decide (n ≤ mostIn (formOf k) 4))) := by
  unfold betweenB mostIn
  have := has_letter k hk 4 (by decide)
  rw [show (letterOf 4) = 114 from rfl] at this
  rw [this, four_put k hk]
  by_cases h1 : k = 1
  · simp only [h1, decide_true, if_true, Bool.true_and]
    by_cases hz : n = 0
    · subst hz; rfl
    · have hb : (n == 0) = false := by rw [beq_eq_false_iff_ne]; exact hz
      rw [hb, show great 4 = 4294967295 from rfl]
      by_cases h0 : 0 ≤ n
      · rw [decide_eq_true (show 1 ≤ n by omega), decide_eq_true h0]; rfl
      · rw [decide_eq_false (show ¬ 1 ≤ n by omega), decide_eq_false h0]; rfl
  · simp only [h1, decide_false, Bool.false_eq_true, if_false, Bool.false_and, Bool.not_false, Bool.true_and]
    by_cases h : n = 0
    · subst h; rfl
    · have : (n == 0) = false := by rw [beq_eq_false_iff_ne]; exact h
      rw [this]
      by_cases h0 : 0 ≤ n
      · rw [decide_eq_false (show ¬ n ≤ 0 by omega)]; simp
      · rw [decide_eq_false h0]; simp
theorem right_print (c : Cm) (n : Nat) : rightB c n = printB c n := by
  unfold rightB printB
  congr 1
  by_cases hk : 1 ≤ c.kind ∧ c.kind ≤ 25
  · have hk26 : c.kind.toNat < 26 := by omega
    have e1 := between_most c.kind.toNat hk26 1 (by decide) c.id
    have e2 := between_most c.kind.toNat hk26 2 (by decide) c.pri
    have e3 := between_most c.kind.toNat hk26 3 (by decide) c.delay
    have e4 := between_ttr c.kind.toNat hk26 c.ttr
    have e5 := between_most c.kind.toNat hk26 5 (by decide) c.number
    have e6 := has_letter c.kind.toNat hk26 6 (by decide)
    rw [show letterOf 1 = 105 from rfl, show great 1 = 4611686018427387903 from rfl] at e1
    rw [show letterOf 2 = 112 from rfl, show great 2 = 4294967295 from rfl] at e2
    rw [show letterOf 3 = 100 from rfl, show great 3 = 4294967295 from rfl] at e3
    rw [show letterOf 5 = 110 from rfl, show great 5 = 4294967295 from rfl] at e5
    rw [show letterOf 6 = 116 from rfl] at e6
    rw [e1, e2, e3, e4, e5, e6]
    unfold lineB
    have hk1 : decide (c.kind.toNat = 1) = (c.kind == 1) := by
      by_cases h : c.kind = 1
      · rw [h]; rfl
      · have : (c.kind == 1) = false := by rw [beq_eq_false_iff_ne]; exact h
        rw [this, decide_eq_false (by omega)]
    rw [hk1]
    have hm0 : mostIn (formOf c.kind.toNat) 0 = 0 := by unfold mostIn great; split <;> rfl
    simp only [List.range_succ, List.range_zero, List.nil_append, List.cons_append, List.all_cons, List.all_nil, Bool.and_true, numOf, hm0, Int.le_refl, decide_true, Bool.true_and]
    cases (formOf c.kind.toNat).contains 6 <;> cases (c.kind == 1 && c.ttr == 0) <;> simp [Bool.and_assoc, Bool.and_comm, Bool.and_left_comm]
  · rw [line_kind c hk, decide_eq_false hk]
    simp

/-- A command that lies in a box at the end of the elder world; what came since. -/
structure BoxJ (w : World) (c : Cm) (b : Value) (wp : World) : Prop where
  below : Below w.heap.size w wp
  lt : w.heap.size < wp.heap.size
  blk : wp.heap[w.heap.size]? = some (.cells (cmdA c b) 27 (0, 0))
theorem BoxJ.start (w : World) (c : Cm) (b : Value) : Hid (BoxJ w c b (w.alloc (.cells (cmdA c b) 27))) :=
  (⟨(Below.refl _ w).alloc (Nat.le_refl _) _, by simp, heap_alloc_new _ _⟩ : BoxJ w c b (w.alloc (.cells (cmdA c b) 27)))
theorem BoxJ.step {w : World} {c : Cm} {b : Value} {wp wn : World} (h : Hid (BoxJ w c b wp)) (hb : Below wp.heap.size wp wn) : Hid (BoxJ w c b wn) :=
  (⟨h.out.below.trans (hb.mono h.out.below.size), Nat.lt_of_lt_of_le h.out.lt hb.size, (hb.block _ h.out.lt).trans h.out.blk⟩ : BoxJ w c b wn)
theorem BoxJ.low {w : World} {c : Cm} {b : Value} {wp : World} (h : Hid (BoxJ w c b wp)) : Below w.heap.size w wp := h.out.below
theorem BoxJ.cells {w : World} {q0 q1 q2 q3 q4 q5 : Int} {q6 : List UInt8} {b : Value} {wp : World} (h : Hid (BoxJ w ⟨q0, q1, q2, q3, q4, q5, q6⟩ b wp)) :
    wp.cell? ⟨w.heap.size, 0, none⟩ = some (.int .i64 q0) ∧ wp.cell? ⟨w.heap.size, 1, none⟩ = some (.int .i64 q1) ∧ wp.cell? ⟨w.heap.size, 2, none⟩ = some (.int .i64 q2) ∧ wp.cell? ⟨w.heap.size, 3, none⟩ = some (.int .i64 q3) ∧ wp.cell? ⟨w.heap.size, 4, none⟩ = some (.int .i64 q4) ∧ wp.cell? ⟨w.heap.size, 5, none⟩ = some (.int .i64 q5) ∧ wp.cell? ⟨w.heap.size, 6, none⟩ = some (.string ⟨q6.toArray⟩) ∧ wp.cell? ⟨w.heap.size, 7, none⟩ = some b :=
  ⟨cells_at h.out.blk rfl, cells_at h.out.blk rfl, cells_at h.out.blk rfl, cells_at h.out.blk rfl, cells_at h.out.blk rfl, cells_at h.out.blk rfl, cells_at h.out.blk rfl, cells_at h.out.blk rfl⟩

set_option maxHeartbeats 4000000 in
set_option maxRecDepth 1000000 in
theorem right_any (c : Cm) (a : Option Addr) (n cap : Nat) (w : World) :
    Calls Tryd.prog 37 #[cmdV c (.slice a n cap)] w fun e w' => e = .returned (.bool (rightB c n)) ∧ Below w.heap.size w w' := by
  obtain ⟨r, hr⟩ : ∃ r, rightB c n = r := ⟨_, rfl⟩
  rw [hr]
  have HR := hide hr
  clear hr
  obtain ⟨q0, q1, q2, q3, q4, q5, q6⟩ := c
  unfold cmdV
  by_cases hk : 1 ≤ q0 ∧ q0 ≤ 25
  · obtain ⟨k, hkk⟩ : ∃ k : Nat, q0 = k := ⟨q0.toNat, by omega⟩
    subst hkk
    have hk26 : k < 26 := by omega
    have HK := hide hk
    have h1 := fun w => between_any k hk26 112 q2 0 4294967295 w
    have h2 := fun w => between_any k hk26 100 q3 0 4294967295 w
    have h3 := fun w => between_any k hk26 114 q4 1 4294967295 w
    have h4 := fun w => between_any k hk26 110 q5 0 4294967295 w
    have h5 := fun w => between_any k hk26 105 q1 0 4611686018427387903 w
    have h6 := fun w => has_any k hk26 116 w
    have HR' : Hid (r = ((betweenB k 112 q2 0 4294967295 && betweenB k 100 q3 0 4294967295 && betweenB k 114 q4 1 4294967295 && betweenB k 110 q5 0 4294967295 && betweenB k 105 q1 0 4611686018427387903) &&
        ((formL k).contains 116 && validB q6 || !(formL k).contains 116 && q6.isEmpty) && ((k : Int) == 1 || (n : Int) == 0))) := by
      show r = _
      rw [← HR.out, rightB, decide_eq_true hk, Bool.true_and, show (n == 0) = ((n : Int) == 0) by cases n <;> rfl]
      rfl
    obtain ⟨b1, e1⟩ : ∃ b, betweenB k 112 q2 0 4294967295 = b := ⟨_, rfl⟩
    obtain ⟨b2, e2⟩ : ∃ b, betweenB k 100 q3 0 4294967295 = b := ⟨_, rfl⟩
    obtain ⟨b3, e3⟩ : ∃ b, betweenB k 114 q4 1 4294967295 = b := ⟨_, rfl⟩
    obtain ⟨b4, e4⟩ : ∃ b, betweenB k 110 q5 0 4294967295 = b := ⟨_, rfl⟩
    obtain ⟨b5, e5⟩ : ∃ b, betweenB k 105 q1 0 4611686018427387903 = b := ⟨_, rfl⟩
    obtain ⟨b6, e6⟩ : ∃ b, (formL k).contains 116 = b := ⟨_, rfl⟩
    rw [e1] at h1 HR'
    rw [e2] at h2 HR'
    rw [e3] at h3 HR'
    rw [e4] at h4 HR'
    rw [e5] at h5 HR'
    rw [e6] at h6 HR'
    have H1 := hide h1; have H2 := hide h2; have H3 := hide h3; have H4 := hide h4; have H5 := hide h5; have H6 := hide h6
    clear h1 h2 h3 h4 h5 h6 e1 e2 e3 e4 e5 e6 HR hk
    have HV := hide fun w => refValid_any ⟨q6.toArray⟩ w
    obtain ⟨b7, e7⟩ : ∃ b, validB q6 = b := ⟨_, rfl⟩
    rw [show (⟨q6.toArray⟩ : ByteArray).data.toList = q6 from rfl, e7] at HV
    rw [e7] at HR'
    clear e7
    have J0 := BoxJ.start w ⟨k, q1, q2, q3, q4, q5, q6⟩ (.slice a n cap)
    unfold cmdA at J0
    go_enter Tryd.func37, Tryd.ntmps37
    go_wp2_with (first
      | (go_at_call_of 53 q2; refine (H1.out _).mono ?_; rintro e wn ⟨rfl, Bn⟩; have HJ := BoxJ.step (by assumption) Bn; obtain ⟨y0, y1, y2, y3, y4, y5, y6, y7⟩ := BoxJ.cells HJ; clear Bn)
      | (go_at_call_of 53 q3; refine (H2.out _).mono ?_; rintro e wn ⟨rfl, Bn⟩; have HJ := BoxJ.step (by assumption) Bn; obtain ⟨y0, y1, y2, y3, y4, y5, y6, y7⟩ := BoxJ.cells HJ; clear Bn)
      | (go_at_call_of 53 q4; refine (H3.out _).mono ?_; rintro e wn ⟨rfl, Bn⟩; have HJ := BoxJ.step (by assumption) Bn; obtain ⟨y0, y1, y2, y3, y4, y5, y6, y7⟩ := BoxJ.cells HJ; clear Bn)
      | (go_at_call_of 53 q5; refine (H4.out _).mono ?_; rintro e wn ⟨rfl, Bn⟩; have HJ := BoxJ.step (by assumption) Bn; obtain ⟨y0, y1, y2, y3, y4, y5, y6, y7⟩ := BoxJ.cells HJ; clear Bn)
      | (go_at_call_of 53 q1; refine (H5.out _).mono ?_; rintro e wn ⟨rfl, Bn⟩; have HJ := BoxJ.step (by assumption) Bn; obtain ⟨y0, y1, y2, y3, y4, y5, y6, y7⟩ := BoxJ.cells HJ; clear Bn)
      | (go_at_call 54; refine (H6.out _).mono ?_; rintro e wn ⟨rfl, Bn⟩; have HJ := BoxJ.step (by assumption) Bn; obtain ⟨y0, y1, y2, y3, y4, y5, y6, y7⟩ := BoxJ.cells HJ; clear Bn)
      | (go_at_call 49; refine (HV.out _).mono ?_; rintro e wn ⟨rfl, hwn⟩; have hwn := hwn; subst hwn))
    all_goals go_ret
    all_goals refine ⟨congrArg (fun b => Ending.returned (.bool b)) ?_, BoxJ.low (by assumption)⟩
    all_goals refine Eq.trans ?_ (Eq.symm (Hid.out (p := r = _) (by assumption)))
    all_goals first
      | (simp [*]; done)
      | (exfalso; have := HK.out; omega)
  · have HRF : Hid (r = false) := by
      show r = false
      rw [← HR.out, rightB, decide_eq_false hk]
      rfl
    go_enter Tryd.func37, Tryd.ntmps37
    go_wp2_with fail
    all_goals go_ret
    all_goals exact ⟨by rw [HRF.out]; rfl, (Below.refl _ w).alloc (Nat.le_refl _) _⟩

theorem check_right (c : Cm) (n : Nat) : checkE c n = if !rightB c n || (c.kind == 1 && (decide (65535 < c.number) || ((n : Int) != c.number))) then 72 else 0 := by
  rw [right_print]
  unfold checkE printB bodyB
  cases lineB c
  · rfl
  · by_cases hk : c.kind = 1
    · rw [if_pos hk, hk]
      by_cases h1 : c.number ≤ 65535
      · rw [decide_eq_true h1, decide_eq_false (show ¬ 65535 < c.number by omega)]
        by_cases h2 : (n : Int) = c.number
        · rw [decide_eq_true h2]; simp [h2]
        · rw [decide_eq_false h2]; simp [h2]
      · rw [decide_eq_false h1, decide_eq_true (show 65535 < c.number by omega)]
        rfl
    · have hb : (c.kind == 1) = false := by rw [beq_eq_false_iff_ne]; exact hk
      rw [if_neg hk, hb]
      cases n <;> rfl

set_option maxHeartbeats 4000000 in
set_option maxRecDepth 1000000 in
theorem refCheck_any (c : Cm) (a : Option Addr) (n cap : Nat) (w : World) :
    Calls Tryd.prog 20 #[cmdV c (.slice a n cap)] w fun e w' => e = .returned (.int .i64 (checkE c n)) ∧ Below w.heap.size w w' := by
  obtain ⟨r, hr⟩ : ∃ r, checkE c n = r := ⟨_, rfl⟩
  rw [hr]
  rw [check_right] at hr
  have HR := hide hr
  clear hr
  have HRT := hide fun w => right_any c a n cap w
  obtain ⟨b, hb⟩ : ∃ b, rightB c n = b := ⟨_, rfl⟩
  rw [hb] at HRT HR
  clear hb
  have J0 := BoxJ.start w c (.slice a n cap)
  obtain ⟨q0, q1, q2, q3, q4, q5, q6⟩ := c
  unfold cmdV cmdA at *
  cases b
  all_goals (
    go_enter Tryd.func20, Tryd.ntmps20
    go_wp2_with (go_at_call 37; refine (HRT.out _).mono ?_; rintro e wn ⟨rfl, Bn⟩; have HJ := BoxJ.step (by assumption) Bn; obtain ⟨y0, y1, y2, y3, y4, y5, y6, y7⟩ := BoxJ.cells HJ; clear Bn)
    all_goals go_ret
    all_goals refine ⟨congrArg (fun b => Ending.returned (.int .i64 b)) ?_, BoxJ.low (by assumption)⟩
    all_goals refine Eq.trans ?_ (Hid.out (p := _ = r) (by assumption))
    all_goals first
      | rfl
      | (simp [*]; done)
      | (rename_i h0 _ h3; rw [h0, if_pos]; rcases h3 with h | h <;> simp [h]))
end Go.Proofs.YtfecbepleeoibaaDoor
