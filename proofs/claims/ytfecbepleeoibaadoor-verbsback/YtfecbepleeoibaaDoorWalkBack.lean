/-
  The walk of VerbsBack.
-/
import Derived.Test.YtfecbepleeoibaaDoorPlainCmd
import Derived.Test.YtfecbepleeoibaaDoorSame
import Derived.Test.YtfecbepleeoibaaDoorByteMem
namespace Go.Proofs.YtfecbepleeoibaaDoor
open Go.RowKit Go.Lib
theorem check_no {c : Cm} {n : Nat} (h : printB c n = false) : checkE c n = 72 := by
  unfold checkE
  rw [if_neg]
  intro hb
  rw [Bool.and_eq_true] at hb
  have : printB c n = true := by
    unfold printB
    rw [hb.1, Bool.true_and]
    have h2 := hb.2
    unfold bodyB at h2
    by_cases hk : c.kind = 1
    · simp [hk]
    · rw [if_neg hk] at h2
      rw [h2]
      simp
  rw [h] at this
  cases this
theorem print_line {c : Cm} {n : Nat} (h : printB c n = true) : lineB c = true := by
  unfold printB at h
  rw [Bool.and_eq_true] at h
  exact h.1
end Go.Proofs.YtfecbepleeoibaaDoor
namespace Go.Proofs.YtfecbepleeoibaaDoor.verbsBack
open Go.RowKit Go.Lib

set_option maxHeartbeats 2000000 in
set_option maxRecDepth 1000000 in
theorem walk (c : Cm) (a : Option Addr) (cap : Nat) (l : List UInt8) (w : World) (_hf : IsBytes w a cap l ∧ c.tube.length ≤ maxLen) (T : Tabs w) :
    Calls Tryd.prog 7 #[cmdV c (.slice a l.length cap)] w fun e w' => e = .returned (.bool true) ∧ Below w.heap.size w w' := by
  have HT := hide T
  clear T _hf
  obtain ⟨n, hn⟩ : ∃ n, l.length = n := ⟨_, rfl⟩
  rw [hn]
  clear hn
  have HCK := hide fun w T => check_any c a n cap w T
  have HPR := hide fun w T => printV_any c a n cap w T
  have HSM := hide fun w => same_refl c w
  have HNM := hide fun w T => name_any c.kind w T
  obtain ⟨ck, hck⟩ : ∃ ck, checkE c n = ck := ⟨_, rfl⟩
  obtain ⟨ps, hps⟩ : ∃ ps, printS c n = ps := ⟨_, rfl⟩
  obtain ⟨pe, hpe⟩ : ∃ pe, printE c n = pe := ⟨_, rfl⟩
  rw [hck] at HCK
  rw [hps, hpe] at HPR
  cases hpb : printB c n
  · have h1 : ck = 72 := by rw [← hck]; exact check_no hpb
    have h2 : ps = [] := by rw [← hps, printS, hpb]; rfl
    have h3 : pe = 72 := by rw [← hpe, printE, hpb]; rfl
    subst h1 h2 h3
    clear hck hps hpe hpb
    obtain ⟨q0, q1, q2, q3, q4, q5, q6⟩ := c
    unfold cmdV at *
    go_enter Tryd.func7, Tryd.ntmps7
    go_wp2_with (first
      | (go_at_call 9
         refine (shown_any _ (HT.out.alloc _)).mono ?_
         rintro e w1 ⟨rfl, B1⟩
         have hb1 := (B1.block w.heap.size (by simp)).trans (heap_alloc_new _ _)
         have x0 : w1.cell? ⟨w.heap.size, 0, none⟩ = some (.int .i64 q0) := cells_at hb1 rfl
         have x1 : w1.cell? ⟨w.heap.size, 1, none⟩ = some (.int .i64 q1) := cells_at hb1 rfl
         have x2 : w1.cell? ⟨w.heap.size, 2, none⟩ = some (.int .i64 q2) := cells_at hb1 rfl
         have x3 : w1.cell? ⟨w.heap.size, 3, none⟩ = some (.int .i64 q3) := cells_at hb1 rfl
         have x4 : w1.cell? ⟨w.heap.size, 4, none⟩ = some (.int .i64 q4) := cells_at hb1 rfl
         have x5 : w1.cell? ⟨w.heap.size, 5, none⟩ = some (.int .i64 q5) := cells_at hb1 rfl
         have x6 : w1.cell? ⟨w.heap.size, 6, none⟩ = some (.string ⟨q6.toArray⟩) := cells_at hb1 rfl
         have x7 : w1.cell? ⟨w.heap.size, 7, none⟩ = some (.slice a n cap) := cells_at hb1 rfl
         have HG1 := hide hb1
         have HT1 := hide ((HT.out.alloc _).below B1)
         have HB1 : Hid (Below w.heap.size w w1) := ((Below.refl _ w).alloc (Nat.le_refl _) _).trans (B1.mono (by simp))
         have HS1 : Hid (w.heap.size < w1.heap.size) := (by have := B1.size; simp at this; omega : w.heap.size < w1.heap.size)
         clear B1 hb1)
      | (go_at_call 19
         refine (HCK.out _ HT1.out).mono ?_
         rintro e w2 ⟨rfl, B2⟩
         have hb2 := (B2.block w.heap.size HS1.out).trans HG1.out
         have y0 : w2.cell? ⟨w.heap.size, 0, none⟩ = some (.int .i64 q0) := cells_at hb2 rfl
         have y1 : w2.cell? ⟨w.heap.size, 1, none⟩ = some (.int .i64 q1) := cells_at hb2 rfl
         have y2 : w2.cell? ⟨w.heap.size, 2, none⟩ = some (.int .i64 q2) := cells_at hb2 rfl
         have y3 : w2.cell? ⟨w.heap.size, 3, none⟩ = some (.int .i64 q3) := cells_at hb2 rfl
         have y4 : w2.cell? ⟨w.heap.size, 4, none⟩ = some (.int .i64 q4) := cells_at hb2 rfl
         have y5 : w2.cell? ⟨w.heap.size, 5, none⟩ = some (.int .i64 q5) := cells_at hb2 rfl
         have y6 : w2.cell? ⟨w.heap.size, 6, none⟩ = some (.string ⟨q6.toArray⟩) := cells_at hb2 rfl
         have y7 : w2.cell? ⟨w.heap.size, 7, none⟩ = some (.slice a n cap) := cells_at hb2 rfl
         have HT2 := hide (HT1.out.below B2)
         have HB2 : Hid (Below w.heap.size w w2) := HB1.out.trans (B2.mono HB1.out.size)
         clear B2 hb2)
      | (go_at_call 16
         refine (HPR.out _ HT2.out).mono ?_
         rintro e w3 ⟨rfl, B3⟩
         have HB3 : Hid (Below w.heap.size w w3) := HB2.out.trans (B3.mono HB2.out.size)
         clear B3))
    all_goals go_ret
    all_goals exact ⟨by rfl, HB3.out⟩
  · have hl := print_line hpb
    have h2 : ps = joinV (wordsOf c) := by rw [← hps, printS, hpb]; rfl
    have h3 : pe = 0 := by rw [← hpe, printE, hpb]; rfl
    have HLP := hide (line_parse hl)
    have hlen : ps.length ≤ 222 := by rw [h2]; exact line_len hl
    have hpre : ps.take (verbOf c.kind.toNat).length = verbOf c.kind.toNat := by rw [h2]; exact line_prefix hl
    have hnl : nameL c.kind = verbOf c.kind.toNat := by rw [nameL, if_pos (line_kind' hl)]
    rw [← hnl] at hpre
    have HPA := hide fun w T => parseV_any ⟨ps.toArray⟩ w T (by simp [ByteArray.size]; omega)
    have hpa : parseC ps = c ∧ parseE ps = 0 := by rw [h2]; exact HLP.out
    rw [show (⟨ps.toArray⟩ : ByteArray).data.toList = ps from rfl, hpa.1, hpa.2] at HPA
    have HLEN := hide hlen
    have HPRE := hide hpre
    obtain ⟨nm, hnm⟩ : ∃ nm, nameL c.kind = nm := ⟨_, rfl⟩
    rw [hnm] at HNM HPRE
    subst h3
    clear hck hps hpe hpb h2 hl hlen hpre hnl hnm HLP hpa
    obtain ⟨q0, q1, q2, q3, q4, q5, q6⟩ := c
    unfold cmdV at *
    go_enter Tryd.func7, Tryd.ntmps7
    go_wp2_with (first
      | (go_at_call 9
         refine (shown_any _ (HT.out.alloc _)).mono ?_
         rintro e w1 ⟨rfl, B1⟩
         have hb1 := (B1.block w.heap.size (by simp)).trans (heap_alloc_new _ _)
         have x0 : w1.cell? ⟨w.heap.size, 0, none⟩ = some (.int .i64 q0) := cells_at hb1 rfl
         have x1 : w1.cell? ⟨w.heap.size, 1, none⟩ = some (.int .i64 q1) := cells_at hb1 rfl
         have x2 : w1.cell? ⟨w.heap.size, 2, none⟩ = some (.int .i64 q2) := cells_at hb1 rfl
         have x3 : w1.cell? ⟨w.heap.size, 3, none⟩ = some (.int .i64 q3) := cells_at hb1 rfl
         have x4 : w1.cell? ⟨w.heap.size, 4, none⟩ = some (.int .i64 q4) := cells_at hb1 rfl
         have x5 : w1.cell? ⟨w.heap.size, 5, none⟩ = some (.int .i64 q5) := cells_at hb1 rfl
         have x6 : w1.cell? ⟨w.heap.size, 6, none⟩ = some (.string ⟨q6.toArray⟩) := cells_at hb1 rfl
         have x7 : w1.cell? ⟨w.heap.size, 7, none⟩ = some (.slice a n cap) := cells_at hb1 rfl
         have HG1 := hide hb1
         have HT1 := hide ((HT.out.alloc _).below B1)
         have HB1 : Hid (Below w.heap.size w w1) := ((Below.refl _ w).alloc (Nat.le_refl _) _).trans (B1.mono (by simp))
         have HS1 : Hid (w.heap.size < w1.heap.size) := (by have := B1.size; simp at this; omega : w.heap.size < w1.heap.size)
         clear B1 hb1)
      | (go_at_call 19
         refine (HCK.out _ HT1.out).mono ?_
         rintro e w2 ⟨rfl, B2⟩
         have hb2 := (B2.block w.heap.size HS1.out).trans HG1.out
         have y0 : w2.cell? ⟨w.heap.size, 0, none⟩ = some (.int .i64 q0) := cells_at hb2 rfl
         have y1 : w2.cell? ⟨w.heap.size, 1, none⟩ = some (.int .i64 q1) := cells_at hb2 rfl
         have y2 : w2.cell? ⟨w.heap.size, 2, none⟩ = some (.int .i64 q2) := cells_at hb2 rfl
         have y3 : w2.cell? ⟨w.heap.size, 3, none⟩ = some (.int .i64 q3) := cells_at hb2 rfl
         have y4 : w2.cell? ⟨w.heap.size, 4, none⟩ = some (.int .i64 q4) := cells_at hb2 rfl
         have y5 : w2.cell? ⟨w.heap.size, 5, none⟩ = some (.int .i64 q5) := cells_at hb2 rfl
         have y6 : w2.cell? ⟨w.heap.size, 6, none⟩ = some (.string ⟨q6.toArray⟩) := cells_at hb2 rfl
         have y7 : w2.cell? ⟨w.heap.size, 7, none⟩ = some (.slice a n cap) := cells_at hb2 rfl
         have HG2 := hide hb2
         have HT2 := hide (HT1.out.below B2)
         have HB2 : Hid (Below w.heap.size w w2) := HB1.out.trans (B2.mono HB1.out.size)
         have HS2 : Hid (w.heap.size < w2.heap.size) := Nat.lt_of_lt_of_le HS1.out B2.size
         clear B2 hb2)
      | (go_at_call 16
         refine (HPR.out _ HT2.out).mono ?_
         rintro e w3 ⟨rfl, B3⟩
         have HG3 := hide ((B3.block w.heap.size HS2.out).trans HG2.out)
         have HT3 := hide (HT2.out.below B3)
         have HB3 : Hid (Below w.heap.size w w3) := HB2.out.trans (B3.mono HB2.out.size)
         have HS3 : Hid (w.heap.size < w3.heap.size) := Nat.lt_of_lt_of_le HS2.out B3.size
         clear B3)
      | (go_at_call 12
         refine (HPA.out _ HT3.out).mono ?_
         rintro e w4 ⟨rfl, B4⟩
         have hb4 := (B4.block w.heap.size HS3.out).trans HG3.out
         have z0 : w4.cell? ⟨w.heap.size, 0, none⟩ = some (.int .i64 q0) := cells_at hb4 rfl
         have z1 : w4.cell? ⟨w.heap.size, 1, none⟩ = some (.int .i64 q1) := cells_at hb4 rfl
         have z2 : w4.cell? ⟨w.heap.size, 2, none⟩ = some (.int .i64 q2) := cells_at hb4 rfl
         have z3 : w4.cell? ⟨w.heap.size, 3, none⟩ = some (.int .i64 q3) := cells_at hb4 rfl
         have z4 : w4.cell? ⟨w.heap.size, 4, none⟩ = some (.int .i64 q4) := cells_at hb4 rfl
         have z5 : w4.cell? ⟨w.heap.size, 5, none⟩ = some (.int .i64 q5) := cells_at hb4 rfl
         have z6 : w4.cell? ⟨w.heap.size, 6, none⟩ = some (.string ⟨q6.toArray⟩) := cells_at hb4 rfl
         have z7 : w4.cell? ⟨w.heap.size, 7, none⟩ = some (.slice a n cap) := cells_at hb4 rfl
         have f7 : w4.frozen? ⟨w.heap.size, 7, none⟩ = false := by simp [World.frozen?, hb4]
         have hlt4 : w.heap.size < w4.heap.size := Nat.lt_of_lt_of_le HS3.out B4.size
         have HG4 := hide hb4
         have HT4 := hide (HT3.out.below B4)
         have HB4 : Hid (Below w.heap.size w w4) := HB3.out.trans (B4.mono HB3.out.size)
         clear B4 hb4))
    obtain ⟨w5, hw5⟩ : ∃ w5, w5 = (w4.setCell ⟨w.heap.size, 7, none⟩ (.slice none 0 0)).alloc (.cells #[.int .i64 q0, .int .i64 q1, .int .i64 q2, .int .i64 q3, .int .i64 q4, .int .i64 q5, .string ⟨q6.toArray⟩, .slice none 0 0] 27) := ⟨_, rfl⟩
    rw [← hw5]
    have a5 := set_cells HG4.out 7 (.slice none 0 0)
    have g5 : w5.heap[w.heap.size]? = some (.cells #[.int .i64 q0, .int .i64 q1, .int .i64 q2, .int .i64 q3, .int .i64 q4, .int .i64 q5, .string ⟨q6.toArray⟩, .slice none 0 0] 27 (0, 0)) := by
      rw [hw5]
      exact alloc_heap a5.1
    have HB5 : Hid (Below w.heap.size w w5) := by
      show Below w.heap.size w w5
      rw [hw5]
      have hB := grown_below HB4.out a5.2 (Nat.le_refl _) (Nat.le_refl _)
      exact hB.alloc hB.size _
    have HT5 := hide (HT.out.below HB5.out)
    have HG5 := hide g5
    have hlt5 := (Array.getElem?_eq_some_iff.1 g5).1
    clear hw5 a5 g5 z0 z1 z2 z3 z4 z5 z6 z7 f7 HG4 HB4 HT4 hlt4
    refine (HSM.out _).mono ?_
    rintro e w6 ⟨rfl, B6⟩
    have HT6 := hide (HT5.out.below B6)
    have HB6 : Hid (Below w.heap.size w w6) := HB5.out.trans (B6.mono HB5.out.size)
    have u0 : w6.cell? ⟨w.heap.size, 0, none⟩ = some (.int .i64 q0) := (B6.cell (p := ⟨w.heap.size, 0, none⟩) hlt5).trans (cells_at HG5.out rfl)
    clear B6
    have hlb : nm.length ≤ ps.length := by
      have := congrArg List.length HPRE.out
      rw [List.length_take] at this
      omega
    have i1 : (ps.length : Int) ≤ 222 := by have := HLEN.out; omega
    have i2 : (nm.length : Int) ≤ (ps.length : Int) := by omega
    go_wp2_with (go_at_call 10; refine (HNM.out _ HT6.out).mono ?_; rintro e w7 ⟨rfl, hw7⟩; have hw7 := hw7; subst hw7)
    all_goals go_ret
    all_goals refine ⟨congrArg (fun b => Ending.returned (.bool b)) ?_, HB6.out⟩
    all_goals (show (((⟨ps.toArray⟩ : ByteArray).extract 0 nm.length).toList == nm) = true)
    all_goals rw [ByteArray.toList_eq, extract_list]
    all_goals (show ((ps.take nm.length).drop 0 == nm) = true)
    all_goals rw [List.drop_zero, HPRE.out]
    all_goals simp
end Go.Proofs.YtfecbepleeoibaaDoor.verbsBack
