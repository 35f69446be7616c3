/-
  The walk of VerbsChecks.
-/
import Derived.Test.YtfecbepleeoibaaDoorRefRight
import Derived.Test.YtfecbepleeoibaaDoorLent
namespace Go.Proofs.YtfecbepleeoibaaDoor.verbsChecks
open Go.RowKit Go.Lib

set_option maxHeartbeats 4000000 in
set_option maxRecDepth 1000000 in
theorem walk (c : Cm) (a : Option Addr) (cap : Nat) (l : List UInt8) (w : World) (hf : IsBytes w a cap l ∧ c.tube.length ≤ maxLen) (T : Tabs w) (hb : c.tube.length + l.length ≤ 1048576) :
    Calls Tryd.prog 6 #[cmdV c (.slice a l.length cap)] w fun e w' => e = .returned (.bool true) ∧ Below w.heap.size w w' := by
  have HT := hide T
  have HI := hide hf.1
  have HLB : Hid (l.length ≤ 140737488355000) := (by omega : l.length ≤ 140737488355000)
  clear T hf hb
  obtain ⟨n, hn⟩ : ∃ n, l.length = n := ⟨_, rfl⟩
  have HN := hide hn
  rw [hn]
  obtain ⟨r, hr⟩ : ∃ r, checkE c n = r := ⟨_, rfl⟩
  have HRC := hide fun w => refCheck_any c a n cap w
  have HCK := hide fun g w T => check_any c (some ⟨g, 0, none⟩) n (n + 4) w T
  rw [hr] at HRC HCK
  have HLE := hide fun w h => lent_any a cap l w h HLB.out
  have HST := hide fun w1 c1 a1 h1 h2 => still_any a1 c1 a cap l w1 h1 h2
  rw [hn] at HLE HST
  clear hn hr
  have J0 := BoxJ.start w c (.slice a n cap)
  obtain ⟨q0, q1, q2, q3, q4, q5, q6⟩ := c
  unfold cmdV cmdA at *
  go_enter Tryd.func6, Tryd.ntmps6
  go_wp2_with (first
    | (go_at_call 9
       refine (shown_any _ (HT.out.alloc _)).mono ?_
       rintro e w1 ⟨rfl, B1⟩
       have J1 := BoxJ.step J0 B1
       obtain ⟨y0, y1, y2, y3, y4, y5, y6, y7⟩ := BoxJ.cells J1
       have HT1 := hide ((HT.out.alloc _).below B1)
       have HI1 := hide ((HI.out.below ((Below.refl _ w).alloc (Nat.le_refl _) _)).below B1)
       clear B1)
    | (go_at_call 15
       refine (HLE.out _ HI1.out).mono ?_
       rintro e w2 ⟨rfl, HR2, B2⟩
       have J2 := BoxJ.step J1 B2
       obtain ⟨z0, z1, z2, z3, z4, z5, z6, z7⟩ := BoxJ.cells J2
       have HT2 := hide (HT1.out.below B2)
       have HI2 := hide (HI1.out.below B2)
       have hlt2 : w.heap.size < w2.heap.size := J2.out.lt
       clear B2))
  obtain ⟨w3, hw3⟩ : ∃ w3, w3 = w2.alloc (.cells #[.int .i64 q0, .int .i64 q1, .int .i64 q2, .int .i64 q3, .int .i64 q4, .int .i64 q5, .string ⟨q6.toArray⟩, .slice (some ⟨w1.heap.size, 0, none⟩) n (n + 4)] 27) := ⟨_, rfl⟩
  rw [← hw3]
  have HIN3 : Hid (w3.heap[w2.heap.size]? = some (.cells #[.int .i64 q0, .int .i64 q1, .int .i64 q2, .int .i64 q3, .int .i64 q4, .int .i64 q5, .string ⟨q6.toArray⟩, .slice (some ⟨w1.heap.size, 0, none⟩) n (n + 4)] 27 (0, 0))) := by show w3.heap[w2.heap.size]? = _; rw [hw3]; exact heap_alloc_new _ _
  have B3 : Below w2.heap.size w2 w3 := by rw [hw3]; exact (Below.refl _ w2).alloc (Nat.le_refl _) _
  have J3 := BoxJ.step J2 B3
  have HT3 := hide (HT2.out.below B3)
  have HI3 := hide (HI2.out.below B3)
  have HR3 := hide (HR2.out.below B3 HR2.out.lt)
  clear hw3 B3 y0 y1 y2 y3 y4 y5 y6 y7 z0 z1 z2 z3 z4 z5 z6 z7
  refine (HCK.out _ _ HT3.out).mono ?_
  rintro e w4 ⟨rfl, B4⟩
  have J4 := BoxJ.step J3 B4
  have HT4 := hide (HT3.out.below B4)
  have HI4 := hide (HI3.out.below B4)
  have HR4 := hide (HR3.out.below B4 HR3.out.lt)
  have HIN4 := hide ((B4.block _ (Array.getElem?_eq_some_iff.1 HIN3.out).1).trans HIN3.out)
  have i0 : w4.cell? ⟨w2.heap.size, 0, none⟩ = some (.int .i64 q0) := cells_at HIN4.out rfl
  have i1 : w4.cell? ⟨w2.heap.size, 1, none⟩ = some (.int .i64 q1) := cells_at HIN4.out rfl
  have i2 : w4.cell? ⟨w2.heap.size, 2, none⟩ = some (.int .i64 q2) := cells_at HIN4.out rfl
  have i3 : w4.cell? ⟨w2.heap.size, 3, none⟩ = some (.int .i64 q3) := cells_at HIN4.out rfl
  have i4 : w4.cell? ⟨w2.heap.size, 4, none⟩ = some (.int .i64 q4) := cells_at HIN4.out rfl
  have i5 : w4.cell? ⟨w2.heap.size, 5, none⟩ = some (.int .i64 q5) := cells_at HIN4.out rfl
  have i6 : w4.cell? ⟨w2.heap.size, 6, none⟩ = some (.string ⟨q6.toArray⟩) := cells_at HIN4.out rfl
  have i7 : w4.cell? ⟨w2.heap.size, 7, none⟩ = some (.slice (some ⟨w1.heap.size, 0, none⟩) n (n + 4)) := cells_at HIN4.out rfl
  clear B4
  go_wp2_with (first
    | (go_at_call 19
       refine (HCK.out _ _ HT4.out).mono ?_
       rintro e w5 ⟨rfl, B5⟩
       have J5 := BoxJ.step J4 B5
       have HT5 := hide (HT4.out.below B5)
       have HI5 := hide (HI4.out.below B5)
       have HR5 := hide (HR4.out.below B5 HR4.out.lt)
       have HIN5 := hide ((B5.block _ (Array.getElem?_eq_some_iff.1 HIN4.out).1).trans HIN4.out)
       obtain ⟨y0, y1, y2, y3, y4, y5, y6, y7⟩ := BoxJ.cells J5
       clear B5)
    | (go_at_call 17
       refine (HST.out _ _ _ (HR5.out.is 0 (n + 4) (l ++ marks 4) (fun j x hj => by rw [Nat.zero_add]; exact hj) (by simp [marks, HN.out]) (by have := HLB.out; rw [HN.out] at this; unfold maxLen; omega)) HI5.out).mono ?_
       rintro e w6 ⟨rfl, B6⟩
       have J6 := BoxJ.step J5 B6
       obtain ⟨z0, z1, z2, z3, z4, z5, z6, z7⟩ := BoxJ.cells J6
       clear B6)
    | (go_at_call 20
       refine (HRC.out _).mono ?_
       rintro e w7 ⟨rfl, B7⟩
       have J7 := BoxJ.step J6 B7
       clear B7))
  all_goals go_ret
  all_goals exact ⟨by simp, J7.out.below⟩
end Go.Proofs.YtfecbepleeoibaaDoor.verbsChecks
