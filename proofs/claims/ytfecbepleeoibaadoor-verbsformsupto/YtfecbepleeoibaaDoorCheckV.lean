/-
  The walk of Check.
-/
import Derived.Test.YtfecbepleeoibaaDoorFits
namespace Go.Proofs.YtfecbepleeoibaaDoor
open Go.RowKit Go.Lib

def checkE (c : Cm) (n : Nat) : Int := if lineB c && bodyB c n then 0 else 72
set_option maxHeartbeats 2000000 in
set_option maxRecDepth 1000000 in
theorem check_any (c : Cm) (a : Option Addr) (n cap : Nat) (w : World) (T : Tabs w) :
    Calls Tryd.prog 19 #[cmdV c (.slice a n cap)] w fun e w' => e = .returned (.int .i64 (checkE c n)) ∧ Below w.heap.size w w' := by
  have HT := hide T
  clear T
  obtain ⟨r, hr⟩ : ∃ r, checkE c n = r := ⟨_, rfl⟩
  have HR := hide hr
  rw [hr]
  clear hr
  have HF := hide fun w T => fitsLine_any c a n cap w T
  have HB := hide fun w => fitsBody_any c a n cap w
  obtain ⟨b1, h1⟩ : ∃ b1, lineB c = b1 := ⟨_, rfl⟩
  obtain ⟨b2, h2⟩ : ∃ b2, bodyB c n = b2 := ⟨_, rfl⟩
  rw [h1] at HF
  rw [h2] at HB
  have HE : Hid (r = if b1 && b2 then 0 else 72) := by
    show r = _
    rw [← HR.out, checkE, h1, h2]
  clear HR h1 h2
  obtain ⟨q0, q1, q2, q3, q4, q5, q6⟩ := c
  unfold cmdV at *
  cases b1
  · go_enter Tryd.func19, Tryd.ntmps19
    go_wp2_with (go_at_call 31; refine (HF.out _ (HT.out.alloc _)).mono ?_; rintro e w1 ⟨rfl, B1⟩; have HB1 := hide B1; clear B1)
    go_ret
    exact ⟨by rw [HE.out]; rfl, ((Below.refl _ w).alloc (Nat.le_refl _) _).trans (HB1.out.mono (by simp))⟩
  · cases b2
    all_goals (
      go_enter Tryd.func19, Tryd.ntmps19
      go_wp2_with (first
        | (go_at_call 31
           refine (HF.out _ (HT.out.alloc _)).mono ?_
           rintro e w1 ⟨rfl, B1⟩
           have hb1 := (B1.block w.heap.size (by simp)).trans (heap_alloc_new _ _)
           have x0 : w1.cell? ⟨w.heap.size, 0, none⟩ = some (.int .i64 q0) := cells_at hb1 rfl
           have x1 : w1.cell? ⟨w.heap.size, 1, none⟩ = some (.int .i64 q1) := cells_at hb1 rfl
           have x2 : w1.cell? ⟨w.heap.size, 2, none⟩ = some (.int .i64 q2) := cells_at hb1 rfl
           have x3 : w1.cell? ⟨w.heap.size, 3, none⟩ = some (.int .i64 q3) := cells_at hb1 rfl
           have x4 : w1.cell? ⟨w.heap.size, 4, none⟩ = some (.int .i64 q4) := cells_at hb1 rfl
           have x5 : w1.cell? ⟨w.heap.size, 5, none⟩ = some (.int .i64 q5) := cells_at hb1 rfl
           have x6 : w1.cell? ⟨w.heap.size, 6, none⟩ = some (.string ⟨q6.toArray⟩) := cells_at hb1 rfl
           have x7 : w1.cell? ⟨w.heap.size, 7, none⟩ = some (.slice a n cap) := cells_at hb1 rfl
           have HB1 : Hid (Below w.heap.size w w1) := ((Below.refl _ w).alloc (Nat.le_refl _) _).trans (B1.mono (by simp))
           clear B1 hb1)
        | (go_at_call 32
           refine (HB.out _).mono ?_
           rintro e w2 ⟨rfl, B2⟩
           have HB2 : Hid (Below w.heap.size w w2) := HB1.out.trans (B2.mono HB1.out.size)
           clear B2))
      go_ret
      exact ⟨by rw [HE.out]; rfl, HB2.out⟩)
end Go.Proofs.YtfecbepleeoibaaDoor
