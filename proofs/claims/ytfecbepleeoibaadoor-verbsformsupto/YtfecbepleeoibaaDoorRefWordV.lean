/-
  The walk of the document's word.
-/
import Derived.Test.YtfecbepleeoibaaDoorRefRight
import Derived.Test.YtfecbepleeoibaaDoorRefPrint
namespace Go.Proofs.YtfecbepleeoibaaDoor
open Go.RowKit Go.Lib

set_option maxHeartbeats 2000000 in
set_option maxRecDepth 1000000 in
theorem refWordV_any (c : Cm) (a : Option Addr) (n cap : Nat) (f : Nat) (hf : 1 ≤ f ∧ f ≤ 6) (hn : f ≠ 6 → 0 ≤ numOf c f ∧ numOf c f ≤ 4611686018427387903) (w : World) :
    Calls Tryd.prog 38 #[cmdV c (.slice a n cap), .int .u8 (letterOf f).toNat] w fun e w' => e = .returned (.string ⟨(wordOf c f).toArray⟩) ∧ Below w.heap.size w w' := by
  obtain ⟨q0, q1, q2, q3, q4, q5, q6⟩ := c
  unfold cmdV
  match f, hf, hn with
  | 1, _, hn =>
    have hx : 0 ≤ q1 ∧ q1 ≤ 4611686018427387903 := hn (by decide)
    rw [show wordOf ⟨q0, q1, q2, q3, q4, q5, q6⟩ 1 = printL q1 from rfl, show (((letterOf 1).toNat : Nat) : Int) = 105 from rfl]
    go_enter Tryd.func38, Tryd.ntmps38
    go_wp2_with (go_at_call 55; refine (refPrint_any q1 _ (by omega) (by omega)).mono ?_; rintro e w1 ⟨rfl, B1⟩; have HB1 : Hid (Below w.heap.size w w1) := ((Below.refl _ w).alloc (Nat.le_refl _) _).trans (B1.mono (by simp)); clear B1)
    go_ret
    exact ⟨rfl, HB1.out⟩
  | 2, _, hn =>
    have hx : 0 ≤ q2 ∧ q2 ≤ 4611686018427387903 := hn (by decide)
    rw [show wordOf ⟨q0, q1, q2, q3, q4, q5, q6⟩ 2 = printL q2 from rfl, show (((letterOf 2).toNat : Nat) : Int) = 112 from rfl]
    go_enter Tryd.func38, Tryd.ntmps38
    go_wp2_with (go_at_call 55; refine (refPrint_any q2 _ (by omega) (by omega)).mono ?_; rintro e w1 ⟨rfl, B1⟩; have HB1 : Hid (Below w.heap.size w w1) := ((Below.refl _ w).alloc (Nat.le_refl _) _).trans (B1.mono (by simp)); clear B1)
    go_ret
    exact ⟨rfl, HB1.out⟩
  | 3, _, hn =>
    have hx : 0 ≤ q3 ∧ q3 ≤ 4611686018427387903 := hn (by decide)
    rw [show wordOf ⟨q0, q1, q2, q3, q4, q5, q6⟩ 3 = printL q3 from rfl, show (((letterOf 3).toNat : Nat) : Int) = 100 from rfl]
    go_enter Tryd.func38, Tryd.ntmps38
    go_wp2_with (go_at_call 55; refine (refPrint_any q3 _ (by omega) (by omega)).mono ?_; rintro e w1 ⟨rfl, B1⟩; have HB1 : Hid (Below w.heap.size w w1) := ((Below.refl _ w).alloc (Nat.le_refl _) _).trans (B1.mono (by simp)); clear B1)
    go_ret
    exact ⟨rfl, HB1.out⟩
  | 4, _, hn =>
    have hx : 0 ≤ q4 ∧ q4 ≤ 4611686018427387903 := hn (by decide)
    rw [show wordOf ⟨q0, q1, q2, q3, q4, q5, q6⟩ 4 = printL q4 from rfl, show (((letterOf 4).toNat : Nat) : Int) = 114 from rfl]
    go_enter Tryd.func38, Tryd.ntmps38
    go_wp2_with (go_at_call 55; refine (refPrint_any q4 _ (by omega) (by omega)).mono ?_; rintro e w1 ⟨rfl, B1⟩; have HB1 : Hid (Below w.heap.size w w1) := ((Below.refl _ w).alloc (Nat.le_refl _) _).trans (B1.mono (by simp)); clear B1)
    go_ret
    exact ⟨rfl, HB1.out⟩
  | 5, _, hn =>
    have hx : 0 ≤ q5 ∧ q5 ≤ 4611686018427387903 := hn (by decide)
    rw [show wordOf ⟨q0, q1, q2, q3, q4, q5, q6⟩ 5 = printL q5 from rfl, show (((letterOf 5).toNat : Nat) : Int) = 110 from rfl]
    go_enter Tryd.func38, Tryd.ntmps38
    go_wp2_with (go_at_call 55; refine (refPrint_any q5 _ (by omega) (by omega)).mono ?_; rintro e w1 ⟨rfl, B1⟩; have HB1 : Hid (Below w.heap.size w w1) := ((Below.refl _ w).alloc (Nat.le_refl _) _).trans (B1.mono (by simp)); clear B1)
    go_ret
    exact ⟨rfl, HB1.out⟩
  | 6, _, _ =>
    rw [show wordOf ⟨q0, q1, q2, q3, q4, q5, q6⟩ 6 = q6 from rfl, show (((letterOf 6).toNat : Nat) : Int) = 116 from rfl]
    go_enter Tryd.func38, Tryd.ntmps38
    go_wp2_with fail
    go_ret
    exact ⟨rfl, (Below.refl _ w).alloc (Nat.le_refl _) _⟩
  | 0, h, _ => omega
  | k + 7, h, _ => omega
end Go.Proofs.YtfecbepleeoibaaDoor
