/-
  The walk of may.
-/
import Derived.Test.YtjbmolclagmecabPlainFrame
namespace Go.Proofs.Ytjbmolclagmecab
open Go.RowKit

def mayB (f p : Int) (l : List UInt8) : Bool := decide (makeE f p l = 0)
theorem mayB_true {f p : Int} {l : List UInt8} (h1 : 0 ≤ f) (h2 : f ≤ 4611686018427387903) (h3 : 0 ≤ p) (h4 : p ≤ 4611686018427387903) (h5 : 0 < (l.length : Int)) (h6 : (l.length : Int) ≤ 66000) : mayB f p l = true :=
  decide_eq_true (makeE_mk (decide_eq_true ⟨h1, h2⟩) (decide_eq_true ⟨h3, h4⟩) (decide_eq_true ⟨by omega, h6⟩))
theorem mayB_false {f p : Int} {l : List UInt8} (h : ¬ (0 ≤ f ∧ f ≤ 4611686018427387903 ∧ 0 ≤ p ∧ p ≤ 4611686018427387903 ∧ 0 < (l.length : Int) ∧ (l.length : Int) ≤ 66000)) : mayB f p l = false :=
  decide_eq_false fun hE => by
    obtain ⟨a, b, c⟩ := makeE_ok hE
    have := wordB_yes a
    have := wordB_yes b
    have := lenB_yes c
    omega

set_option maxHeartbeats 1000000 in
set_option maxRecDepth 1000000 in
theorem may_any (f p : Int) (a : Option Addr) (c : Nat) (l : List UInt8) (w : World) :
    Calls Try.prog 7 #[.int .i64 f, .int .i64 p, .slice a l.length c] w fun e w' => e = .returned (.bool (mayB f p l)) ∧ w' = w := by
  by_cases h1 : 0 ≤ f
  · by_cases h2 : f ≤ 4611686018427387903
    · by_cases h3 : 0 ≤ p
      · by_cases h4 : p ≤ 4611686018427387903
        · by_cases h5 : 0 < (l.length : Int)
          · by_cases h6 : (l.length : Int) ≤ 66000
            · have HM : Hid (mayB f p l = true) := mayB_true h1 h2 h3 h4 h5 h6
              go_enter Try.func7, Try.ntmps7
              go_wp2
              go_ret
              exact ⟨by rw [HM.out]; rfl, rfl⟩
            · have HM : Hid (mayB f p l = false) := mayB_false (by omega)
              go_enter Try.func7, Try.ntmps7
              go_wp2
              go_ret
              exact ⟨by rw [HM.out]; rfl, rfl⟩
          · have HM : Hid (mayB f p l = false) := mayB_false (by omega)
            go_enter Try.func7, Try.ntmps7
            go_wp2
            go_ret
            exact ⟨by rw [HM.out]; rfl, rfl⟩
        · have HM : Hid (mayB f p l = false) := mayB_false (by omega)
          go_enter Try.func7, Try.ntmps7
          go_wp2
          go_ret
          exact ⟨by rw [HM.out]; rfl, rfl⟩
      · have HM : Hid (mayB f p l = false) := mayB_false (by omega)
        go_enter Try.func7, Try.ntmps7
        go_wp2
        go_ret
        exact ⟨by rw [HM.out]; rfl, rfl⟩
    · have HM : Hid (mayB f p l = false) := mayB_false (by omega)
      go_enter Try.func7, Try.ntmps7
      go_wp2
      go_ret
      exact ⟨by rw [HM.out]; rfl, rfl⟩
  · have HM : Hid (mayB f p l = false) := mayB_false (by omega)
    go_enter Try.func7, Try.ntmps7
    go_wp2
    go_ret
    exact ⟨by rw [HM.out]; rfl, rfl⟩
end Go.Proofs.Ytjbmolclagmecab
