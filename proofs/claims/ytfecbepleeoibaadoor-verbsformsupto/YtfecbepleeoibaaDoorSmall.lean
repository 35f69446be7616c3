/-
  The walks of Name, kindOf, numbersOf, fitsBody.
-/
import Derived.Test.YtfecbepleeoibaaDoorTabs
import Derived.Deep.LoopGhost
namespace Go.Proofs.YtfecbepleeoibaaDoor
open Go.RowKit

/-- The verb of a kind. -/
def nameL (k : Int) : List UInt8 := if 1 ≤ k ∧ k ≤ 25 then verbOf k.toNat else []

set_option maxHeartbeats 400000 in
set_option maxRecDepth 1000000 in
theorem name_any (k : Int) (w : World) (T : Tabs w) :
    Calls Tryd.prog 10 #[.int .i64 k] w fun e w' => e = .returned (.string ⟨(nameL k).toArray⟩) ∧ w' = w := by
  by_cases hk : 1 ≤ k ∧ k ≤ 25
  · obtain ⟨n, rfl⟩ : ∃ n : Nat, k = n := ⟨k.toNat, by omega⟩
    have hc := T.verb n (by omega)
    have HE : Hid (nameL n = verbOf n) := by
      show nameL n = verbOf n
      rw [nameL, if_pos hk]; simp
    have i1 : (0 : Int) ≤ (n : Int) := by omega
    have i2 : (n : Int) < 26 := by omega
    go_enter Tryd.func10, Tryd.ntmps10
    go_wp2_with fail
    all_goals go_ret
    all_goals exact ⟨by rw [HE.out]; rfl, rfl⟩
  · have HE : Hid (nameL k = []) := by
      show nameL k = []
      rw [nameL, if_neg hk]
    go_enter Tryd.func10, Tryd.ntmps10
    go_wp2_with fail
    all_goals go_ret
    all_goals exact ⟨by rw [HE.out]; rfl, rfl⟩

set_option maxHeartbeats 400000 in
set_option maxRecDepth 1000000 in
theorem kindOf_any (s : ByteArray) (w : World) (T : Tabs w) :
    Calls Tryd.prog 25 #[.string s] w fun e w' => e = .returned (.int .i64 (kindL s.data.toList)) ∧ w' = w := by
  have HT : Hid (Tabs w) := T
  clear T
  go_enter Tryd.func25, Tryd.ntmps25
  go_wp2
  go_loopg [3] 26 (fun gk i wr => ∃ k : Nat, i = .int .i64 k ∧ 1 ≤ k ∧ k ≤ 26 ∧ 26 - k ≤ gk ∧ wr = w ∧ Hid (kindFrom s.data.toList (26 - k) k = kindL s.data.toList))
  case atStart => exact ⟨1, rfl, Nat.le_refl _, by omega, by omega, rfl, rfl⟩
  case round =>
    obtain ⟨k, rfl, hk1, hk2, hgk, hwr, HA⟩ := hrel
    subst hwr
    by_cases hp : k ≤ 25
    · have hc := HT.out.verb k (by omega)
      have i1 : (0 : Int) ≤ (k : Int) := by omega
      have i2 : (k : Int) < 26 := by omega
      by_cases hv : verbOf k = s.data.toList
      · go_wp2_with fail
        go_ret
        exact ⟨by rw [kind_here _ k hp hv HA.out]; rfl, rfl⟩
      · have hne : (verbOf k == s.toList) = false := by
          rw [beq_eq_false_iff_ne, ByteArray.toList_eq]
          exact hv
        have HV : Hid (¬ verbOf k = s.data.toList) := hv
        clear hv
        go_wp2_with fail
        go_roundg (26 - (k + 1))
        case measure => omega
        case rel => exact ⟨k + 1, by go_num, by omega, by omega, Nat.le_refl _, rfl, kind_step _ k hp HV.out HA.out⟩
    · go_wp2_with fail
      go_ret
      exact ⟨by rw [kind_out _ k (by omega) HA.out]; rfl, rfl⟩

/-- A command in a value. -/
def cmdV (c : Cm) (b : Value) : Value := .agg #[.int .i64 c.kind, .int .i64 c.id, .int .i64 c.pri, .int .i64 c.delay, .int .i64 c.ttr, .int .i64 c.number, .string ⟨c.tube.toArray⟩, b]
/-- Its numbers, by fields. -/
def numOf (c : Cm) : Nat → Int
  | 1 => c.id
  | 2 => c.pri
  | 3 => c.delay
  | 4 => c.ttr
  | 5 => c.number
  | _ => 0
def numsV (v : Nat → Int) : Value := .agg #[.int .i64 (v 0), .int .i64 (v 1), .int .i64 (v 2), .int .i64 (v 3), .int .i64 (v 4), .int .i64 (v 5)]

set_option maxHeartbeats 400000 in
set_option maxRecDepth 1000000 in
theorem numbersOf_any (c : Cm) (a : Option Addr) (n cap : Nat) (w : World) :
    Calls Tryd.prog 33 #[cmdV c (.slice a n cap)] w fun e w' => e = .returned (numsV (numOf c)) ∧ Below w.heap.size w w' := by
  unfold cmdV
  go_enter Tryd.func33, Tryd.ntmps33
  go_wp2_with fail
  refine bodyPost_ret (results_cell_row rfl _ _ (w.heap.size + 1) 58 _ (0, 0) _ rfl (heap_alloc2_new _ _ _) Tryd.underlying58 rfl (by kernel_rfl)) rfl ?_
  exact ⟨rfl, ((Below.refl _ w).alloc (Nat.le_refl _) _).alloc (by simp) _⟩

/-- Has a command the body that it should have? -/
def bodyB (c : Cm) (n : Nat) : Bool := if c.kind = 1 then decide (c.number ≤ 65535) && decide ((n : Int) = c.number) else n == 0
set_option maxHeartbeats 400000 in
set_option maxRecDepth 1000000 in
theorem fitsBody_any (c : Cm) (a : Option Addr) (n cap : Nat) (w : World) :
    Calls Tryd.prog 32 #[cmdV c (.slice a n cap)] w fun e w' => e = .returned (.bool (bodyB c n)) ∧ Below w.heap.size w w' := by
  unfold cmdV
  go_enter Tryd.func32, Tryd.ntmps32
  go_wp2_with fail
  all_goals go_ret
  all_goals refine ⟨?_, (Below.refl _ w).alloc (Nat.le_refl _) _⟩
  all_goals rename_i h1
  · have : c.kind ≠ 1 := by simpa using h1
    rw [bodyB, if_neg this]
    exact congrArg (fun b => Ending.returned (.bool b)) (show ((n : Int) == 0) = (n == 0) by cases n <;> rfl)
  all_goals rename_i h0
  · have h0 : c.kind = 1 := by simpa using h0
    rw [bodyB, if_pos h0, decide_eq_true h1]
    exact congrArg (fun b => Ending.returned (.bool b)) (show ((n : Int) == c.number) = (true && decide ((n : Int) = c.number)) by rw [Bool.true_and]; rfl)
  · have h0 : c.kind = 1 := by simpa using h0
    rw [bodyB, if_pos h0, decide_eq_false (by omega)]
    rfl
end Go.Proofs.YtfecbepleeoibaaDoor
