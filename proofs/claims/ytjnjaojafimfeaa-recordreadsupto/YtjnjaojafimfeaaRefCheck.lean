/-
  The document's counts, lasting, short, changes, blank.
-/
import Derived.Test.YtjnjaojafimfeaaRefConf
import Derived.Test.YtjnjaojafimfeaaRefValid
import Derived.Test.YtjnjaojafimfeaaCheckW
namespace Go.Proofs.Ytjnjaojafimfeaa
open Go.RowKit

/-- A job in cells. -/
def jobA (r : Rec) (b : Value) : Array Value := #[.int .i64 (r.num 3), .int .i64 (r.num 4), .int .i64 (r.num 5), .int .i64 (r.num 6), .int .i64 (r.num 7), .int .i64 (r.num 8), .int .i64 (r.num 9), .int .i64 (r.num 10), .int .i64 (r.num 11), .int .i64 (r.num 12), .int .i64 (r.num 13), .int .i64 (r.num 14), .int .i64 (r.num 15), .string ⟨r.tube.toArray⟩, b]
def cntA (n : Nat → Int) : Array Value := #[.int .i64 (n 11), .int .i64 (n 12), .int .i64 (n 13), .int .i64 (n 14), .int .i64 (n 15)]
def cntB (n : Nat → Int) : Bool := withinB (n 11) 0 4611686018427387903 && withinB (n 12) 0 4611686018427387903 && withinB (n 13) 0 4611686018427387903 && withinB (n 14) 0 4611686018427387903 && withinB (n 15) 0 4611686018427387903
def lastB (r : Rec) (m : Nat) : Bool := withinB (r.num 6) 1 4294967295 && withinB (r.num 7) 0 1099511627776 && validB r.tube && decide ((m : Int) ≤ 65535)
def shortB (r : Rec) (m : Nat) : Bool := (r.num 6 == 0) && (r.num 7 == 0) && (r.tube == []) && ((m : Int) == 0)

set_option maxHeartbeats 1000000 in
set_option maxRecDepth 1000000 in
theorem counts_any (n : Nat → Int) (w : World) : Calls Try.prog 48 #[.agg (cntA n)] w fun e w' => e = .returned (.bool (cntB n)) ∧ Below w.heap.size w w' := by
  unfold cntA
  have B0 : Hid (∀ o, Below w.heap.size w (w.alloc o)) := fun o => (Below.refl _ w).alloc (Nat.le_refl _) _
  go_enter Try.func48, Try.ntmps48
  go_wp2_with (first
    | (go_at_call 26; refine (refWithin_any _ _ _ _).mono ?_; rintro e w' ⟨rfl, hw'⟩; obtain rfl := hw'.symm))
  all_goals go_ret
  all_goals refine ⟨?_, B0.out _⟩
  all_goals simp_all [cntB]

set_option maxHeartbeats 1000000 in
set_option maxRecDepth 1000000 in
theorem lasting_any (r : Rec) (a : Option Addr) (m c : Nat) (w : World) : Calls Try.prog 34 #[.agg (jobA r (.slice a m c))] w fun e w' => e = .returned (.bool (lastB r m)) ∧ Below w.heap.size w w' := by
  unfold jobA
  have B0 : Hid (∀ o, Below w.heap.size w (w.alloc o)) := fun o => (Below.refl _ w).alloc (Nat.le_refl _) _
  have CV : Hid (∀ W, Calls Try.prog 49 #[.string ⟨r.tube.toArray⟩] W fun e w' => e = .returned (.bool (validB r.tube)) ∧ w' = W) := refValid_any ⟨r.tube.toArray⟩
  go_enter Try.func34, Try.ntmps34
  go_wp2_with (first
    | (go_at_call 26; refine (refWithin_any _ _ _ _).mono ?_; rintro e w' ⟨rfl, hw'⟩; obtain rfl := hw'.symm)
    | (go_at_call 49; refine (CV.out _).mono ?_; rintro e w' ⟨rfl, hw'⟩; obtain rfl := hw'.symm))
  all_goals go_ret
  all_goals refine ⟨?_, B0.out _⟩
  all_goals simp_all [lastB]

set_option maxHeartbeats 1000000 in
set_option maxRecDepth 1000000 in
theorem short_any (r : Rec) (a : Option Addr) (m c : Nat) (w : World) : Calls Try.prog 35 #[.agg (jobA r (.slice a m c))] w fun e w' => e = .returned (.bool (shortB r m)) ∧ Below w.heap.size w w' := by
  unfold jobA
  have B0 : Hid (∀ o, Below w.heap.size w (w.alloc o)) := fun o => (Below.refl _ w).alloc (Nat.le_refl _) _
  have HT : Hid (((⟨r.tube.toArray⟩ : ByteArray).toList == (⟨#[]⟩ : ByteArray).toList) = (r.tube == [])) := tube_nil
  have he := HT.out
  obtain ⟨tb, htb⟩ : ∃ tb, tb = (r.tube == []) := ⟨_, rfl⟩
  rw [← htb] at he
  have HE : Hid (shortB r m = ((r.num 6 == 0) && (r.num 7 == 0) && tb && ((m : Int) == 0))) := by show shortB r m = _; rw [htb]; rfl
  clear htb HT
  cases tb
  · go_enter Try.func35, Try.ntmps35
    go_wp2_with fail
    all_goals go_ret
    all_goals refine ⟨?_, B0.out _⟩
    all_goals rw [HE.out]
    all_goals simp_all
  · go_enter Try.func35, Try.ntmps35
    go_wp2_with fail
    all_goals go_ret
    all_goals refine ⟨?_, B0.out _⟩
    all_goals rw [HE.out]
    all_goals simp_all

def stateB (n : Nat → Int) : Bool :=
  if n 8 = 1 then (n 9 == 0) && (n 10 == 0) else if n 8 = 2 then withinB (n 9) 1 1103806595071 && (n 10 == 0) else if n 8 = 4 then (n 9 == 0) && withinB (n 10) 1 4611686018427387903 else false
def changesB (n : Nat → Int) : Bool := withinB (n 3) 1 1099511627776 && withinB (n 4) 0 4294967295 && withinB (n 5) 0 4294967295 && cntB n && stateB n
set_option maxHeartbeats 2000000 in
set_option maxRecDepth 1000000 in
theorem changes_any (r : Rec) (a : Option Addr) (m c : Nat) (w : World) : Calls Try.prog 33 #[.agg (jobA r (.slice a m c))] w fun e w' => e = .returned (.bool (changesB r.num)) ∧ Below w.heap.size w w' := by
  have J0 : Hid ((w.alloc (.cells (jobA r (.slice a m c)) 32)).heap[w.heap.size]? = some (.cells (jobA r (.slice a m c)) 32 (0, 0))) := heap_alloc_last _ _
  unfold jobA at J0 ⊢
  have B0 : Hid (∀ o, Below w.heap.size w (w.alloc o)) := fun o => (Below.refl _ w).alloc (Nat.le_refl _) _
  have CC : Hid (∀ W, Calls Try.prog 48 #[.agg (cntA r.num)] W fun e w' => e = .returned (.bool (cntB r.num)) ∧ Below W.heap.size W w') := counts_any r.num
  unfold cntA at CC
  obtain ⟨cb, hcb⟩ : ∃ cb, cb = cntB r.num := ⟨_, rfl⟩
  rw [← hcb] at CC
  have HE : Hid (changesB r.num = (withinB (r.num 3) 1 1099511627776 && withinB (r.num 4) 0 4294967295 && withinB (r.num 5) 0 4294967295 && cb && stateB r.num)) := by show changesB r.num = _; rw [hcb]; rfl
  clear hcb
  go_enter Try.func33, Try.ntmps33
  go_wp2_with (first
    | (go_at_call 26; refine (refWithin_any _ _ _ _).mono ?_; rintro e w' ⟨rfl, hw'⟩; obtain rfl := hw'.symm)
    | (go_at_call 48
       refine (CC.out _).mono ?_
       rintro e w2 ⟨rfl, B2⟩
       have BX2 : Hid (Below w.heap.size w w2) := below_box B2
       have hj := (B2.block _ (by simp)).trans J0.out
       have k5 : w2.cell? ⟨w.heap.size, 5, none⟩ = some (.int .i64 (r.num 8)) := cell_of_row _ _ 5 _ _ (0, 0) hj
       have k6 : w2.cell? ⟨w.heap.size, 6, none⟩ = some (.int .i64 (r.num 9)) := cell_of_row _ _ 6 _ _ (0, 0) hj
       have k7 : w2.cell? ⟨w.heap.size, 7, none⟩ = some (.int .i64 (r.num 10)) := cell_of_row _ _ 7 _ _ (0, 0) hj
       clear B2 hj))
  all_goals go_ret
  all_goals refine ⟨?_, by first | exact BX2.out | exact B0.out _⟩
  all_goals rw [HE.out]
  all_goals simp_all [stateB]
end Go.Proofs.Ytjnjaojafimfeaa
