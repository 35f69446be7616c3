/-
  Rows of a heap, and 'ahead'.
-/
import Derived.Test.YtonfdmbcbfpgdaaMk
namespace Go.Proofs.Ytonfdmbcbfpgdaa
open Go.RowKit

/-- A thing as a value. -/
def valM (s : Mk) : Value := .agg #[.int .i64 s.id, .int .i64 s.pri, .int .i64 s.due, .int .i64 s.ord]
/-- The cells of a row. -/
def cellsM (r : Int × Mk) : List Value := [.int .i64 r.1, .int .i64 r.2.id, .int .i64 r.2.pri, .int .i64 r.2.due, .int .i64 r.2.ord]
/-- A row as a value. -/
def rowvM (r : Int × Mk) : Value := .agg (cellsM r).toArray
/-- What is handed to a heap: a function that answers lt, of things that are ok; St n: it was asked n times; it lives in the blocks Fr. -/
structure AskerM (f : FuncId) (rk : Int) (lt : Mk → Mk → Bool) (ok : Mk → Prop) (Fr : Nat → Prop) (St : Nat → World → Prop) : Prop where
  enters : Enters Try.prog f
  ask : ∀ n w x y, St n w → ok x → ok y → Calls Try.prog f #[.int .i64 rk, valM x, valM y] w fun e w' => e = .returned (.bool (lt x y)) ∧ St (n + 1) w' ∧ Kept Fr w w'
  keep : ∀ n w w', St n w → w.heap.size ≤ w'.heap.size → (∀ k, k < w.heap.size → Fr k → w'.heap[k]? = w.heap[k]?) → St n w'
  old : ∀ n w k, St n w → Fr k → k < w.heap.size

set_option maxHeartbeats 2000000 in
set_option maxRecDepth 1000000 in
theorem aheadM {f : FuncId} {rk : Int} {lt : Mk → Mk → Bool} {ok : Mk → Prop} {Fr : Nat → Prop} {St : Nat → World → Prop} (A : AskerM f rk lt ok Fr St)
    (w : World) (hb n : Nat) (a b : Int × Mk) (hst : St n w) (h0 : w.cell? ⟨hb, 0, none⟩ = some (.func (.func f) #[.int .i64 rk] #[])) (hoa : ok a.2) (hob : ok b.2) :
    Calls Try.prog 55 #[.pointer (some ⟨hb, 0, none⟩), rowvM a, rowvM b] w fun e w' => e = .returned (.bool (rankB lt a b)) ∧ St (n + 1) w' ∧ Kept Fr w w' := by
  have HA : Hid (AskerM f rk lt ok Fr St) := A
  have e0 : ∀ (args : Array Value) (w : World), (callFunc f args).run Try.prog w = .ok (.enter f args) w := A.enters
  have HS : Hid (St n w) := hst
  obtain ⟨a1, a2⟩ := a
  obtain ⟨b1, b2⟩ := b
  have HO : Hid (ok a2 ∧ ok b2) := ⟨hoa, hob⟩
  have hlt := cell_lt h0
  simp only [] at hlt
  clear hoa hob hst A
  unfold rowvM cellsM
  simp only []
  by_cases hc : a1 < b1
  · go_enter Try.func55, Try.ntmps55
    go_wp2_with fail
    refine wp_tail 8 mixed (by kernel_rfl) ?_
    simp only [List.take_succ_cons, List.take_zero, List.drop_succ_cons, List.drop_zero]
    repeat still_step
    refine wpStill_nil ?_
    go_wp2_with fail
    refine (HA.out.ask n _ b2 a2 (HA.out.keep n w _ HS.out (below_two w _ _).size (fun k hk _ => (below_two w _ _).block k hk)) HO.out.2 HO.out.1).mono ?_
    rintro e w2 ⟨rfl, hst2, hk2⟩
    have H2 : Hid (St (n + 1) w2 ∧ Kept Fr w w2) := ⟨hst2, (Kept.ofBelow (below_two w _ _)).trans hk2⟩
    clear hst2 hk2
    go_wp2
    go_ret
    exact ⟨by simp [rankB, hc], H2.out⟩
  · go_enter Try.func55, Try.ntmps55
    go_wp2_with fail
    refine wp_tail 8 mixed (by kernel_rfl) ?_
    simp only [List.take_succ_cons, List.take_zero, List.drop_succ_cons, List.drop_zero]
    repeat still_step
    refine wpStill_nil ?_
    go_wp2_with fail
    refine (HA.out.ask n _ a2 b2 (HA.out.keep n w _ HS.out (below_two w _ _).size (fun k hk _ => (below_two w _ _).block k hk)) HO.out.1 HO.out.2).mono ?_
    rintro e w2 ⟨rfl, hst2, hk2⟩
    have H2 : Hid (St (n + 1) w2 ∧ Kept Fr w w2) := ⟨hst2, (Kept.ofBelow (below_two w _ _)).trans hk2⟩
    clear hst2 hk2
    go_wp2
    go_ret
    exact ⟨by simp only [rankB]; rw [if_neg (by omega)]; rfl, H2.out⟩
end Go.Proofs.Ytonfdmbcbfpgdaa
