/-
  A queue that was made here: the walks with what they leave alone.
-/
import Derived.Test.YtccpaapbgdpghaaLeaveI
namespace Go.Proofs.Ytccpaapbgdpghaa
open Go.RowKit

structure FromI (w0 w : World) (qb mb : Nat) (given : Int) (R : List Stand) : Prop where
  q : QueueAtI w qb mb given R
  base : ∀ k, Mine qb mb R k → w0.heap.size ≤ k
  vals : ∀ r ∈ R, ∃ x : Int, r.v = .int .i64 x
  bel : Below w0.heap.size w0 w

theorem QueueAtI.kept {w w' : World} {qb mb : Nat} {given : Int} {R : List Stand} (h : QueueAtI w qb mb given R) {P : Nat → Prop} (hk : Kept P w w') (hP : ∀ k, Mine qb mb R k → ¬ P k) : QueueAtI w' qb mb given R :=
  ⟨h.link.kept (hk.block qb (Array.getElem?_eq_some_iff.1 h.link.box).1 (hP _ (.inl rfl))) (fun r hr => by
    obtain ⟨c, hc⟩ := h.link.seg.block hr
    exact hk.block _ (Array.getElem?_eq_some_iff.1 hc).1 (hP _ (.inr (.inr ⟨r, hr, rfl⟩)))), h.tab.block (hk.block mb h.tab.lt (hP _ (.inr (.inl rfl)))), h.up, h.le, h.pos⟩
theorem QueueAtI.below {w w' : World} {qb mb : Nat} {given : Int} {R : List Stand} (h : QueueAtI w qb mb given R) (hb : Below w.heap.size w w') : QueueAtI w' qb mb given R := h.kept (P := fun _ => False) (Kept.ofBelow hb) (fun _ _ h => h)
theorem QueueAtI.lt {w : World} {qb mb : Nat} {given : Int} {R : List Stand} (h : QueueAtI w qb mb given R) {k : Nat} (hk : Mine qb mb R k) : k < w.heap.size := by
  rcases hk with rfl | rfl | ⟨r, hr, rfl⟩
  · exact (Array.getElem?_eq_some_iff.1 h.link.box).1
  · exact h.tab.lt
  · obtain ⟨c, hc⟩ := h.link.seg.block hr
    exact (Array.getElem?_eq_some_iff.1 hc).1
/-- What the blocks of a queue are not: a row of another type. -/
theorem QueueAtI.not {w : World} {qb mb : Nat} {given : Int} {R : List Stand} (h : QueueAtI w qb mb given R) {k : Nat} {c : Array Value} {t : TypeId} (hc : w.heap[k]? = some (.cells c t (0, 0))) (h1 : t ≠ 59) (h2 : t ≠ 73) : ¬ Mine qb mb R k := by
  rintro (rfl | rfl | ⟨r, hr, rfl⟩)
  · rw [h.link.box] at hc
    simp at hc
    exact h1 hc.2.symm
  · obtain ⟨es, clock, hm⟩ := h.tab.map
    rw [hm] at hc; simp at hc
  · obtain ⟨c', hc'⟩ := h.link.seg.block hr
    rw [hc'] at hc
    simp at hc
    exact h2 hc.2.symm
theorem FromI.kept {w0 w w' : World} {qb mb : Nat} {given : Int} {R : List Stand} (h : FromI w0 w qb mb given R) {P : Nat → Prop} (hk : Kept P w w') (hP : ∀ k, Mine qb mb R k → ¬ P k) (h0 : ∀ k, k < w0.heap.size → ¬ P k) : FromI w0 w' qb mb given R :=
  ⟨h.q.kept hk hP, h.base, h.vals, h.bel.trans (hk.below h.bel.size h0)⟩
theorem FromI.below {w0 w w' : World} {qb mb : Nat} {given : Int} {R : List Stand} (h : FromI w0 w qb mb given R) (hb : Below w.heap.size w w') : FromI w0 w' qb mb given R :=
  ⟨h.q.below hb, h.base, h.vals, h.bel.trans (hb.mono h.bel.size)⟩

theorem newFI (w0 w : World) (hb : Below w0.heap.size w0 w) :
    Calls Try.prog 5 #[] w fun e w' => e = .returned (.pointer (some ⟨w.heap.size + 1, 0, none⟩)) ∧ FromI w0 w' (w.heap.size + 1) w.heap.size 0 [] ∧ Below w.heap.size w w' := by
  refine (newI w).mono ?_
  rintro e w' ⟨rfl, h, B⟩
  have := hb.size
  refine ⟨rfl, ⟨h, ?_, (fun r hr => by cases hr), hb.trans (B.mono hb.size)⟩, B⟩
  rintro k (rfl | rfl | ⟨r, hr, _⟩)
  · omega
  · omega
  · cases hr
theorem joinFI {w0 w : World} {qb mb : Nat} {given : Int} {R : List Stand} (h : FromI w0 w qb mb given R) (v : Value) (hg : given < 4611686018427387904) (hR : R.length < maxLen) (hv : ∃ x : Int, v = .int .i64 x) :
    Calls Try.prog 17 #[.pointer (some ⟨qb, 0, none⟩), v] w fun e w' => e = .returned (.int .i64 (given + 1)) ∧
      FromI w0 w' qb mb (given + 1) (R ++ [⟨w.heap.size, given + 1, v⟩]) ∧ Kept (Mine qb mb R) w w' := by
  refine (joinI w qb mb given v R h.q hg hR hv).mono ?_
  rintro e w' ⟨rfl, h1, k1⟩
  refine ⟨rfl, ⟨h1, ?_, ?_, h.bel.trans (k1.below h.bel.size fun k hk hM => by have := h.base k hM; omega)⟩, k1⟩
  · rintro k (rfl | rfl | ⟨r, hr, rfl⟩)
    · exact h.base _ (.inl rfl)
    · exact h.base _ (.inr (.inl rfl))
    · rcases List.mem_append.1 hr with hr | hr
      · exact h.base _ (.inr (.inr ⟨r, hr, rfl⟩))
      · simp only [List.mem_singleton] at hr
        rw [hr]
        exact h.bel.size
  · intro r hr
    rcases List.mem_append.1 hr with hr | hr
    · exact h.vals r hr
    · simp only [List.mem_singleton] at hr
      rw [hr]
      exact hv
theorem leaveFI {w0 w : World} {qb mb : Nat} {given : Int} {R : List Stand} (h : FromI w0 w qb mb given R) (t : Int) (ht : (Lit.int .i64 t).wf = true) :
    Calls Try.prog 33 #[.pointer (some ⟨qb, 0, none⟩), .int .i64 t] w fun e w' => e = .returned (getOfI R t) ∧ FromI w0 w' qb mb given (R.filter (fun r => r.tk != t)) ∧ Kept (Mine qb mb (R.filter (fun r => r.tk != t))) w w' := by
  refine (leaveI w qb mb given t R h.q ht h.vals).mono ?_
  rintro e w' ⟨rfl, h1, k1⟩
  refine ⟨rfl, ⟨h1, ?_, fun r hr => h.vals r (List.mem_filter.1 hr).1, h.bel.trans (k1.below h.bel.size fun k hk hM => by have := h.base k (mine_filter hM); omega)⟩, k1⟩
  rintro k (rfl | rfl | ⟨r, hr, rfl⟩)
  · exact h.base _ (.inl rfl)
  · exact h.base _ (.inr (.inl rfl))
  · exact h.base _ (.inr (.inr ⟨r, (List.mem_filter.1 hr).1, rfl⟩))
theorem firstFI {w0 w : World} {qb mb : Nat} {given : Int} {R : List Stand} (h : FromI w0 w qb mb given R) :
    Calls Try.prog 19 #[.pointer (some ⟨qb, 0, none⟩)] w fun e w' => e = .returned (firstOfI R) ∧ FromI w0 w' qb mb given R ∧ Below w.heap.size w w' := by
  refine (firstI w qb mb given R h.q h.vals).mono ?_
  rintro e w' ⟨rfl, B⟩
  exact ⟨rfl, h.below B, B⟩

theorem q_not_nil_inI (w : World) (d : Nat) (p : Addr) : (Op.equalIn (d + 1) 29 (.pointer (some p)) (.pointer none)).run Try.prog w = .ok false w := by
  simp [Op.equalIn, run_underlying Try.underlying29]
theorem q_not_nilI (w : World) (p : Addr) : (binOp .eql 29 (.pointer (some p)) (.pointer none)).run Try.prog w = .ok (.bool false) w := by
  simp only [binOp]
  simp [show Op.equal 29 (.pointer (some p)) (.pointer none) = Op.equalIn (9999 + 1) 29 (.pointer (some p)) (.pointer none) from rfl, q_not_nil_inI w 9999 p]
end Go.Proofs.Ytccpaapbgdpghaa
