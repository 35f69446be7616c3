/-
  A queue while it is made; what a range lays down is none of its.
-/
import Derived.Test.YtccpaapbgdpghaaAll1I
import Derived.Test.YtccpaapbgdpghaaView
namespace Go.Proofs.Ytccpaapbgdpghaa
open Go.RowKit

/-- A queue, but for the order of its tickets. -/
structure PartI (W : World) (qc mc : Nat) (given : Int) (C : List Stand) : Prop where
  link : LinkI W qc mc given C
  tab : PTab W mc C.length (whereIs C)
theorem PartI.kept {w w' : World} {qb mb : Nat} {given : Int} {R : List Stand} (h : PartI w qb mb given R) {P : Nat → Prop} (hk : Kept P w w') (hP : ∀ k, Mine qb mb R k → ¬ P k) : PartI w' qb mb given R :=
  ⟨h.link.kept (hk.block qb (Array.getElem?_eq_some_iff.1 h.link.box).1 (hP _ (.inl rfl))) (fun r hr => by
    obtain ⟨c, hc⟩ := h.link.seg.block hr
    exact hk.block _ (Array.getElem?_eq_some_iff.1 hc).1 (hP _ (.inr (.inr ⟨r, hr, rfl⟩)))), h.tab.block (hk.block mb h.tab.lt (hP _ (.inr (.inl rfl))))⟩
/-- What a range over a function lays down is none of the queue's. -/
theorem PartI.not {w : World} {qb mb : Nat} {given : Int} {R : List Stand} (h : PartI w qb mb given R) {B : Nat} {row : Option Nat} (hm : mb < B) (hr : ∀ r, row = some r → B ≤ r ∧ ∃ o : Obj, w.heap[r]? = some o ∧ o.isCells = false) : ∀ k, Mine qb mb R k → ¬ row = some k := by
  rintro k hk rfl
  obtain ⟨h1, o, h2, h3⟩ := hr k rfl
  rcases hk with rfl | rfl | ⟨r, hrm, rfl⟩
  · rw [h.link.box] at h2
    obtain rfl := Option.some.inj h2
    cases h3
  · omega
  · obtain ⟨c, hc⟩ := h.link.seg.block hrm
    rw [hc] at h2
    obtain rfl := Option.some.inj h2
    cases h3
theorem PartI.own {w w' : World} {qb mb : Nat} {given : Int} {R : List Stand} (h : PartI w qb mb given R) {B : Nat} {row : Option Nat} (hm : mb < B) (hg : w.grownBy w' row) (hr : ∀ r, row = some r → B ≤ r ∧ ∃ o : Obj, w.heap[r]? = some o ∧ o.isCells = false) : PartI w' qb mb given R :=
  h.kept (kept_row hg) (h.not hm hr)
theorem QueueAtI.part {w : World} {qb mb : Nat} {given : Int} {R : List Stand} (h : QueueAtI w qb mb given R) : PartI w qb mb given R := ⟨h.link, h.tab⟩
theorem QueueAtI.own {w w' : World} {qb mb : Nat} {given : Int} {R : List Stand} (h : QueueAtI w qb mb given R) {B : Nat} {row : Option Nat} (hm : mb < B) (hg : w.grownBy w' row) (hr : ∀ r, row = some r → B ≤ r ∧ ∃ o : Obj, w.heap[r]? = some o ∧ o.isCells = false) : QueueAtI w' qb mb given R :=
  h.kept (kept_row hg) (h.part.not hm hr)
/-- What the queue's own calls turn. -/
theorem PartI.kp {w w' : World} {qb mb : Nat} {given given' : Int} {R R' R1 : List Stand} (h : PartI w qb mb given R) (h' : PartI w' qb mb given' R') (hk : Kept (Mine qb mb R1) w w') (hs : ∀ r ∈ R1, r ∈ R ∧ r ∈ R') : KpI w w' := by
  refine ⟨hk.size, fun k c hc => hk.block k (Array.getElem?_eq_some_iff.1 hc).1 ?_, fun k c hc => ?_⟩
  · rintro (rfl | rfl | ⟨r, hr, rfl⟩)
    · rw [h.link.box] at hc; simp at hc
    · obtain ⟨es, clock, hm⟩ := h.tab.map
      rw [hm] at hc; simp at hc
    · obtain ⟨c', hc'⟩ := h.link.seg.block (hs r hr).1
      rw [hc'] at hc; simp at hc
  · by_cases hm : Mine qb mb R1 k
    · rcases hm with rfl | rfl | ⟨r, hr, rfl⟩
      · rw [h.link.box] at hc; simp at hc
      · obtain ⟨es, clock, hm⟩ := h.tab.map
        rw [hm] at hc; simp at hc
      · obtain ⟨p, n, h1⟩ := h.link.seg.cells (hs r hr).1
        obtain ⟨p', n', h2⟩ := h'.link.seg.cells (hs r hr).2
        rw [h1] at hc
        simp at hc
        subst hc
        exact ⟨_, h2, rfl, rfl⟩
    · exact ⟨c, (hk.block k (Array.getElem?_eq_some_iff.1 hc).1 hm).trans hc, rfl, rfl⟩
theorem PartI.keeps {w w' : World} {qb mb : Nat} {given : Int} {R : List Stand} (h : PartI w qb mb given R) (hk : Kept (Mine qb mb R) w w') {B : Nat} (hm : mb < B) : KeepsFrom B w w' := by
  refine ⟨hk.size, fun k o hB ho hc => (hk.block k (Array.getElem?_eq_some_iff.1 ho).1 ?_).trans ho⟩
  intro hM
  exact h.not (row := some k) hm (fun r e => by cases e; exact ⟨hB, o, ho, hc⟩) k hM rfl

theorem PartI.notCells {w : World} {qb mb : Nat} {given : Int} {R : List Stand} (h : PartI w qb mb given R) {k : Nat} {c : Array Value} {t : TypeId} (hc : w.heap[k]? = some (.cells c t (0, 0))) (h1 : t ≠ 59) (h2 : t ≠ 73) : ¬ Mine qb mb R k := by
  rintro (rfl | rfl | ⟨r, hr, rfl⟩)
  · rw [h.link.box] at hc
    simp at hc
    exact h1 hc.2.symm
  · obtain ⟨es, clock, hm⟩ := h.tab.map
    rw [hm] at hc; simp at hc
  · obtain ⟨c', hc'⟩ := h.link.seg.block hr
    rw [hc'] at hc
    simp at hc
    exact h2 hc.2.symm
theorem PartI.lt {w : World} {qb mb : Nat} {given : Int} {R : List Stand} (h : PartI w qb mb given R) {k : Nat} (hk : Mine qb mb R k) : k < w.heap.size := by
  rcases hk with rfl | rfl | ⟨r, hr, rfl⟩
  · exact (Array.getElem?_eq_some_iff.1 h.link.box).1
  · exact h.tab.lt
  · obtain ⟨c, hc⟩ := h.link.seg.block hr
    exact (Array.getElem?_eq_some_iff.1 hc).1
/-- The tickets that have been given out are told. -/
theorem PartI.setGiven {w : World} {qb mb : Nat} {given : Int} {R : List Stand} (h : PartI w qb mb given R) (g : Int) :
    PartI (w.setCell ⟨qb, 3, none⟩ (.int .i64 g)) qb mb g R ∧ Kept (Mine qb mb R) w (w.setCell ⟨qb, 3, none⟩ (.int .i64 g)) := by
  obtain ⟨link, tab⟩ := h
  have hmq : mb ≠ qb := by
    obtain ⟨es, clock, hm⟩ := tab.map
    intro e; rw [e, link.box] at hm; simp at hm
  refine ⟨⟨⟨?_, link.seg.kept fun r hr => set_other _ _ _ _ _ (link.apart typI hr), link.nod⟩, tab.block (set_other _ _ _ _ _ hmq)⟩, Kept.setCell _ _ _ _ _ (.inl rfl)⟩
  rw [(set_cells link.box 3 _).1]
  simp
end Go.Proofs.Ytccpaapbgdpghaa
