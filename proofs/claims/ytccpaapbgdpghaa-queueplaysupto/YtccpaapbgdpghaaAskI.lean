/-
  The walks of New, Len, First, Get, All.
-/
import Derived.Test.YtccpaapbgdpghaaLayI
namespace Go.Proofs.Ytccpaapbgdpghaa
open Go.RowKit

set_option maxHeartbeats 2000000 in
set_option maxRecDepth 1000000 in
theorem newI (w : World) :
    Calls Try.prog 5 #[] w fun e w' => e = .returned (.pointer (some ⟨w.heap.size + 1, 0, none⟩)) ∧ QueueAtI w' (w.heap.size + 1) w.heap.size 0 [] ∧ Below w.heap.size w w' := by
  have hmm := @run_makeMap Try.prog
  go_enter Try.func5, Try.ntmps5
  go_wp2_with fail
  go_ret
  refine ⟨rfl, ⟨⟨?_, trivial, by simp⟩, ((PTab.made w).block ?_).congr (fun t => rfl), by simp, (fun r hr => by cases hr), Int.le_refl _⟩, ((Below.refl _ w).alloc (Nat.le_refl _) _).alloc (by simp) _⟩
  · have := heap_alloc_new (w.alloc (.map #[] 0)) (.cells #[.pointer none, .pointer none, .map (some w.heap.size), .int .i64 0] 59)
    rwa [World.size_alloc] at this
  · exact heap_alloc_old (w.alloc (.map #[] 0)) _ (by simp)

set_option maxHeartbeats 2000000 in
set_option maxRecDepth 1000000 in
theorem lenI (w : World) (qb mb : Nat) (given : Int) (R : List Stand) (h : QueueAtI w qb mb given R) :
    Calls Try.prog 9 #[.pointer (some ⟨qb, 0, none⟩)] w fun e w' => e = .returned (.int .i64 (R.length : Int)) ∧ w' = w := by
  have q2 : w.cell? ⟨qb, 2, none⟩ = some (.map (some mb)) := by simp [World.cell?, h.link.box]
  have HT : Hid (PTab w mb R.length (whereIs R)) := h.tab
  clear h
  go_enter Try.func9, Try.ntmps9
  go_wp2_with (at_len; refine wpList_plen rfl _ 56 57 Try.underlying56 rfl mb R.length (whereIs R) rfl HT.out ?_)
  go_ret
  exact ⟨rfl, rfl⟩

/-- What First tells. -/
def firstOfI (R : List Stand) : Value := match R with | r :: _ => .tuple #[.int .i64 r.tk, r.v, .bool true] | [] => .tuple #[.int .i64 0, .int .i64 0, .bool false]
/-- What Get and Leave tell. -/
def getOfI (R : List Stand) (t : Int) : Value := match R.find? (fun r => r.tk == t) with | some r => .tuple #[r.v, .bool true] | none => .tuple #[.int .i64 0, .bool false]

set_option maxHeartbeats 2000000 in
set_option maxRecDepth 1000000 in
theorem firstI (w : World) (qb mb : Nat) (given : Int) (R : List Stand) (h : QueueAtI w qb mb given R) (hvs : ∀ r ∈ R, ∃ x : Int, r.v = .int .i64 x) :
    Calls Try.prog 19 #[.pointer (some ⟨qb, 0, none⟩)] w fun e w' => e = .returned (firstOfI R) ∧ Below w.heap.size w w' := by
  cases R with
  | nil =>
    have q0 : w.cell? ⟨qb, 0, none⟩ = some (.pointer none) := by simp [World.cell?, h.link.box, fst, ptrOf]
    clear h
    go_enter Try.func19, Try.ntmps19
    go_wp2_with fail
    go_ret3
    exact ⟨rfl, Below.refl _ _⟩
  | cons r R =>
    have hv := hvs r (by simp)
    obtain ⟨rb, rt, rv⟩ := r
    have q0 : w.cell? ⟨qb, 0, none⟩ = some (.pointer (some ⟨rb, 0, none⟩)) := by simp [World.cell?, h.link.box, fst, ptrOf]
    have c0 : w.cell? ⟨rb, 0, none⟩ = some (.int .i64 rt) := by simp [World.cell?, h.link.seg.1, cellsAt]
    have c1 : w.cell? ⟨rb, 1, none⟩ = some rv := by simp [World.cell?, h.link.seg.1, cellsAt]
    simp only [] at hv
    clear h hvs
    obtain ⟨x0, rfl⟩ := hv
    go_enter Try.func19, Try.ntmps19
    go_wp2_with fail
    go_quiet (fail)
    go_wp2_with fail
    go_ret3
    exact ⟨rfl, ⟨rfl, rfl, rfl, Nat.le_refl _, fun _ _ => rfl⟩⟩

set_option maxHeartbeats 2000000 in
set_option maxRecDepth 1000000 in
theorem getI (w : World) (qb mb : Nat) (given t : Int) (R : List Stand) (h : QueueAtI w qb mb given R) (ht : (Lit.int .i64 t).wf = true) (hvs : ∀ r ∈ R, ∃ x : Int, r.v = .int .i64 x) :
    Calls Try.prog 20 #[.pointer (some ⟨qb, 0, none⟩), .int .i64 t] w fun e w' => e = .returned (getOfI R t) ∧ w' = w := by
  have q2 : w.cell? ⟨qb, 2, none⟩ = some (.map (some mb)) := by simp [World.cell?, h.link.box]
  have HT : Hid (PTab w mb R.length (whereIs R)) := h.tab
  rcases find_split R t with h0 | ⟨A, r, B, h1, h2, h3, h4⟩
  · have HW : Hid (whereIs R t = none ∧ R.find? (fun r => r.tk == t) = none) := ⟨by unfold whereIs; rw [h0]; rfl, h0⟩
    clear h h0 hvs
    go_enter Try.func20, Try.ntmps20
    go_wp2_with (at_lookup; refine wpList_plook rfl _ _ 56 57 Try.underlying56 (zero_ptrI _) rfl mb R.length (whereIs R) t rfl rfl HT.out ht ?_; rw [HW.out.1]; simp only [ptrOf, Option.isSome_none])
    go_ret2
    exact ⟨by unfold getOfI; rw [HW.out.2]; rfl, rfl⟩
  · have HW : Hid (whereIs R t = some r.blk ∧ R.find? (fun r => r.tk == t) = some r) := ⟨by unfold whereIs; rw [h4]; rfl, h4⟩
    have hs := h.link.seg
    rw [h1, seg_append] at hs
    have hv := hvs r (by rw [h1]; simp)
    obtain ⟨rb, rt, rv⟩ := r
    have c1 : w.cell? ⟨rb, 1, none⟩ = some rv := by simp [World.cell?, hs.2.1, cellsAt]
    simp only [] at hv HW
    clear h h1 h2 h3 h4 hs hvs
    obtain ⟨x0, rfl⟩ := hv
    go_enter Try.func20, Try.ntmps20
    go_wp2_with (at_lookup; refine wpList_plook rfl _ _ 56 57 Try.underlying56 (zero_ptrI _) rfl mb R.length (whereIs R) t rfl rfl HT.out ht ?_; rw [HW.out.1]; simp only [ptrOf, Option.isSome_some])
    go_ret2
    exact ⟨by unfold getOfI; rw [HW.out.2]; rfl, rfl⟩

set_option maxHeartbeats 2000000 in
set_option maxRecDepth 1000000 in
theorem allI (w : World) (qb : Nat) :
    Calls Try.prog 8 #[.pointer (some ⟨qb, 0, none⟩)] w fun e w' => e = .returned (.func (.func 26) #[] #[.pointer (some ⟨w.heap.size, 0, none⟩)]) ∧ w' = w.alloc (.cells #[.pointer (some ⟨qb, 0, none⟩)] 29) := by
  go_enter Try.func8, Try.ntmps8
  go_wp2_with fail
  go_ret
  exact ⟨rfl, rfl⟩
end Go.Proofs.Ytccpaapbgdpghaa
