/-
  The walks of New, Len, First, Get, All.
-/
import Derived.Test.YtccpaapbgdpghaaLayS
namespace Go.Proofs.Ytccpaapbgdpghaa
open Go.RowKit

set_option maxHeartbeats 2000000 in
set_option maxRecDepth 1000000 in
theorem newS (w : World) :
    Calls Try.prog 10 #[] w fun e w' => e = .returned (.pointer (some ⟨w.heap.size + 1, 0, none⟩)) ∧ QueueAtS w' (w.heap.size + 1) w.heap.size 0 [] ∧ Below w.heap.size w w' := by
  have hmm := @run_makeMap Try.prog
  go_enter Try.func10, Try.ntmps10
  go_wp2_with fail
  go_ret
  refine ⟨rfl, ⟨⟨?_, trivial, by simp⟩, ((PTab.made w).block ?_).congr (fun t => rfl), by simp, (fun r hr => by cases hr), Int.le_refl _⟩, ((Below.refl _ w).alloc (Nat.le_refl _) _).alloc (by simp) _⟩
  · have := heap_alloc_new (w.alloc (.map #[] 0)) (.cells #[.pointer none, .pointer none, .map (some w.heap.size), .int .i64 0] 77)
    rwa [World.size_alloc] at this
  · exact heap_alloc_old (w.alloc (.map #[] 0)) _ (by simp)

set_option maxHeartbeats 2000000 in
set_option maxRecDepth 1000000 in
theorem lenS (w : World) (qb mb : Nat) (given : Int) (R : List Stand) (h : QueueAtS w qb mb given R) :
    Calls Try.prog 14 #[.pointer (some ⟨qb, 0, none⟩)] w fun e w' => e = .returned (.int .i64 (R.length : Int)) ∧ w' = w := by
  have q2 : w.cell? ⟨qb, 2, none⟩ = some (.map (some mb)) := by simp [World.cell?, h.link.box]
  have HT : Hid (PTab w mb R.length (whereIs R)) := h.tab
  clear h
  go_enter Try.func14, Try.ntmps14
  go_wp2_with (at_len; refine wpList_plen rfl _ 74 75 Try.underlying74 rfl mb R.length (whereIs R) rfl HT.out ?_)
  go_ret
  exact ⟨rfl, rfl⟩

/-- What First tells. -/
def firstOfS (R : List Stand) : Value := match R with | r :: _ => .tuple #[.int .i64 r.tk, r.v, .bool true] | [] => .tuple #[.int .i64 0, .string ByteArray.empty, .bool false]
/-- What Get and Leave tell. -/
def getOfS (R : List Stand) (t : Int) : Value := match R.find? (fun r => r.tk == t) with | some r => .tuple #[r.v, .bool true] | none => .tuple #[.string ByteArray.empty, .bool false]

set_option maxHeartbeats 2000000 in
set_option maxRecDepth 1000000 in
theorem firstS (w : World) (qb mb : Nat) (given : Int) (R : List Stand) (h : QueueAtS w qb mb given R) (hvs : ∀ r ∈ R, ∃ x : ByteArray, r.v = .string x) :
    Calls Try.prog 13 #[.pointer (some ⟨qb, 0, none⟩)] w fun e w' => e = .returned (firstOfS R) ∧ Below w.heap.size w w' := by
  cases R with
  | nil =>
    have q0 : w.cell? ⟨qb, 0, none⟩ = some (.pointer none) := by simp [World.cell?, h.link.box, fst, ptrOf]
    clear h
    go_enter Try.func13, Try.ntmps13
    go_wp2_with fail
    go_ret3
    exact ⟨rfl, Below.refl _ _⟩
  | cons r R =>
    have hv := hvs r (by simp)
    obtain ⟨rb, rt, rv⟩ := r
    have q0 : w.cell? ⟨qb, 0, none⟩ = some (.pointer (some ⟨rb, 0, none⟩)) := by simp [World.cell?, h.link.box, fst, ptrOf]
    have c0 : w.cell? ⟨rb, 0, none⟩ = some (.int .i64 rt) := by simp [World.cell?, h.link.seg.1, cellsAt]
    have c1 : w.cell? ⟨rb, 1, none⟩ = some rv := by simp [World.cell?, h.link.seg.1, cellsAt]
    simp only [] at hv
    clear h hvs
    obtain ⟨x0, rfl⟩ := hv
    go_enter Try.func13, Try.ntmps13
    go_wp2_with fail
    go_quiet (fail)
    go_wp2_with fail
    go_ret3
    exact ⟨rfl, ⟨rfl, rfl, rfl, Nat.le_refl _, fun _ _ => rfl⟩⟩

set_option maxHeartbeats 2000000 in
set_option maxRecDepth 1000000 in
theorem allS (w : World) (qb : Nat) :
    Calls Try.prog 15 #[.pointer (some ⟨qb, 0, none⟩)] w fun e w' => e = .returned (.func (.func 30) #[] #[.pointer (some ⟨w.heap.size, 0, none⟩)]) ∧ w' = w.alloc (.cells #[.pointer (some ⟨qb, 0, none⟩)] 46) := by
  go_enter Try.func15, Try.ntmps15
  go_wp2_with fail
  go_ret
  exact ⟨rfl, rfl⟩
end Go.Proofs.Ytccpaapbgdpghaa
