/-
  The walks of New, Len, First, Get, All.
-/
import Derived.Test.YtogmobkkpmpdcaaLayI
namespace Go.Proofs.Ytogmobkkpmpdcaa.que
open Go.RowKit

set_option maxHeartbeats 2000000 in
set_option maxRecDepth 1000000 in
theorem newI (w : World) :
    Calls Try.prog 24 #[] w fun e w' => e = .returned (.pointer (some ⟨w.heap.size + 1, 0, none⟩)) ∧ QueueAtI w' (w.heap.size + 1) w.heap.size 0 [] ∧ Below w.heap.size w w' := by
  have hmm := @run_makeMap Try.prog
  go_enter Try.func24, Try.ntmps24
  go_wp2_with fail
  go_ret
  refine ⟨rfl, ⟨⟨?_, trivial, by simp⟩, ((PTab.made w).block ?_).congr (fun t => rfl), by simp, (fun r hr => by cases hr), Int.le_refl _⟩, ((Below.refl _ w).alloc (Nat.le_refl _) _).alloc (by simp) _⟩
  · have := heap_alloc_new (w.alloc (.map #[] 0)) (.cells #[.pointer none, .pointer none, .map (some w.heap.size), .int .i64 0] 84)
    rwa [World.size_alloc] at this
  · exact heap_alloc_old (w.alloc (.map #[] 0)) _ (by simp)

set_option maxHeartbeats 2000000 in
set_option maxRecDepth 1000000 in
theorem lenI (w : World) (qb mb : Nat) (given : Int) (R : List Stand) (h : QueueAtI w qb mb given R) :
    Calls Try.prog 46 #[.pointer (some ⟨qb, 0, none⟩)] w fun e w' => e = .returned (.int .i64 (R.length : Int)) ∧ w' = w := by
  have q2 : w.cell? ⟨qb, 2, none⟩ = some (.map (some mb)) := by simp [World.cell?, h.link.box]
  have HT : Hid (PTab w mb R.length (whereIs R)) := h.tab
  clear h
  go_enter Try.func46, Try.ntmps46
  go_wp2_with (at_len; refine wpList_plen rfl _ 81 82 Try.underlying81 rfl mb R.length (whereIs R) rfl HT.out ?_)
  go_ret
  exact ⟨rfl, rfl⟩

/-- What First tells. -/
def firstOfI (R : List Stand) : Value := match R with | r :: _ => .tuple #[.int .i64 r.tk, r.v, .bool true] | [] => .tuple #[.int .i64 0, .int .i64 0, .bool false]
/-- What Get and Leave tell. -/
def getOfI (R : List Stand) (t : Int) : Value := match R.find? (fun r => r.tk == t) with | some r => .tuple #[r.v, .bool true] | none => .tuple #[.int .i64 0, .bool false]

set_option maxHeartbeats 2000000 in
set_option maxRecDepth 1000000 in
theorem allI (w : World) (qb : Nat) :
    Calls Try.prog 40 #[.pointer (some ⟨qb, 0, none⟩)] w fun e w' => e = .returned (.func (.func 57) #[] #[.pointer (some ⟨w.heap.size, 0, none⟩)]) ∧ w' = w.alloc (.cells #[.pointer (some ⟨qb, 0, none⟩)] 48) := by
  go_enter Try.func40, Try.ntmps40
  go_wp2_with fail
  go_ret
  exact ⟨rfl, rfl⟩
end Go.Proofs.Ytogmobkkpmpdcaa.que
