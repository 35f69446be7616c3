/-
  A queue in memory; 'unlink', 'lay'.
-/
import Derived.Test.YtccpaapbgdpghaaPTab
namespace Go.Proofs.Ytccpaapbgdpghaa
open Go.RowKit

theorem typS : (77 : TypeId) ≠ 82 := by decide
theorem zero_ptrS (w : World) : (zeroValue 75).run Try.prog w = .ok (.pointer none) w := by kernel_rfl
abbrev LinkS := LinkAt 77 82
/-- A queue at qb, its map at mb. -/
structure QueueAtS (w : World) (qb mb : Nat) (given : Int) (R : List Stand) : Prop where
  link : LinkS w qb mb given R
  tab : PTab w mb R.length (whereIs R)
  up : R.Pairwise (fun a b => a.tk < b.tk)
  le : ∀ r ∈ R, 1 ≤ r.tk ∧ r.tk ≤ given
  pos : 0 ≤ given

set_option maxHeartbeats 4000000 in
set_option maxRecDepth 1000000 in
theorem unlinkS (w : World) (qb mb : Nat) (given : Int) (A B : List Stand) (r : Stand) (h : LinkS w qb mb given (A ++ r :: B)) :
    Calls Try.prog 29 #[.pointer (some ⟨qb, 0, none⟩), .pointer (some ⟨r.blk, 0, none⟩)] w fun e w' => e = .returned (.tuple #[]) ∧
      LinkS w' qb mb given (A ++ B) ∧ w'.heap[r.blk]? = w.heap[r.blk]? ∧ Kept (fun k => k = qb ∨ ∃ r ∈ A ++ B, r.blk = k) w w' := by
  have hr : w.heap[r.blk]? = some (.cells (cellsAt r (lst none A) (fst B none)) 82 (0, 0)) := (((seg_append _ _ _ _ _ _).1 h.seg).2).1
  have hb := h.box
  have HU : Hid (LinkS (unl2 (unl1 w qb A B) qb A B) qb mb given (A ++ B) ∧ (unl2 (unl1 w qb A B) qb A B).heap[r.blk]? = w.heap[r.blk]? ∧ Kept (fun k => k = qb ∨ ∃ r ∈ A ++ B, r.blk = k) w (unl2 (unl1 w qb A B) qb A B)) := unlinked typS h
  have nrq : r.blk ≠ qb := h.apart typS (by simp)
  obtain ⟨sA, _, sB⟩ := (seg_append _ _ _ _ _ _).1 h.seg
  have c2 : w.cell? ⟨r.blk, 2, none⟩ = some (ptrOf (lst none A)) := by simp [World.cell?, hr, cellsAt]
  have c3 : w.cell? ⟨r.blk, 3, none⟩ = some (ptrOf (fst B none)) := by simp [World.cell?, hr, cellsAt]
  have q0 : ∃ u, w.cell? ⟨qb, 0, none⟩ = some u := ⟨_, by simp [World.cell?, hb]; rfl⟩
  have q1 : ∃ u, w.cell? ⟨qb, 1, none⟩ = some u := ⟨_, by simp [World.cell?, hb]; rfl⟩
  obtain ⟨u0, q0⟩ := q0
  obtain ⟨u1, q1⟩ := q1
  have f0 : w.frozen? ⟨qb, 0, none⟩ = false := by simp [World.frozen?, hb]
  have f1 : w.frozen? ⟨qb, 1, none⟩ = false := by simp [World.frozen?, hb]
  unfold unl2 unl1 at HU
  clear hb hr
  cases hA : lst none A with
  | none =>
    rw [hA] at HU c2
    simp only [] at HU
    cases hB : fst B none with
    | none =>
      rw [hB] at HU c3
      simp only [ptrOf] at HU c2 c3
      clear h hA hB sA sB
      go_enter Try.func29, Try.ntmps29
      go_wp2_with fail
      go_end0
      exact ⟨rfl, HU.out⟩
    | some y =>
      obtain ⟨s, B', rfl, rfl⟩ := fst_some hB
      rw [hB] at HU c3
      simp only [ptrOf] at HU c2 c3
      have d2 : ∃ u, w.cell? ⟨s.blk, 2, none⟩ = some u := ⟨_, by simp [World.cell?, sB.1, cellsAt]; rfl⟩
      have e2 : w.frozen? ⟨s.blk, 2, none⟩ = false := by simp [World.frozen?, sB.1]
      obtain ⟨v2, d2⟩ := d2
      have nsq : s.blk ≠ qb := h.apart typS (by simp)
      have nsr : s.blk ≠ r.blk := fun e => by have := h.nod; simp only [List.map_append, List.map_cons, List.nodup_append, e] at this; simp at this
      clear h hA hB sA sB
      go_enter Try.func29, Try.ntmps29
      go_wp2_with fail
      refine wp_tail 10 mixed (by kernel_rfl) ?_
      simp only [List.take_succ_cons, List.take_zero, List.drop_succ_cons, List.drop_zero]
      repeat still_step
      refine wpStill_nil ?_
      go_wp2_with fail
      go_end0
      exact ⟨rfl, HU.out.1.drew, HU.out.2.1, HU.out.2.2.drew⟩
  | some x =>
    have hne : A ≠ [] := fun e => by rw [e] at hA; simp [lst] at hA
    obtain ⟨a, ha, rfl⟩ := lst_mem hA hne
    obtain ⟨ca, hca, hcn⟩ := sA.size4 ha
    have g3 : ∃ u, w.cell? ⟨a.blk, 3, none⟩ = some u := ⟨ca[3]'(by omega), by simp [World.cell?, hca]⟩
    have f3 : w.frozen? ⟨a.blk, 3, none⟩ = false := by simp [World.frozen?, hca]
    obtain ⟨v3, g3⟩ := g3
    have naq : a.blk ≠ qb := h.apart typS (by simp [ha])
    have nod := h.nod
    simp only [List.map_append, List.map_cons] at nod
    rw [List.nodup_append] at nod
    have nar : a.blk ≠ r.blk := nod.2.2 _ (List.mem_map_of_mem ha) _ (by simp)
    rw [hA] at HU c2
    simp only [] at HU
    clear hca hcn ca
    cases hB : fst B none with
    | none =>
      rw [hB] at HU c3
      simp only [ptrOf] at HU c2 c3
      clear h hA hB sA sB nod hne ha
      go_enter Try.func29, Try.ntmps29
      go_wp2_with fail
      refine wp_tail 10 mixed (by kernel_rfl) ?_
      simp only [List.take_succ_cons, List.take_zero, List.drop_succ_cons, List.drop_zero]
      repeat still_step
      refine wpStill_nil ?_
      go_wp2_with fail
      go_end0
      exact ⟨rfl, HU.out.1.drew, HU.out.2.1, HU.out.2.2.drew⟩
    | some y =>
      obtain ⟨s, B', rfl, rfl⟩ := fst_some hB
      rw [hB] at HU c3
      simp only [ptrOf] at HU c2 c3
      have d2 : ∃ u, w.cell? ⟨s.blk, 2, none⟩ = some u := ⟨_, by simp [World.cell?, sB.1, cellsAt]; rfl⟩
      have e2 : w.frozen? ⟨s.blk, 2, none⟩ = false := by simp [World.frozen?, sB.1]
      obtain ⟨v2, d2⟩ := d2
      have nsq : s.blk ≠ qb := h.apart typS (by simp)
      have nsr : s.blk ≠ r.blk := fun e => by have := nod.2.1; simp [e] at this
      have nsa : s.blk ≠ a.blk := fun e => nod.2.2 _ (List.mem_map_of_mem ha) _ (by simp [e]) rfl
      clear h hA hB sA sB nod hne ha
      go_enter Try.func29, Try.ntmps29
      go_wp2_with fail
      refine wp_tail 10 mixed (by kernel_rfl) ?_
      simp only [List.take_succ_cons, List.take_zero, List.drop_succ_cons, List.drop_zero]
      repeat still_step
      refine wpStill_nil ?_
      go_wp2_with fail
      refine wp_tail 10 mixed (by kernel_rfl) ?_
      simp only [List.take_succ_cons, List.take_zero, List.drop_succ_cons, List.drop_zero]
      repeat still_step
      refine wpStill_nil ?_
      go_wp2_with fail
      go_end0
      exact ⟨rfl, HU.out.1.drew.drew, HU.out.2.1, HU.out.2.2.drew.drew⟩
end Go.Proofs.Ytccpaapbgdpghaa
