/-
  The walk of Clone.
-/
import Derived.Test.YtccpaapbgdpghaaPartI
namespace Go.Proofs.Ytccpaapbgdpghaa
open Go.RowKit

/-- What holds between the rounds of Clone's range. -/
structure CloneInvI (w : World) (qb mb qc mc bc : Nat) (given : Int) (R pre : List Stand) (W : World) (C : List Stand) : Prop where
  part : PartI W qc mc 0 C
  same : view C = view pre
  box : W.heap[bc]? = some (.cells #[.pointer (some ⟨qc, 0, none⟩)] 29 (0, 0))
  from_ : QueueAtI W qb mb given R
  bel : Below w.heap.size w W
  base : ∀ k, Mine qc mc C k → w.heap.size ≤ k
  take : pre = R.take pre.length

attribute [local go_sem] Oper.semAt_some
set_option maxHeartbeats 4000000 in
set_option maxRecDepth 1000000 in
theorem cloneI (w : World) (qb mb : Nat) (given : Int) (R : List Stand) (h : QueueAtI w qb mb given R) (hR : R.length ≤ 1073741824) (hg : given < 4611686018427387904) (hvs : ∀ r ∈ R, ∃ x : Int, r.v = .int .i64 x) :
    Calls Try.prog 38 #[.pointer (some ⟨qb, 0, none⟩)] w fun e w' => ∃ qc mc C, e = .returned (.pointer (some ⟨qc, 0, none⟩)) ∧ QueueAtI w' qc mc given C ∧ view C = view R ∧ Below w.heap.size w w' ∧ ∀ k, Mine qc mc C k → w.heap.size ≤ k := by
  have HH : Hid (QueueAtI w qb mb given R) := h
  have HV : Hid (∀ r ∈ R, ∃ x : Int, r.v = .int .i64 x) := hvs
  clear h hvs
  refine (callsIn_wide (n := 3)).1 ?_
  refine callsIn_of_wp_marks Try.func38 rfl trivial ?_ rfl
  simp only [Try.ntmps38, List.size_toArray, List.length_cons, List.length_nil, Nat.reduceAdd, Nat.reduceSub, Array.replicate_succ, Array.replicate_zero, List.push_toArray, List.append_toArray, List.nil_append, List.cons_append]
  refine wpIn_wide.2 ?_
  go_wp2_with fail
  refine (newI w).mono ?_
  rintro e w1 ⟨rfl, h1, B1⟩
  obtain ⟨qc, hqc⟩ : ∃ qc, qc = w.heap.size + 1 := ⟨_, rfl⟩
  obtain ⟨mc, hmc⟩ : ∃ mc, mc = w.heap.size := ⟨_, rfl⟩
  rw [← hqc]
  rw [← hqc, ← hmc] at h1
  have H1 : Hid (QueueAtI w1 qc mc 0 []) := h1
  have HB1 : Hid (Below w.heap.size w w1) := B1
  have HM1 : Hid (w.heap.size ≤ qc ∧ w.heap.size ≤ mc) := ⟨by omega, by omega⟩
  clear h1 B1 hqc hmc
  obtain ⟨W2, hW2⟩ : ∃ W2, W2 = w1.alloc (.cells #[.pointer (some ⟨qc, 0, none⟩)] 29) := ⟨_, rfl⟩
  obtain ⟨bc, hbc⟩ : ∃ bc, bc = w1.heap.size := ⟨_, rfl⟩
  have HW2 : Hid (W2 = w1.alloc (.cells #[.pointer (some ⟨qc, 0, none⟩)] 29)) := hW2
  have HBC : Hid (bc = w1.heap.size) := hbc
  clear hW2 hbc
  go_wp2_with fail
  rw [← HW2.out, ← HBC.out]
  refine (allI W2 qb).mono ?_
  rintro e W3 ⟨rfl, hW3⟩
  obtain ⟨cb, hcb⟩ : ∃ cb, cb = W2.heap.size := ⟨_, rfl⟩
  rw [← hcb]
  have hB12 : Below w1.heap.size w1 W2 := by rw [HW2.out]; exact (Below.refl _ w1).alloc (Nat.le_refl _) _
  have hB23 : Below W2.heap.size W2 W3 := by rw [hW3]; exact (Below.refl _ W2).alloc (Nat.le_refl _) _
  have hB13 : Below w1.heap.size w1 W3 := hB12.trans (hB23.mono hB12.size)
  have hB03 : Below w.heap.size w W3 := HB1.out.trans (hB13.mono HB1.out.size)
  have hbc3 : W3.heap[bc]? = some (.cells #[.pointer (some ⟨qc, 0, none⟩)] 29 (0, 0)) := by
    have h2 : W2.heap[bc]? = some (.cells #[.pointer (some ⟨qc, 0, none⟩)] 29 (0, 0)) := by rw [HW2.out, HBC.out]; exact heap_alloc_new w1 _
    exact (hB23.block bc (Array.getElem?_eq_some_iff.1 h2).1).trans h2
  have hbx : boxedI W3 cb qb := by unfold boxedI; rw [hW3, hcb]; exact heap_alloc_new W2 _
  have HI0 : Hid (CloneInvI w qb mb qc mc bc given R [] W3 []) := ⟨(H1.out.below hB13).part, rfl, hbc3, HH.out.below hB03, hB03, (fun k hk => by
    rcases hk with rfl | rfl | ⟨r, hr, _⟩
    · exact HM1.out.1
    · exact HM1.out.2
    · cases hr), rfl⟩
  have hmb3 : mb < W3.heap.size := (HH.out.below hB03).tab.lt
  have hmc3 : mc < W3.heap.size := HI0.out.part.tab.lt
  have HBX : Hid (boxedI W3 cb qb) := hbx
  clear hB12 hB23 hB13 hB03 hbc3 hbx hW3 hcb H1
  go_wp2_with fail
  refine (wpIn_wide (n := 3)).1 ?_
  refine wpIn_told rfl (by omega) (gf := 26) (lb := #[.pointer (some ⟨cb, 0, none⟩)]) rfl trivial (enters_of Try.func26 (by kernel_rfl) rfl)
    (all1_toldI 2 cb qb mb given R W3 HI0.out.from_ HBX.out hR HV.out) (fun h k => h.trans k) (fun W l o o' _ hl ho _ => KpI.put W l o o' hl ho) (Below.refl _ _) (fun _ => rfl)
    (fun pre W => ∃ C, CloneInvI w qb mb qc mc bc given R pre W C)
    (fun _ _ _ => False)
    (fun pre W W' row hs hgr hr => by
      obtain ⟨C, hI⟩ := hs
      exact ⟨C, hI.part.own hmc3 hgr hr, hI.same, cells_own hI.box hgr hr, hI.from_.own hmb3 hgr hr, hI.bel.grown hgr hI.bel.size (fun k e => by have := (hr k e).1; have := HI0.out.bel.size; omega), hI.base, hI.take⟩)
    (fun _ _ _ _ _ h _ _ => h.elim)
    (fun pre x A _ _ _ _ h _ _ => h)
    ⟨[], HI0.out⟩
    ?a1 ?assign ?body ?done ?stop
  case assign =>
    intro l x W K hK
    gi_wp2
    exact hK
  case body =>
    rintro id pre ⟨xb, xt, xv⟩ A W hid _ _ _ _ ⟨C, inv⟩ hx hlt
    have hCl : C.length = pre.length := by rw [← view_length C, inv.same, view_length]
    have hne := tk_ne inv.same inv.take hx HH.out.up
    have hxm := List.mem_of_getElem? hx
    have hxw := HH.out.le _ hxm
    have hxv := HV.out _ hxm
    have cbx : W.cell? ⟨bc, 0, none⟩ = some (.pointer (some ⟨qc, 0, none⟩)) := by simp [World.cell?, inv.box]
    have HINV : Hid (CloneInvI w qb mb qc mc bc given R pre W C) := inv
    have HX : Hid (R[pre.length]? = some ⟨xb, xt, xv⟩) := hx
    simp only [] at hxw hxv hne
    have LAY := layI W qc mc 0 xt xv C inv.part.link inv.part.tab hne (WalkArith.wf_i64 (by omega)) (by unfold maxLen; omega) hxv
    have HLAY : Hid (Calls Try.prog 32 #[.pointer (some ⟨qc, 0, none⟩), .int .i64 xt, xv] W fun e w' => e = .returned (.tuple #[]) ∧ LinkI w' qc mc 0 (C ++ [⟨W.heap.size, xt, xv⟩]) ∧ PTab w' mc (C.length + 1) (whereIs (C ++ [⟨W.heap.size, xt, xv⟩])) ∧ Kept (Mine qc mc C) W w') := LAY
    clear inv hx hne hxm hxw LAY hCl hlt hid
    obtain ⟨x0, rfl⟩ := hxv
    gi_wp2
    refine ⟨trivial, ?_⟩
    refine CallsIn.mono (show CallsIn (Fence.wide.inRound id) _ _ _ _ _ _ from (callsIn_wide.2 HLAY.out)) ?_
    rintro e W4 ⟨rfl, hl4, ht4, hk4⟩
    have H4 : Hid (PartI W4 qc mc 0 (C ++ [⟨W.heap.size, xt, .int .i64 x0⟩]) ∧ Kept (Mine qc mc C) W W4) := ⟨⟨hl4, by simpa using ht4⟩, hk4⟩
    clear hl4 ht4 hk4 HLAY
    gi_wp2
    obtain ⟨p4, k4⟩ := H4.out
    have inv := HINV.out
    refine ⟨inv.part.keeps k4 hmc3, inv.part.kp p4 k4 (fun r hr => ⟨hr, by simp [hr]⟩), ⟨C ++ [⟨W.heap.size, xt, .int .i64 x0⟩], p4, ?_, (k4.block bc (Array.getElem?_eq_some_iff.1 inv.box).1 (inv.part.notCells inv.box (by decide) (by decide))).trans inv.box, inv.from_.kept k4 (fun k hk hM => ?_), inv.bel.trans (k4.below inv.bel.size fun k hk hM => ?_), ?_, next_take inv.take HX.out⟩⟩
    · rw [view_append, view_append, inv.same]
      rfl
    · have := HH.out.lt hk
      have := inv.base k hM
      omega
    · have := inv.base k hM
      omega
    · rintro k (rfl | rfl | ⟨r, hr, rfl⟩)
      · exact inv.base _ (.inl rfl)
      · exact inv.base _ (.inr (.inl rfl))
      · rcases List.mem_append.1 hr with hr | hr
        · exact inv.base _ (.inr (.inr ⟨r, hr, rfl⟩))
        · simp only [List.mem_singleton] at hr
          rw [hr]
          exact inv.bel.size
  case done =>
    rintro D xs W hD hS ⟨C, inv⟩ hK
    subst hS
    have c1 : W.cell? ⟨bc, 0, none⟩ = some (.pointer (some ⟨qc, 0, none⟩)) := by simp [World.cell?, inv.box]
    have c2 : W.cell? ⟨qb, 3, none⟩ = some (.int .i64 given) := by simp [World.cell?, inv.from_.link.box]
    have c3 : W.cell? ⟨qc, 3, none⟩ = some (.int .i64 0) := by simp [World.cell?, inv.part.link.box]
    have f3 : W.frozen? ⟨qc, 3, none⟩ = false := by simp [World.frozen?, inv.part.link.box]
    have nbq : bc ≠ qc := fun e => inv.part.notCells inv.box (by decide) (by decide) (.inl e)
    have HINV : Hid (CloneInvI w qb mb qc mc bc given xs xs W C) := inv
    have HK : Hid (W.heap[D]? = some (.deferred (some []))) := hK
    clear inv hK
    go_wp2
    refine wp_tail 7 mixed (by kernel_rfl) ?_
    simp only [List.take_succ_cons, List.take_zero, List.drop_succ_cons, List.drop_zero]
    repeat still_step
    refine wpStill_nil ?_
    go_wp2
    have inv := HINV.out
    obtain ⟨pg, kg⟩ := inv.part.setGiven given
    have hK1 : (W.setCell ⟨qc, 3, none⟩ (.int .i64 given)).drew.heap[D]? = some (.deferred (some [])) := (kg.block D (Array.getElem?_eq_some_iff.1 HK.out).1 (fun hM => inv.part.not (row := some D) hmc3 (fun r e => by cases e; exact ⟨hD, _, HK.out, rfl⟩) D hM rfl)).trans HK.out
    refine ⟨by simp, .inl ⟨_, _, rfl, run_takeDeferred hK1, ?_⟩⟩
    have hvo := view_order inv.same HH.out.up HH.out.le
    have pd : PartI (W.setCell ⟨qc, 3, none⟩ (.int .i64 given)).drew qc mc given C := ⟨pg.link.drew, pg.tab⟩
    have pf := pd.own (B := W3.heap.size) (row := some D) hmc3 (grownBy_putObj' _ D (.deferred none)) (fun r e => by cases e; exact ⟨hD, _, hK1, rfl⟩)
    have hbel : Below w.heap.size w (W.setCell ⟨qc, 3, none⟩ (.int .i64 given)).drew := (inv.bel.trans (kg.below inv.bel.size fun k hk hM => by have := inv.base k hM; omega)).drew
    refine ⟨.pointer (some ⟨qc, 0, none⟩), by simp [results, Try.f38, go_sem], qc, mc, C, rfl, ⟨pf.link, pf.tab, hvo.1, hvo.2, HH.out.pos⟩, inv.same, hbel.grown (grownBy_putObj' _ D (.deferred none)) hbel.size (fun k e => by cases e; have := HI0.out.bel.size; omega), inv.base⟩
  case stop =>
    rintro D c pre W hD _ h
    exact h.elim
end Go.Proofs.Ytccpaapbgdpghaa
