/-
  The walk of Leave.
-/
import Derived.Test.YtccpaapbgdpghaaAskI
namespace Go.Proofs.Ytccpaapbgdpghaa
open Go.RowKit

set_option maxHeartbeats 4000000 in
set_option maxRecDepth 1000000 in
theorem leaveI (w : World) (qb mb : Nat) (given t : Int) (R : List Stand) (h : QueueAtI w qb mb given R) (ht : (Lit.int .i64 t).wf = true) (hvs : ∀ r ∈ R, ∃ x : Int, r.v = .int .i64 x) :
    Calls Try.prog 33 #[.pointer (some ⟨qb, 0, none⟩), .int .i64 t] w fun e w' => e = .returned (getOfI R t) ∧ QueueAtI w' qb mb given (R.filter (fun r => r.tk != t)) ∧ Kept (Mine qb mb (R.filter (fun r => r.tk != t))) w w' := by
  have q2 : w.cell? ⟨qb, 2, none⟩ = some (.map (some mb)) := by simp [World.cell?, h.link.box]
  have HT : Hid (PTab w mb R.length (whereIs R)) := h.tab
  have HH : Hid (QueueAtI w qb mb given R) := h
  rcases find_split R t with h0 | ⟨A, r, B, h1, h2, h3, h4⟩
  · have HW : Hid (whereIs R t = none ∧ R.find? (fun r => r.tk == t) = none) := ⟨by unfold whereIs; rw [h0]; rfl, h0⟩
    have HF : Hid (R.filter (fun r => r.tk != t) = R) := by
      refine List.filter_eq_self.2 fun r hr => ?_
      have := List.find?_eq_none.1 h0 r hr
      simpa using this
    clear h h0 hvs
    go_enter Try.func33, Try.ntmps33
    go_wp2_with (at_lookup; refine wpList_plook rfl _ _ 56 57 Try.underlying56 (zero_ptrI _) rfl mb R.length (whereIs R) t rfl rfl HT.out ht ?_; rw [HW.out.1]; simp only [ptrOf, Option.isSome_none])
    go_ret2
    exact ⟨by unfold getOfI; rw [HW.out.2]; rfl, by rw [HF.out]; exact HH.out, Kept.refl _ _⟩
  · have HW : Hid (whereIs R t = some r.blk ∧ R.find? (fun r => r.tk == t) = some r) := ⟨by unfold whereIs; rw [h4]; rfl, h4⟩
    have hs := h.link.seg
    rw [h1, seg_append] at hs
    have hv := hvs r (by rw [h1]; simp)
    have hlink := h.link
    have hne := up_ne (h1 ▸ h.up)
    rw [h1] at hlink
    have HU := unlinkI w qb mb given A B r hlink
    have HF : Hid (R.filter (fun r => r.tk != t) = A ++ B) := by
      show _ = _
      rw [h1, List.filter_append, List.filter_cons]
      have e1 : A.filter (fun r => r.tk != t) = A := List.filter_eq_self.2 fun s hs => by have := hne s (by simp [hs]); simpa [← h2] using this
      have e2 : B.filter (fun r => r.tk != t) = B := List.filter_eq_self.2 fun s hs => by have := hne s (by simp [hs]); simpa [← h2] using this
      rw [e1, e2]
      simp [h2]
    have HL : Hid (R.length = (A ++ B).length + 1) := by
      show _ = _
      rw [h1]; simp; omega
    have HX : Hid (R = A ++ r :: B ∧ r.tk = t ∧ ∀ s ∈ A ++ B, s.tk ≠ r.tk) := ⟨h1, h2, hne⟩
    obtain ⟨rb, rt, rv⟩ := r
    have hcell : w.heap[rb]? = some (.cells (cellsAt ⟨rb, rt, rv⟩ (lst none A) (fst B none)) 73 (0, 0)) := hs.2.1
    have HC : Hid (w.heap[rb]? = some (.cells (cellsAt ⟨rb, rt, rv⟩ (lst none A) (fst B none)) 73 (0, 0))) := hcell
    have HUH : Hid (Calls Try.prog 39 #[.pointer (some ⟨qb, 0, none⟩), .pointer (some ⟨rb, 0, none⟩)] w fun e w' => e = .returned (.tuple #[]) ∧ LinkI w' qb mb given (A ++ B) ∧ w'.heap[rb]? = w.heap[rb]? ∧ Kept (fun k => k = qb ∨ ∃ r ∈ A ++ B, r.blk = k) w w') := HU
    simp only [] at hv HW
    clear h h1 h2 h3 h4 hs hvs hlink hne HU hcell
    obtain ⟨x0, rfl⟩ := hv
    go_enter Try.func33, Try.ntmps33
    go_wp2_with (at_lookup; refine wpList_plook rfl _ _ 56 57 Try.underlying56 (zero_ptrI _) rfl mb R.length (whereIs R) t rfl rfl HT.out ht ?_; rw [HW.out.1]; simp only [ptrOf, Option.isSome_some])
    refine HUH.out.mono ?_
    rintro e w1 ⟨rfl, hl1, hc1, hk1⟩
    have hmq : mb ≠ qb := by
      obtain ⟨es, clock, hm⟩ := HT.out.map
      intro e; rw [e, HH.out.link.box] at hm; simp at hm
    have hmm : ¬ (mb = qb ∨ ∃ r ∈ A ++ B, r.blk = mb) := by
      rintro (e | ⟨s, hs, e⟩)
      · exact hmq e
      · obtain ⟨c, hc⟩ := hl1.seg.block hs
        have h5 : s ∈ R := by rw [HX.out.1]; rcases List.mem_append.1 hs with h | h <;> simp [h]
        obtain ⟨c, hc⟩ := HH.out.link.seg.block h5
        obtain ⟨es, clock, hm⟩ := HT.out.map
        rw [e, hm] at hc; simp at hc
    have ht1 : PTab w1 mb R.length (whereIs R) := HT.out.block (hk1.block mb HT.out.lt hmm)
    have c1 : w1.cell? ⟨rb, 1, none⟩ = some (.int .i64 x0) := by simp [World.cell?, hc1, HC.out, cellsAt]
    have p0 : w1.cell? ⟨qb, 0, none⟩ = some (ptrOf (fst (A ++ B) none)) := by simp [World.cell?, hl1.box]
    have p2 : w1.cell? ⟨qb, 2, none⟩ = some (.map (some mb)) := by simp [World.cell?, hl1.box]
    have HT1 : Hid (PTab w1 mb R.length (whereIs R)) := ht1
    have hmr : mb ≠ rb := by
      obtain ⟨es, clock, hm⟩ := HT.out.map
      have := HC.out
      intro e; rw [← e, hm] at this; simp at this
    have HE : Hid (∀ w2 n g, PTab w2 mb n g → n = (A ++ B).length → (∀ t, whereIs (A ++ B) t = g t) → w1.grownBy w2 (some mb) → (QueueAtI w2 qb mb given (R.filter (fun r => r.tk != t)) ∧ Kept (Mine qb mb (R.filter (fun r => r.tk != t))) w w2) ∧ w2.cell? ⟨rb, 1, none⟩ = some (.int .i64 x0)) := by
      intro w2 n g h2 hn hg g2
      have hc2 : w2.heap[rb]? = w1.heap[rb]? := g2.block rb (Array.getElem?_eq_some_iff.1 (hc1.trans HC.out)).1 (fun e => hmr (Option.some.inj e).symm)
      refine ⟨⟨?_, ?_⟩, by simp [World.cell?, hc2, hc1, HC.out, cellsAt]⟩
      · rw [HF.out]
        refine ⟨hl1.kept (g2.block qb (Array.getElem?_eq_some_iff.1 hl1.box).1 (fun e => hmq (Option.some.inj e).symm)) (fun s hs => ?_), hn ▸ h2.congr hg, ?_, ?_, HH.out.pos⟩
        · obtain ⟨c, hc⟩ := hl1.seg.block hs
          refine g2.block _ (Array.getElem?_eq_some_iff.1 hc).1 (fun e => ?_)
          have e := Option.some.inj e
          exact hmm (.inr ⟨s, hs, e⟩)
        · rw [← HF.out]
          exact HH.out.up.filter _
        · intro s hs
          rw [← HF.out] at hs
          exact HH.out.le s ((List.mem_filter.1 hs).1)
      · refine (hk1.mono fun k _ e => ?_).trans (Kept.ofGrown g2 (fun k e => .inr (.inl (Option.some.inj e).symm)))
        rcases e with e | ⟨s, hs, e⟩
        · exact .inl e
        · exact .inr (.inr ⟨s, by rw [HF.out]; exact hs, e⟩)
    clear hl1 hk1 ht1 hc1 hmq hmm hmr
    cases hAB : A ++ B with
    | nil =>
      rw [hAB] at p0
      simp only [fst, ptrOf] at p0
      have HN : Hid (A ++ B = []) := hAB
      clear hAB
      obtain ⟨w2, hcl, h2, g2⟩ := HT1.out.clear (T := 56) (E := 57) Try.underlying56
      obtain ⟨z1, z2⟩ := HE.out w2 0 _ h2 (by rw [HN.out]; rfl) (by rw [HN.out]; intro t; rfl) g2
      have Z1 : Hid (QueueAtI w2 qb mb given (R.filter (fun r => r.tk != t)) ∧ Kept (Mine qb mb (R.filter (fun r => r.tk != t))) w w2) := z1
      clear z1 h2 g2 c1
      go_wp2_with fail
      go_ret2
      exact ⟨by unfold getOfI; rw [HW.out.2]; rfl, Z1.out⟩
    | cons s C =>
      rw [hAB] at p0
      simp only [fst, ptrOf] at p0
      have HG : Hid (∀ u, whereIs (A ++ B) u = delAt (whereIs R) t u) := by
        intro u
        have h5 := HX.out
        rw [whereIs_leave A B ⟨rb, rt, .int .i64 x0⟩ h5.2.2, h5.1]
        unfold delAt
        rw [← h5.2.1]
      have HS : Hid ((whereIs R t).isSome = true ∧ R.length - 1 = (A ++ B).length) := ⟨by rw [HW.out.1]; rfl, by rw [HL.out]; rfl⟩
      clear hAB c1
      go_wp2_with (at_delete; refine wpList_pstrike rfl _ _ 56 57 Try.underlying56 rfl mb R.length (whereIs R) t rfl rfl HT1.out ht ?_; intro w2 h2 g2; rw [if_pos HS.out.1] at h2; obtain ⟨z1, z2⟩ := HE.out w2 _ _ h2 HS.out.2 HG.out g2; have Z1 : Hid (QueueAtI w2 qb mb given (R.filter (fun r => r.tk != t)) ∧ Kept (Mine qb mb (R.filter (fun r => r.tk != t))) w w2) := z1; clear z1 h2 g2)
      go_ret2
      exact ⟨by unfold getOfI; rw [HW.out.2]; rfl, Z1.out⟩
end Go.Proofs.Ytccpaapbgdpghaa
