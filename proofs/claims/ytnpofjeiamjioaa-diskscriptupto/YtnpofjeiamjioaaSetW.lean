/-
  The walk of set.
-/
import Derived.Test.YtnpofjeiamjioaaAtx
namespace Go.Proofs.Ytnpofjeiamjioaa
open Go.RowKit Go.Maps

theorem mem_ins_self {L : List Fl} (h : Rising L) (f : Fl) : f ∈ ins L f := (look_mem (by rw [look_ins h, if_pos rfl] : look (ins L f) f.num = some f)).1
/-- What stands in the map at a number, as a value. -/
theorem DiskAt.there {w : World} {db mb : Nat} {q : Int} {L : List Fl} {vs : Int → Value} (h : DiskAt w db mb q L vs) (t : Int) :
    ∃ (a : Option Addr) (c : Nat) (s : Int), fileV ((slot L vs t).getD noFile) = .agg #[.slice a (lenOf (look L t)) c, .int .i64 s] := by
  unfold slot
  cases hl : look L t with
  | none => exact ⟨none, 0, 0, rfl⟩
  | some f =>
    obtain ⟨hf, rfl⟩ := look_mem hl
    obtain ⟨a, c, hv, _⟩ := (h.own f hf).shape
    refine ⟨a, c, f.safe, ?_⟩
    simp [fileV, hv, lenOf]

theorem field_data (a : Option Addr) (n c : Nat) (y : Value) (w : World) : (Instr.field 87 (.agg #[.slice a n c, y]) 0).run Try.prog w = .ok (.slice a n c) w := by kernel_rfl
set_option maxHeartbeats 1000000 in
set_option maxRecDepth 1000000 in
theorem set_any (w : World) (db mb : Nat) (q : Int) (L : List Fl) (vs : Int → Value) (h : DiskAt w db mb q L vs) (f : Fl) (v : Value) (hv : Own w 0 v f.data)
    (hap : ∀ x ∈ L, x.num ≠ f.num → ∀ k, v.ownBlock = some k → (vs x.num).ownBlock ≠ some k) (hR : Right q (ins L f)) :
    Calls Try.prog 50 #[.pointer (some ⟨db, 0, none⟩), .int .i64 f.num, .agg #[v, .int .i64 (f.safe : Int)]] w fun e w' => e = .returned (.tuple #[]) ∧ DiskAt w' db mb q (ins L f) (upd vs f.num v) ∧ Kept (fun k => k = db ∨ k = mb) w w' := by
  have hr := h.right.rise
  have hmem := mem_ins_self hr f
  have hnum := (hR.ok f hmem).2
  have hwf : (Lit.int .i64 f.num).wf = true := WalkArith.wf_i64 (by omega)
  have hlf := len_le hmem
  have hft := hR.fits
  have hqq := hR.quota
  have hft0 := h.right.fits
  have htot := total_ins hr f
  have hlo := lenOf_le (L := L) f.num
  obtain ⟨a, c, rfl, _⟩ := hv.shape
  obtain ⟨a0, c0, s0, hthere⟩ := h.there f.num
  obtain ⟨n0, hn0⟩ : ∃ n0, n0 = lenOf (look L f.num) := ⟨_, rfl⟩
  obtain ⟨T0, hT0⟩ : ∃ T0, T0 = total L := ⟨_, rfl⟩
  obtain ⟨d0, hd0⟩ : ∃ d0, d0 = f.data.length := ⟨_, rfl⟩
  obtain ⟨w1, hw1⟩ : ∃ w1, w1 = w.alloc (.cells #[.slice a f.data.length c, .int .i64 (f.safe : Int)] 87) := ⟨_, rfl⟩
  have B1 : Below w.heap.size w w1 := by rw [hw1]; exact (Below.refl _ w).alloc (Nat.le_refl _) _
  have h1 := h.below B1
  obtain ⟨k0, k1, k2⟩ := h1.cell
  have hbx : w1.heap[w.heap.size]? = some (.cells #[.slice a f.data.length c, .int .i64 (f.safe : Int)] 87 (0, 0)) := by rw [hw1]; exact heap_alloc_new w _
  have e0 : w1.cell? ⟨w.heap.size, 0, none⟩ = some (.slice a d0 c) := by simp [World.cell?, hbx, hd0]
  have e1 : w1.cell? ⟨w.heap.size, 1, none⟩ = some (.int .i64 (f.safe : Int)) := by simp [World.cell?, hbx]
  have hfd := field_data a0 n0 c0 (.int .i64 s0)
  have fz : w1.frozen? ⟨db, 1, none⟩ = false := by simp [World.frozen?, h1.cells]
  have hlk := (h1.tab.block (w' := w1.drew) rfl).look1 f.num hwf
  rw [hthere, ← hn0] at hlk
  rw [← hT0] at k1
  have hdbl : db < w.heap.size := h.lt (.inl rfl)
  have HH : Hid (DiskAt w1 db mb q L vs ∧ Below w.heap.size w w1 ∧ w1 = w.alloc (.cells #[.slice a f.data.length c, .int .i64 (f.safe : Int)] 87) ∧ DiskAt w db mb q L vs) := ⟨h1, B1, hw1, h⟩
  have HN : Hid (n0 = lenOf (look L f.num) ∧ T0 = total L ∧ d0 = f.data.length) := ⟨hn0, hT0, hd0⟩
  have HV : Hid (Own w 0 (.slice a f.data.length c) f.data) := hv
  have HA : Hid (∀ x ∈ L, x.num ≠ f.num → ∀ k, (Value.slice a f.data.length c).ownBlock = some k → (vs x.num).ownBlock ≠ some k) := hap
  have HR : Hid (Right q (ins L f)) := hR
  have i1 : (0 : Int) ≤ T0 ∧ (T0 : Int) ≤ 67108864 := by omega
  have i2 : (0 : Int) ≤ d0 ∧ (d0 : Int) ≤ 67108864 := by omega
  have i3 : (0 : Int) ≤ n0 ∧ (n0 : Int) ≤ 67108864 := by omega
  have HI : Hid ((T0 : Int) + ((d0 : Int) - (n0 : Int)) = (total (ins L f) : Int)) := by show _ = _; omega
  rw [← hd0]
  rw [← hd0] at hw1
  obtain ⟨i1a, i1b⟩ := i1
  obtain ⟨i2a, i2b⟩ := i2
  obtain ⟨i3a, i3b⟩ := i3
  clear h h1 hv hap hR hr hmem hnum hlf hft hqq hft0 htot hlo hthere hn0 hT0 hd0 B1 hbx
  go_enter Try.func50, Try.ntmps50
  go_wp2_with fail
  rw [← hw1]
  clear hw1
  refine wp_tail 19 mixed (by kernel_rfl) ?_
  simp only [List.take_succ_cons, List.take_zero, List.drop_succ_cons, List.drop_zero]
  repeat still_step
  refine wpStill_nil ?_
  rw [IntWalk.i64_in ((d0 : Int) - (n0 : Int)) (by omega), IntWalk.i64_in ((T0 : Int) + ((d0 : Int) - (n0 : Int))) (by omega), HI.out]
  obtain ⟨u, hu⟩ : ∃ u : Int, u = (total (ins L f) : Int) := ⟨_, rfl⟩
  rw [← hu]
  obtain ⟨w2, hw2⟩ : ∃ w2, w2 = (w1.setCell ⟨db, 1, none⟩ (.int .i64 u)).drew := ⟨_, rfl⟩
  have hsc : w2.heap[db]? = some (.cells #[.int .i64 q, .int .i64 u, .map (some mb)] 90 (0, 0)) := by rw [hw2]; exact (set_cells HH.out.1.cells 1 (.int .i64 u)).1
  have hk2 : Kept (fun k => k = db) w1 w2 := by rw [hw2]; exact (Kept.setCell (fun k => k = db) _ _ _ _ rfl).trans (Kept.ofBelow (Below.refl _ _).drew)
  have m2 : w2.cell? ⟨db, 2, none⟩ = some (.map (some mb)) := by simp [World.cell?, hsc]
  have x0 : w2.cell? ⟨w.heap.size, 0, none⟩ = some (.slice a d0 c) := hk2.cell (show ¬ w.heap.size = db by omega) e0
  have x1 : w2.cell? ⟨w.heap.size, 1, none⟩ = some (.int .i64 (f.safe : Int)) := hk2.cell (show ¬ w.heap.size = db by omega) e1
  have HT2 : Hid (FTab w2 mb L.length (slot L vs) ∧ Kept (fun k => k = db) w1 w2 ∧ w2.heap[db]? = some (.cells #[.int .i64 q, .int .i64 u, .map (some mb)] 90 (0, 0)) ∧ u = (total (ins L f) : Int)) :=
    ⟨HH.out.1.tab.block (hk2.block mb HH.out.1.tab.lt (fun e => HH.out.1.ne e.symm)), hk2, hsc, hu⟩
  clear hsc hk2 k0 k2 e0 e1 hlk hfd hu
  go_wp2_with fail
  rw [← hw2]
  clear hw2 fz k1
  refine wp_tail 6 mixed (by kernel_rfl) ?_
  simp only [List.take_succ_cons, List.take_zero, List.drop_succ_cons, List.drop_zero]
  repeat still_step
  refine wpStill_nil ?_
  refine wpList_fput rfl (.tmp 28) (.tmp 29) (.tmp 30) rfl mb L.length (slot L vs) f.num (.slice a d0 c, (f.safe : Int)) rfl rfl rfl (by cases HN.out.2.2; exact HV.out.sl) (HT2.out.1.block (w' := w2.drew) rfl) HH.out.1.right.few2 hwf ?_
  intro w3 ht3 hg3
  obtain ⟨hT2, hk2, hb2, hu⟩ := HT2.out
  have hne := HH.out.1.ne
  have hk3 : Kept (fun k => k = mb) w2 w3 := Kept.ofGrown (grown_of_drew hg3) (fun g e => by cases e; rfl)
  have hkk : Kept (fun k => k = db ∨ k = mb) w w3 :=
    ((Kept.ofBelow HH.out.2.1).step (hk2.mono (Q := fun k => k = db ∨ k = mb) (fun _ _ e => .inl e)) (fun _ _ e => e)).trans (hk3.mono (fun _ _ e => .inr e))
  have hb3 : w3.heap[db]? = some (.cells #[.int .i64 q, .int .i64 u, .map (some mb)] 90 (0, 0)) := (hk3.block db (Array.getElem?_eq_some_iff.1 hb2).1 hne).trans hb2
  have hD : Hid (DiskAt w3 db mb q (ins L f) (upd vs f.num (.slice a d0 c)) ∧ Kept (fun k => k = db ∨ k = mb) w w3) := by
    refine ⟨?_, hkk⟩
    have hv := HV.out
    have hap := HA.out
    rw [← HN.out.2.2] at hv hap
    exact HH.out.2.2.2.laid hv hap HR.out hkk (by rw [← hu]; exact hb3) ht3
  clear ht3 hg3 hk3 hkk hb3 hk2 hb2 hu hT2 hne
  go_wp2_with fail
  go_end0
  exact ⟨rfl, hD.out.1, hD.out.2⟩
end Go.Proofs.Ytnpofjeiamjioaa
