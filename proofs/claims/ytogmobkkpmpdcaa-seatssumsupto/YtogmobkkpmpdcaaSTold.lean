/-
  told, Get.
-/
import Derived.Test.YtogmobkkpmpdcaaSWait
import Derived.Test.YtogmobkkpmpdcaaNames
import Derived.Test.YtogmobkkpmpdcaaSHand
namespace Go.Proofs.Ytogmobkkpmpdcaa
open Go.RowKit
/-- A connection, as it is told. -/
def seatA (n : Int) (x : Cn) (v : Value) : Array Value := #[.int .i64 n, .string x.us, v, .bool (x.tk != 0), .int .i64 x.un, .bool x.pu, .bool x.ta]
theorem seat_size (n : Int) (x : Cn) (v : Value) : (Try.prog.info? 33).map (·.size) = some (seatA n x v).size := by
  show _ = some 7
  kernel_rfl
abbrev seat0 : Array Value := #[.int .i64 0, .string ⟨#[]⟩, .slice none 0 0, .bool false, .int .i64 0, .bool false, .bool false]
set_option maxHeartbeats 4000000 in
set_option maxRecDepth 1000000 in
theorem told_any (n : Int) (w : World) (lab : Nat → Int) (i : Int) (x : Cn) (L : List RowT) (h : CnAt w lab i x) (hL : Listed x.g L) (hn : x.n ≤ 1073741823) :
    Calls Try.prog 29 #[ptrV x.blk, .int .i64 n] w fun e w' => ∃ gb cap, e = .returned (.agg (seatA n x (.slice (some ⟨gb, 0, none⟩) L.length cap))) ∧ w'.ownsRow w.heap.size 9 1 (.slice (some ⟨gb, 0, none⟩) L.length cap) L.length (L.map fun r => encStr r.1) ∧ Below w.heap.size w w' := by
  obtain ⟨rb, hrb⟩ : ∃ rb, rb = w.heap.size := ⟨_, rfl⟩
  obtain ⟨w1, hw1⟩ : ∃ w1, w1 = w.alloc (.cells seat0 33) := ⟨_, rfl⟩
  have B1 : Below w.heap.size w w1 := by rw [hw1]; exact (Below.refl _ w).alloc (Nat.le_refl _) _
  have R1 : w1.heap[rb]? = some (.cells seat0 33 (0, 0)) := by rw [hw1, hrb]; exact heap_alloc_new w _
  have X1 : CnAt w1 lab i x := h.kept (P := fun _ => False) (Kept.ofBelow B1) (fun _ _ h => h.elim) (fun _ _ => rfl)
  have HW1 : Hid (w.alloc (.cells seat0 33) = w1 ∧ w.heap.size = rb) := ⟨hw1.symm, hrb.symm⟩
  have CN : Hid (∀ W, Below w1.heap.size w1 W → Calls Try.prog 33 #[.pointer (some ⟨x.bb, 0, none⟩)] W fun e w' => ∃ v, e = .returned v ∧ (∃ gb cap : Nat, v = .slice (some ⟨gb, 0, none⟩) L.length cap) ∧ w'.ownsRow W.heap.size 9 1 v L.length (L.map fun r => encStr r.1) ∧ Below W.heap.size W w') :=
    fun W hW => (names_any W x.bb x.bm x.n x.g L (X1.book.below hW) hn hL).mono fun e w' ⟨gb, cap, h1, h2, h3⟩ => ⟨_, h1, ⟨gb, cap, rfl⟩, h2, h3⟩
  have CW : Hid (∀ W, Below w1.heap.size w1 W → Calls Try.prog 39 #[ptrV x.blk] W fun e w' => e = .returned (.bool (x.tk != 0)) ∧ w' = W) :=
    fun W hW => waits_any W lab i x (X1.kept (P := fun _ => False) (Kept.ofBelow hW) (fun _ _ h => h.elim) (fun _ _ => rfl))
  have HX : Hid (w1.heap[x.blk]? = some (.cells x.cells 64 (0, 0)) ∧ w1.heap[rb]? = some (.cells seat0 33 (0, 0)) ∧ Below w.heap.size w w1) := ⟨X1.box, R1, B1⟩
  have blt : ¬ x.blk = rb := by have := h.lt.1; omega
  have q0 : w1.cell? ⟨x.blk, 0, none⟩ = some (.string x.us) := (X1.cell 0).trans rfl
  have q1 : w1.cell? ⟨x.blk, 1, none⟩ = some (ptrV x.bb) := (X1.cell 1).trans rfl
  have q3 : w1.cell? ⟨x.blk, 3, none⟩ = some (.int .i64 x.un) := (X1.cell 3).trans rfl
  have q4 : w1.cell? ⟨x.blk, 4, none⟩ = some (.bool x.pu) := (X1.cell 4).trans rfl
  have q5 : w1.cell? ⟨x.blk, 5, none⟩ = some (.bool x.ta) := (X1.cell 5).trans rfl
  clear hrb hw1 B1 R1 X1 h hL hn
  go_enter Try.func29, Try.ntmps29
  go_upto_region 1 with fail
  rw [HW1.out.1, HW1.out.2]
  have sb : Below w1.heap.size w1 w1.drew := (Below.refl _ w1).drew
  have sq : Kept (fun k => k = rb) w1 w1.drew := Kept.ofBelow sb
  refine wp_region_held_drew (S := fun X => Kept (fun k => k = rb) w1 X) (by kernel_rfl) sq (fun _ => ?_)
  refine H_take (i := 0) (v := .int .i64 n) (some 5) rfl rfl (by kernel_rfl) (by kernel_rfl) (by kernel_rfl) (fun _ _ _ h => h) rfl (fun X hX => ?_) sq ?_
  · simp [go_sem]
  simp only [Act.put, List.setIfInBounds_toArray, List.set_cons_zero, List.set_cons_succ]
  refine H_take (i := 1) (v := ptrV x.blk) (some 6) rfl rfl (by kernel_rfl) (by kernel_rfl) (by kernel_rfl) (fun _ _ _ h => h) rfl (fun X hX => ?_) sq ?_
  · simp [go_sem]
  simp only [Act.put, List.setIfInBounds_toArray, List.set_cons_zero, List.set_cons_succ]
  refine H_take (i := 2) (v := ptrV x.blk) (some 7) rfl rfl (by kernel_rfl) (by kernel_rfl) (by kernel_rfl) (fun _ _ _ h => h) rfl (fun X hX => ?_) sq ?_
  · simp [go_sem]
  simp only [Act.put, List.setIfInBounds_toArray, List.set_cons_zero, List.set_cons_succ]
  refine H_take (i := 3) (v := .pointer (some ⟨x.blk, 0, none⟩)) (some 8) rfl rfl (by kernel_rfl) (by kernel_rfl) (by kernel_rfl) (fun _ _ _ h => h) rfl (fun X hX => ?_) sq ?_
  · simp [go_sem]
  simp only [Act.put, List.setIfInBounds_toArray, List.set_cons_zero, List.set_cons_succ]
  refine H_take (i := 4) (v := .string x.us) (some 9) rfl rfl (by kernel_rfl) (by kernel_rfl) (by kernel_rfl) (fun _ _ _ h => h) rfl (fun X hX => ?_) sq ?_
  · exact run_load1 rfl rfl Try.isAgg9 (hX.cell blt q0)
  simp only [Act.put, List.setIfInBounds_toArray, List.set_cons_zero, List.set_cons_succ]
  refine H_take (i := 5) (v := ptrV x.blk) (some 10) rfl rfl (by kernel_rfl) (by kernel_rfl) (by kernel_rfl) (fun _ _ _ h => h) rfl (fun X hX => ?_) sq ?_
  · simp [go_sem]
  simp only [Act.put, List.setIfInBounds_toArray, List.set_cons_zero, List.set_cons_succ]
  refine H_take (i := 6) (v := ptrV x.blk) (some 11) rfl rfl (by kernel_rfl) (by kernel_rfl) (by kernel_rfl) (fun _ _ _ h => h) rfl (fun X hX => ?_) sq ?_
  · simp [go_sem]
  simp only [Act.put, List.setIfInBounds_toArray, List.set_cons_zero, List.set_cons_succ]
  refine H_take (i := 7) (v := .pointer (some ⟨x.blk, 1, none⟩)) (some 12) rfl rfl (by kernel_rfl) (by kernel_rfl) (by kernel_rfl) (fun _ _ _ h => h) rfl (fun X hX => ?_) sq ?_
  · simp [go_sem]
  simp only [Act.put, List.setIfInBounds_toArray, List.set_cons_zero, List.set_cons_succ]
  refine H_take (i := 8) (v := ptrV x.bb) (some 13) rfl rfl (by kernel_rfl) (by kernel_rfl) (by kernel_rfl) (fun _ _ _ h => h) rfl (fun X hX => ?_) sq ?_
  · exact run_load1 rfl rfl Try.isAgg60 (hX.cell blt q1)
  simp only [Act.put, List.setIfInBounds_toArray, List.set_cons_zero, List.set_cons_succ]
  refine H_take (i := 10) (v := ptrV x.blk) (some 15) rfl rfl (by kernel_rfl) (by kernel_rfl) (by kernel_rfl) (fun _ _ _ h => h) rfl (fun X hX => ?_) sq ?_
  · simp [go_sem]
  simp only [Act.put, List.setIfInBounds_toArray, List.set_cons_zero, List.set_cons_succ]
  refine H_take (i := 12) (v := ptrV x.blk) (some 17) rfl rfl (by kernel_rfl) (by kernel_rfl) (by kernel_rfl) (fun _ _ _ h => h) rfl (fun X hX => ?_) sq ?_
  · simp [go_sem]
  simp only [Act.put, List.setIfInBounds_toArray, List.set_cons_zero, List.set_cons_succ]
  refine H_take (i := 13) (v := ptrV x.blk) (some 18) rfl rfl (by kernel_rfl) (by kernel_rfl) (by kernel_rfl) (fun _ _ _ h => h) rfl (fun X hX => ?_) sq ?_
  · simp [go_sem]
  simp only [Act.put, List.setIfInBounds_toArray, List.set_cons_zero, List.set_cons_succ]
  refine H_take (i := 14) (v := .pointer (some ⟨x.blk, 3, none⟩)) (some 19) rfl rfl (by kernel_rfl) (by kernel_rfl) (by kernel_rfl) (fun _ _ _ h => h) rfl (fun X hX => ?_) sq ?_
  · simp [go_sem]
  simp only [Act.put, List.setIfInBounds_toArray, List.set_cons_zero, List.set_cons_succ]
  refine H_take (i := 15) (v := .int .i64 x.un) (some 20) rfl rfl (by kernel_rfl) (by kernel_rfl) (by kernel_rfl) (fun _ _ _ h => h) rfl (fun X hX => ?_) sq ?_
  · exact run_load1 rfl rfl Try.isAgg3 (hX.cell blt q3)
  simp only [Act.put, List.setIfInBounds_toArray, List.set_cons_zero, List.set_cons_succ]
  refine H_take (i := 16) (v := ptrV x.blk) (some 21) rfl rfl (by kernel_rfl) (by kernel_rfl) (by kernel_rfl) (fun _ _ _ h => h) rfl (fun X hX => ?_) sq ?_
  · simp [go_sem]
  simp only [Act.put, List.setIfInBounds_toArray, List.set_cons_zero, List.set_cons_succ]
  refine H_take (i := 17) (v := ptrV x.blk) (some 22) rfl rfl (by kernel_rfl) (by kernel_rfl) (by kernel_rfl) (fun _ _ _ h => h) rfl (fun X hX => ?_) sq ?_
  · simp [go_sem]
  simp only [Act.put, List.setIfInBounds_toArray, List.set_cons_zero, List.set_cons_succ]
  refine H_take (i := 18) (v := .pointer (some ⟨x.blk, 4, none⟩)) (some 23) rfl rfl (by kernel_rfl) (by kernel_rfl) (by kernel_rfl) (fun _ _ _ h => h) rfl (fun X hX => ?_) sq ?_
  · simp [go_sem]
  simp only [Act.put, List.setIfInBounds_toArray, List.set_cons_zero, List.set_cons_succ]
  refine H_take (i := 19) (v := .bool x.pu) (some 24) rfl rfl (by kernel_rfl) (by kernel_rfl) (by kernel_rfl) (fun _ _ _ h => h) rfl (fun X hX => ?_) sq ?_
  · exact run_load1 rfl rfl Try.isAgg4 (hX.cell blt q4)
  simp only [Act.put, List.setIfInBounds_toArray, List.set_cons_zero, List.set_cons_succ]
  refine H_take (i := 20) (v := ptrV x.blk) (some 25) rfl rfl (by kernel_rfl) (by kernel_rfl) (by kernel_rfl) (fun _ _ _ h => h) rfl (fun X hX => ?_) sq ?_
  · simp [go_sem]
  simp only [Act.put, List.setIfInBounds_toArray, List.set_cons_zero, List.set_cons_succ]
  refine H_take (i := 21) (v := ptrV x.blk) (some 26) rfl rfl (by kernel_rfl) (by kernel_rfl) (by kernel_rfl) (fun _ _ _ h => h) rfl (fun X hX => ?_) sq ?_
  · simp [go_sem]
  simp only [Act.put, List.setIfInBounds_toArray, List.set_cons_zero, List.set_cons_succ]
  refine H_take (i := 22) (v := .pointer (some ⟨x.blk, 5, none⟩)) (some 27) rfl rfl (by kernel_rfl) (by kernel_rfl) (by kernel_rfl) (fun _ _ _ h => h) rfl (fun X hX => ?_) sq ?_
  · simp [go_sem]
  simp only [Act.put, List.setIfInBounds_toArray, List.set_cons_zero, List.set_cons_succ]
  refine H_take (i := 23) (v := .bool x.ta) (some 28) rfl rfl (by kernel_rfl) (by kernel_rfl) (by kernel_rfl) (fun _ _ _ h => h) rfl (fun X hX => ?_) sq ?_
  · exact run_load1 rfl rfl Try.isAgg4 (hX.cell blt q5)
  simp only [Act.put, List.setIfInBounds_toArray, List.set_cons_zero, List.set_cons_succ]
  refine H_call (i := 9) (f := 33) (args := #[ptrV x.bb]) (some 14) rfl rfl (by kernel_rfl) rfl (by simp [go_sem]) ((CN.out _ sb).mono ?_)
  rintro e w2 ⟨v, rfl, hv, o2, b2⟩
  have sb2 : Below w1.heap.size w1 w2 := sb.trans (b2.mono sb.size)
  have sq2 : Kept (fun k => k = rb) w1 w2 := Kept.ofBelow sb2
  refine ⟨_, rfl, sq2, ?_⟩
  have HO : Hid (w2.ownsRow w1.heap.size 9 1 v L.length (L.map fun r => encStr r.1)) := o2
  have HV : Hid (∃ gb cap : Nat, v = .slice (some ⟨gb, 0, none⟩) L.length cap) := hv
  have V1 : Hid ((seatA n x v).all (·.oneCell') = true) := by obtain ⟨gb, cap, rfl⟩ := hv; exact (by simp [seatA, Value.oneCell'] : (seatA n x (.slice (some ⟨gb, 0, none⟩) L.length cap)).all (·.oneCell') = true)
  clear o2 b2 hv
  simp only [Act.put, List.setIfInBounds_toArray, List.set_cons_zero, List.set_cons_succ]
  refine H_call (i := 11) (f := 39) (args := #[ptrV x.blk]) (some 16) rfl rfl (by kernel_rfl) rfl (by simp [go_sem]) ((CW.out _ sb2).mono ?_)
  rintro e w3 ⟨rfl, hw3⟩
  obtain rfl := hw3.symm
  refine ⟨_, rfl, sq2, ?_⟩
  simp only [Act.put, List.setIfInBounds_toArray, List.set_cons_zero, List.set_cons_succ]
  refine H_take (i := 24) (v := .agg (seatA n x v)) (some 29) rfl rfl (by kernel_rfl) (by kernel_rfl) (by kernel_rfl) (fun _ _ _ h => h) rfl (fun X hX => ?_) sq2 ?_
  · obtain ⟨gb, cap, rfl⟩ := HV.out; exact run_build1 rfl (by kernel_rfl)
  simp only [Act.put, List.setIfInBounds_toArray, List.set_cons_zero, List.set_cons_succ]
  have R2 : w2.heap[rb]? = some (.cells seat0 33 (0, 0)) := (sb2.block rb (Array.getElem?_eq_some_iff.1 HX.out.2.1).1).trans HX.out.2.1
  have k3 : Kept (fun k => k = rb) w2 (w2.setRow rb (seatA n x v)) := ⟨rfl, rfl, rfl, by simp [World.setRow], fun k _ hk => setRow_other w2 rb k _ hk⟩
  refine H_skip (i := 25) (w' := w2.setRow rb (seatA n x v)) rfl rfl (by kernel_rfl) rfl (run_storeRow rfl rb (seatA n x v) rfl rfl 33 seat0 R2 (seat_size n x v) rfl V1.out) (sq2.trans k3) ?_
  refine wpAnyH_done (by kernel_rfl) ?_ _
  go_wp2_with fail
  have hrow : (w2.setRow rb (seatA n x v)).heap[rb]? = some (.cells (seatA n x v) 33 (0, 0)) := setRow_heap w2 rb _ _ _ _ R2
  obtain ⟨gb, cap, hv⟩ := HV.out
  have o2 := HO.out
  refine bodyPost_ret (v := .agg (seatA n x v)) (results_cell_row (P := Try.prog) Try.results29 _ _ rb 33 _ (0, 0) _ rfl hrow Try.underlying33 rfl (seat_size n x v)) rfl ⟨gb, cap, by rw [hv], ?_, ?_⟩
  · rw [← hv]
    have s1 := HX.out.2.2.size
    have o3 := k3.own o2 (fun g hg e => by have e : g = rb := e; have := (World.ownsRow.lt o2 g hg).1; have := (Array.getElem?_eq_some_iff.1 HX.out.2.1).1; omega)
    refine ⟨o3.1, ?_⟩
    rcases o3.2 with h0 | ⟨g, cap, cur, hv, hg, rest⟩
    · exact .inl h0
    · exact .inr ⟨g, cap, cur, hv, Nat.le_trans s1 hg, rest⟩
  · have e0 := HW1.out.2
    exact (HX.out.2.2.trans (sb2.mono HX.out.2.2.size)).trans (k3.below (by have := HX.out.2.2.size; have := sb2.size; omega) (fun k hk e => by have e : k = rb := e; omega))
end Go.Proofs.Ytogmobkkpmpdcaa
