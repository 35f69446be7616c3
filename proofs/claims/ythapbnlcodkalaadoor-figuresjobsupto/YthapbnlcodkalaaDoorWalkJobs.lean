/-
  The walk of FiguresJobs.
-/
import Derived.Test.YthapbnlcodkalaaDoorJobsKit
import Derived.Deep.Cut
namespace Go.Proofs.YthapbnlcodkalaaDoor.figuresJobs
open Go.RowKit Go.Sort Go.Lib

set_option maxHeartbeats 8000000 in
set_option maxRecDepth 1000000 in
theorem walk (j : Jb) (a0 : Option Addr) (q0 : Nat) (body : List UInt8) (j1 : Jb) (a1 : Option Addr) (q1 : Nat) (body1 : List UInt8) (file now : Int) (w : World) (h0 : IsBytes w a0 q0 body ∧ j.ok) (h1 : IsBytes w a1 q1 body1 ∧ j1.ok) (hf : -9223372036854775808 ≤ file ∧ file ≤ 9223372036854775807) (hn : -9223372036854775808 ≤ now ∧ now ≤ 9223372036854775807) (htab : Lib.TabIs Tryd.prog w "internal/strconv.uint64pow10" .u64 Lib.pow10Tab) (hs0 : j.nm.size + body.length ≤ 1048576) (hs1 : j1.nm.size + body1.length ≤ 1048576) :
    Calls Tryd.prog 3 #[.agg (j.cells (.slice a0 body.length q0)), .agg (j1.cells (.slice a1 body1.length q1)), .int .i64 file, .int .i64 now] w fun e w' => e = .returned (.bool true) ∧ Below w.heap.size w w' := by
  obtain ⟨i8, hi, hz0, hz1, hz2⟩ := info_parts info_byte1
  obtain ⟨m, hm⟩ : ∃ m, m = body.length := ⟨_, rfl⟩
  obtain ⟨C0, hC0⟩ : ∃ C, C = j.cells (.slice a0 m q0) := ⟨_, rfl⟩
  obtain ⟨C1, hC1⟩ : ∃ C, C = j1.cells (.slice a1 body1.length q1) := ⟨_, rfl⟩
  obtain ⟨D0, hD0⟩ : ∃ D, D = j.dict file now := ⟨_, rfl⟩
  obtain ⟨D1, hD1⟩ : ∃ D, D = j1.dict file now := ⟨_, rfl⟩
  have hml : m ≤ 1048576 := by omega
  have CT2 : Hid (∀ bv W, Below w.heap.size w W → Calls Tryd.prog 10 #[.agg (j.cells bv), .int .i64 file, .int .i64 now] W fun e w' => ∃ a c, e = .returned (.slice a D0.length c) ∧ Own w' W.heap.size (.slice a D0.length c) D0 ∧ Below W.heap.size W w') := fun bv W hb => by rw [hD0]; exact jobW j bv file now W (tab_below hb htab) h0.2 hf hn (by omega)
  have CT1 : Hid (∀ W, Below w.heap.size w W → Calls Tryd.prog 10 #[.agg C1, .int .i64 file, .int .i64 now] W fun e w' => ∃ a c, e = .returned (.slice a D1.length c) ∧ Own w' W.heap.size (.slice a D1.length c) D1 ∧ Below W.heap.size W w') := fun W hb => by rw [hC1, hD1]; exact jobW j1 _ file now W (tab_below hb htab) h1.2 hf hn (by omega)
  have CR0 : Hid (∀ W, Below w.heap.size w W → Calls Tryd.prog 8 #[.agg C0, .int .i64 file, .int .i64 now] W fun e w' => ∃ a c, e = .returned (.slice a D0.length c) ∧ NewB W w' a c D0 ∧ Below W.heap.size W w') := fun W _ => by rw [hC0, hD0]; exact refJobW j _ file now W h0.2 hf hn (by omega)
  have CR1 : Hid (∀ W, Below w.heap.size w W → Calls Tryd.prog 8 #[.agg C1, .int .i64 file, .int .i64 now] W fun e w' => ∃ a c, e = .returned (.slice a D1.length c) ∧ NewB W w' a c D1 ∧ Below W.heap.size W w') := fun W _ => by rw [hC1, hD1]; exact refJobW j1 _ file now W h1.2 hf hn (by omega)
  have CS : Hid (∀ W, Below w.heap.size w W → Calls Tryd.prog 7 #[] W fun e w' => e = .returned (.bool true) ∧ Below W.heap.size W w') := fun W hb => shown_any W (tab_below hb htab)
  have HD : Hid (D0.length ≤ 20000000 ∧ D1.length ≤ 20000000) := by rw [hD0, hD1]; exact ⟨j.dict_le file now h0.2 hf (by omega), j1.dict_le file now h1.2 hf (by omega)⟩
  have HC : Hid (C0.size = 16 ∧ C1.size = 16) := by rw [hC0, hC1]; exact ⟨rfl, rfl⟩
  have HE : Hid (C0 = j.cells (.slice a0 m q0)) := hC0
  have i0 : Hid ((Tryd.prog.info? 26).map (·.size) = some C0.size ∧ (Tryd.prog.info? 26).map (·.size) = some C1.size) := by rw [HC.out.1, HC.out.2]; exact ⟨info_job, info_job⟩
  have h1c : Hid (C0.all (·.oneCell') = true) := by show _ = _; rw [hC0]; exact job_one _ _ _ _
  have HB : Hid (IsBytes w a0 q0 body ∧ m = body.length) := ⟨h0.1, hm⟩
  obtain ⟨wA, hwA⟩ : ∃ wA, wA = (w.alloc (.cells C0 26)).alloc (.cells C1 26) := ⟨_, rfl⟩
  obtain ⟨b0, hb0⟩ : ∃ b0, b0 = w.heap.size := ⟨_, rfl⟩
  obtain ⟨b1, hb1⟩ : ∃ b1, b1 = w.heap.size + 1 := ⟨_, rfl⟩
  have A1 : Hid (Below w.heap.size w wA ∧ wA.heap[b0]? = some (.cells C0 26 (0, 0)) ∧ wA.heap[b1]? = some (.cells C1 26 (0, 0))) := by
    refine ⟨by rw [hwA]; exact ((Below.refl _ w).alloc (Nat.le_refl _) _).alloc (by simp) _, ?_, ?_⟩
    · rw [hwA, hb0, heap_alloc_old _ _ (by simp)]
      exact heap_alloc_new _ _
    · have := heap_alloc_new (w.alloc (.cells C0 26)) (.cells C1 26)
      rw [World.size_alloc, ← hwA] at this
      rw [hb1]
      exact this
  have HWA := hide (And.intro hwA (And.intro hb0 hb1))
  rw [← hm, ← hC0, ← hC1]
  clear hC0 hC1 hD0 hD1 hwA hb0 hb1 h0 h1 hs0 hs1 htab hf hn hm
  go_enter Tryd.func3, Tryd.ntmps3
  go_upto_region 1 with fail
  rw [← HWA.out.2.2, ← HWA.out.2.1, ← HWA.out.1]
  clear HWA
  go_wp2_with fail
  refine (CS.out _ A1.out.1).mono ?_
  rintro e w1 ⟨rfl, B1⟩
  obtain ⟨Hb, hHb⟩ : ∃ Hb, Hb = w1.heap.size := ⟨_, rfl⟩
  obtain ⟨w2, hw2⟩ : ∃ w2, w2 = w1.alloc (.cells #[.slice none 0 0, .slice none 0 0, .int .i64 0] 31) := ⟨_, rfl⟩
  obtain ⟨us0, hus0⟩ : ∃ us0 : List (Nat × Obj), us0 = [(b0, .cells C0 26 (0, 0)), (b1, .cells C1 26 (0, 0))] := ⟨_, rfl⟩
  have K2 : Hid (Bk w us0 (.int .i64 0) 0 (fun k => if k = Hb then .box else .user 0) Hb [] w2) := by
    rw [hw2, hHb]
    refine Bk.start w us0 w1 _ (A1.out.1.trans (B1.mono A1.out.1.size)) (fun p hp => ?_)
    rw [hus0] at hp
    have hp2 : p = (b0, .cells C0 26 (0, 0)) ∨ p = (b1, .cells C1 26 (0, 0)) := by simpa using hp
    rcases hp2 with rfl | rfl
    · exact (B1.block b0 (blk_lt A1.out.2.1)).trans A1.out.2.1
    · exact (B1.block b1 (blk_lt A1.out.2.2)).trans A1.out.2.2
  have M0 : Hid (((b0, .cells C0 26 (0, 0)) : Nat × Obj) ∈ us0 ∧ ((b1, .cells C1 26 (0, 0)) : Nat × Obj) ∈ us0) := by show _ ∧ _; rw [hus0]; simp
  have HW2 := hide (And.intro hHb hw2)
  clear hHb hw2 B1 hus0
  have g2 : Hid (w2.heap[b0]? = some (.cells C0 26 (0, 0))) := (K2.out.usr _ M0.out.1).1
  have c15 : w2.cell? ⟨b0, 15, none⟩ = some (.slice a0 m q0) := by rw [cell_of_row _ _ 15 C0 _ (0, 0) g2.out, HE.out]; rfl
  obtain ⟨ob, hob⟩ : ∃ ob, ob = w2.heap.size := ⟨_, rfl⟩
  obtain ⟨w3, hw3⟩ : ∃ w3, w3 = w2.alloc (.cells (madeCells #[.int .u8 0] (m + 3)) 5) := ⟨_, rfl⟩
  have B3 : Hid (Below w2.heap.size w2 w3 ∧ ByteRow w3 5 ob (List.replicate (m + 3) 0)) := by
    rw [hw3, hob]
    exact ⟨(Below.refl _ w2).alloc (Nat.le_refl _) _, made_row w2 (m + 3)⟩
  have d15 : w3.cell? ⟨b0, 15, none⟩ = some (.slice a0 m q0) := below_cell B3.out.1 c15
  have HW3 := hide (And.intro hob hw3)
  clear hob hw3
  go_upto_region 3 with fail
  rw [← HW2.out.1, ← HW2.out.2]
  clear HW2
  go_upto_region 4 with (refine wpList_make_row _ rfl (.tmp 26) (.tmp 26) 24 rfl 5 i8 (.int .u8 0) Tryd.underlying24 hi hz0 hz1 rfl .i64 .i64 (m + 3) rfl rfl (by rw [hz2]; omega) (by omega) ?_)
  rw [← HW3.out.1, ← HW3.out.2]
  have HOB := hide HW3.out.1
  clear HW3 c15
  have HI3 : Hid (IsBytes w3 a0 q0 body) := HB.out.1.below (K2.out.below.trans (B3.out.1.mono K2.out.below.size))
  go_upto_region 5 with (refine wpList_copy_splice rfl (.tmp 28) (.tmp 30) 24 24 rfl 5 Tryd.underlying24 (by kernel_rfl) _ _ _ _ _ _ rfl rfl ob 0 _ 5 B3.out.2 (u8s body) (by rw [u8s_length, ← HB.out.2]; simp [Nat.min_def]) (fun _ => ⟨rfl, HI3.out.source (by have := ‹0 < (u8s body).length›; rw [u8s_length] at this; exact this)⟩) (by rw [u8s_length, u8s_length, ← HB.out.2]; simp) (u8s_one body) w2.heap.size w2 B3.out.1 (by rw [HOB.out]; exact Nat.le_refl _) ?_; intro w4 HG4 HB4)
  have B4 : Hid (Below w2.heap.size w2 w4 ∧ ByteRow w4 5 ob (body ++ [0, 0, 0])) := by
    refine ⟨HB4, ?_⟩
    show w4.heap[ob]? = _
    rw [HG4.out, u8s_splice, lent3 body m HB.out.2.symm]
  clear HG4 HB4 d15 HI3 B3
  have g4 : Hid (w4.heap[b0]? = some (.cells C0 26 (0, 0))) := (B4.out.1.block b0 (blk_lt g2.out)).trans g2.out
  obtain ⟨ib, hib⟩ : ∃ ib, ib = w4.heap.size := ⟨_, rfl⟩
  obtain ⟨w5, hw5⟩ : ∃ w5, w5 = w4.alloc (.cells C0 26) := ⟨_, rfl⟩
  have hh5 : w5.heap[ib]? = some (.cells C0 26 (0, 0)) := by rw [hw5, hib]; exact heap_alloc_new w4 _
  have i15 : w5.cell? ⟨ib, 15, none⟩ = some (.slice a0 m q0) := by rw [cell_of_row _ _ 15 C0 _ (0, 0) hh5, HE.out]; rfl
  have f15 : w5.frozen? ⟨ib, 15, none⟩ = false := by simp [World.frozen?, hh5]
  have B45 : Below w4.heap.size w4 w5 := by rw [hw5]; exact (Below.refl _ w4).alloc (Nat.le_refl _) _
  have y15 : w5.cell? ⟨b0, 15, none⟩ = some (.slice a0 m q0) := by rw [cell_of_row _ _ 15 C0 _ (0, 0) ((B45.block b0 (blk_lt g4.out)).trans g4.out), HE.out]; rfl
  obtain ⟨C2, hC2⟩ : ∃ C2, C2 = j.cells (.slice (some ⟨ob, 0, none⟩) m (m + 3)) := ⟨_, rfl⟩
  obtain ⟨w6, hw6⟩ : ∃ w6, w6 = w5.setCell ⟨ib, 15, none⟩ (.slice (some ⟨ob, 0, none⟩) m (m + 3)) := ⟨_, rfl⟩
  have k6 : Below w2.heap.size w2 w6 ∧ w6.heap[ib]? = some (.cells C2 26 (0, 0)) ∧ ByteRow w6 5 ob (body ++ [0, 0, 0]) := by
    obtain ⟨s1, s2⟩ := set_cells hh5 15 (.slice (some ⟨ob, 0, none⟩) m (m + 3))
    rw [← hw6] at s1 s2
    have hs4 := B4.out.1.size
    have hlo := B4.out.2.lt
    have B25 := B4.out.1.trans (B45.mono B4.out.1.size)
    refine ⟨B25.grown s2 B25.size (fun g e => by cases e; rw [hib]; exact hs4), ?_, ?_⟩
    · rw [s1, HE.out, hC2]
      rfl
    · have h5 := B4.out.2.below B45 hlo
      exact h5.grown s2 (by rw [hib]; omega)
  obtain ⟨us1, hus1⟩ : ∃ us1 : List (Nat × Obj), us1 = [(ob, .cells (u8s (body ++ [0, 0, 0])).toArray 5 (0, 0)), (ib, .cells C2 26 (0, 0))] ++ us0 := ⟨_, rfl⟩
  have KK := K2.out.more (vs := [(ob, .cells (u8s (body ++ [0, 0, 0])).toArray 5 (0, 0)), (ib, .cells C2 26 (0, 0))]) k6.1 (fun p hp => by
    have hp2 : p = (ob, .cells (u8s (body ++ [0, 0, 0])).toArray 5 (0, 0)) ∨ p = (ib, .cells C2 26 (0, 0)) := by simpa using hp
    rcases hp2 with rfl | rfl
    · exact ⟨k6.2.2, by rw [HOB.out]; exact Nat.le_refl _⟩
    · exact ⟨k6.2.1, by simp only []; rw [hib]; exact B4.out.1.size⟩)
  rw [← hus1] at KK
  obtain ⟨lab6, hlab6⟩ : ∃ lab6 : Nat → Tag, lab6 = fun k => if k < w2.heap.size then (fun k => if k = Hb then .box else .user 0) k else .user 0 := ⟨_, rfl⟩
  rw [← hlab6] at KK
  have K6 := hide KK
  have M6 : Hid (((b0, .cells C0 26 (0, 0)) : Nat × Obj) ∈ us1 ∧ ((b1, .cells C1 26 (0, 0)) : Nat × Obj) ∈ us1 ∧ ((ib, .cells C2 26 (0, 0)) : Nat × Obj) ∈ us1 ∧ ((ob, .cells (u8s (body ++ [0, 0, 0])).toArray 5 (0, 0)) : Nat × Obj) ∈ us1) := by
    rw [hus1]
    exact ⟨List.mem_append_right _ M0.out.1, List.mem_append_right _ M0.out.2, by simp, by simp⟩
  have CT0 : Hid (∀ W, Below w.heap.size w W → Calls Tryd.prog 10 #[.agg C2, .int .i64 file, .int .i64 now] W fun e w' => ∃ a c, e = .returned (.slice a D0.length c) ∧ Own w' W.heap.size (.slice a D0.length c) D0 ∧ Below W.heap.size W w') := by
    rw [hC2]
    exact CT2.out _
  have i2 : Hid ((Tryd.prog.info? 26).map (·.size) = some C2.size) := by show _ = _; rw [hC2]; exact info_job
  have HW5 := hide (And.intro hw5 (And.intro hib hw6))
  clear hw5 hw6 hib hC2 k6 hus1 KK hlab6 K2 M0 CT2 hh5 B45 B4
  go_upto_region 6 with (first
    | (refine wpList_load_row rfl 26 (.tmp 4) rfl b0 rfl 26 C0 (0, 0) _ g4.out Tryd.underlying26 rfl i0.out.1 ?_)
    | (refine store_newJ rfl 26 (.tmp 12) (.tmp 32) rfl C0 (by rfl) (by rfl) 26 _ i0.out.1 (by rw [HC.out.1]; rfl) h1c.out ?_; rw [← HW5.out.2.1, ← HW5.out.1]))
  go_upto_region 7 with fail
  rw [← HW5.out.2.2]
  clear HW5 i15 f15 y15 g2 g4
  go_upto_region 8 with (first
    | (refine wpList_load_row rfl 26 (.tmp 4) rfl b0 rfl 26 C0 (0, 0) _ (K6.out.usr _ M6.out.1).1 Tryd.underlying26 rfl i0.out.1 ?_)
    | (go_at_call 8; refine (CR0.out _ K6.out.below).mono ?_; rintro e w7 ⟨a9, c9, rfl, n7, b7⟩; have N7 := hide (And.intro n7 b7); clear n7 b7))
  obtain ⟨vs, hvs1, hvs2⟩ := Wn.ofNew N7.out.1
  obtain ⟨us, hus⟩ : ∃ us, us = vs ++ us1 := ⟨_, rfl⟩
  have M1 : Hid (((b0, .cells C0 26 (0, 0)) : Nat × Obj) ∈ us ∧ ((b1, .cells C1 26 (0, 0)) : Nat × Obj) ∈ us ∧ ((ib, .cells C2 26 (0, 0)) : Nat × Obj) ∈ us ∧ ((ob, .cells (u8s (body ++ [0, 0, 0])).toArray 5 (0, 0)) : Nat × Obj) ∈ us) := by
    rw [hus]
    exact ⟨List.mem_append_right _ M6.out.1, List.mem_append_right _ M6.out.2.1, List.mem_append_right _ M6.out.2.2.1, List.mem_append_right _ M6.out.2.2.2⟩
  have WN : Hid (Wn us a9 c9 D0) := by rw [hus]; exact fun X hX => hvs1 X (fun p hp => hX p (List.mem_append_left _ hp))
  have k7 := K6.out.more N7.out.2 hvs2
  rw [← hus] at k7
  obtain ⟨lab7, hlab7⟩ : ∃ lab7 : Nat → Tag, lab7 = fun k => if k < w6.heap.size then lab6 k else .user 0 := ⟨_, rfl⟩
  rw [← hlab7] at k7
  have K7 := hide k7
  clear k7 hlab7 hus hvs1 hvs2 N7 K6 M6
  go_upto_region 9 with (first
    | (refine wpList_load_row rfl 26 (.tmp 12) rfl ib rfl 26 C2 (0, 0) _ (K7.out.usr _ M1.out.2.2.1).1 Tryd.underlying26 rfl i2.out ?_)
    | (go_at_call 10; refine (CT0.out _ K7.out.below).mono ?_; rintro e x8 ⟨a8, c8, rfl, o8, b8⟩; have O8 := hide (And.intro o8 b8); clear o8 b8)
    | (go_at_call 9; refine (K7.out.keep O8.out.2 (Below.refl _ _) O8.out.1 (.inl WN.out) (by have := HD.out.1; omega) (by simp)).mono ?_; rintro e w8 ⟨rfl, lab8, cw8, k8⟩; have K8 := hide k8; clear k8))
  have s9 : w8.drew.heap[b1]? = some (.cells C1 26 (0, 0)) := (K8.out.usr _ M1.out.2.1).1
  refine wp_region_held_drew (S := fun X => X.heap[b1]? = some (.cells C1 26 (0, 0))) (by kernel_rfl) s9 (fun _ => ?_)
  have K9 := hide (K8.out.later (Below.refl _ w8).drew)
  obtain ⟨x9, hx9⟩ : ∃ x9, x9 = w8.drew := ⟨_, rfl⟩
  rw [← hx9] at s9 K9 ⊢
  clear hx9 K8
  refine H_take (i := 0) (v := .pointer (some ⟨Hb, 0, none⟩)) (some 50) rfl rfl (by kernel_rfl) (by kernel_rfl) (by kernel_rfl) (fun _ _ _ h => h) rfl (fun X hX => ?_) s9 ?_
  · simp [go_sem]
  simp only [Act.put, List.setIfInBounds_toArray, List.set_cons_zero, List.set_cons_succ]
  refine H_take (i := 1) (v := .agg C1) (some 51) rfl rfl (by kernel_rfl) (by kernel_rfl) (by kernel_rfl) (fun _ _ _ h => h) rfl (fun X hX => ?_) s9 ?_
  · exact run_loadRow rfl rfl hX Tryd.underlying26 rfl i0.out.2
  simp only [Act.put, List.setIfInBounds_toArray, List.set_cons_zero, List.set_cons_succ]
  refine H_take (i := 2) (v := .int .i64 file) (some 52) rfl rfl (by kernel_rfl) (by kernel_rfl) (by kernel_rfl) (fun _ _ _ h => h) rfl (fun X hX => ?_) s9 ?_
  · simp [go_sem]
  simp only [Act.put, List.setIfInBounds_toArray, List.set_cons_zero, List.set_cons_succ]
  refine H_take (i := 3) (v := .int .i64 now) (some 53) rfl rfl (by kernel_rfl) (by kernel_rfl) (by kernel_rfl) (fun _ _ _ h => h) rfl (fun X hX => ?_) s9 ?_
  · simp [go_sem]
  simp only [Act.put, List.setIfInBounds_toArray, List.set_cons_zero, List.set_cons_succ]
  refine H_take (i := 5) (v := .agg C1) (some 55) rfl rfl (by kernel_rfl) (by kernel_rfl) (by kernel_rfl) (fun _ _ _ h => h) rfl (fun X hX => ?_) s9 ?_
  · exact run_loadRow rfl rfl hX Tryd.underlying26 rfl i0.out.2
  simp only [Act.put, List.setIfInBounds_toArray, List.set_cons_zero, List.set_cons_succ]
  refine H_take (i := 6) (v := .int .i64 file) (some 56) rfl rfl (by kernel_rfl) (by kernel_rfl) (by kernel_rfl) (fun _ _ _ h => h) rfl (fun X hX => ?_) s9 ?_
  · simp [go_sem]
  simp only [Act.put, List.setIfInBounds_toArray, List.set_cons_zero, List.set_cons_succ]
  refine H_take (i := 7) (v := .int .i64 now) (some 57) rfl rfl (by kernel_rfl) (by kernel_rfl) (by kernel_rfl) (fun _ _ _ h => h) rfl (fun X hX => ?_) s9 ?_
  · simp [go_sem]
  simp only [Act.put, List.setIfInBounds_toArray, List.set_cons_zero, List.set_cons_succ]
  refine H_call (i := 4) (f := 10) (args := #[.agg C1, .int .i64 file, .int .i64 now]) (some 54) rfl rfl (by kernel_rfl) rfl (by simp [go_sem]) ((CT1.out x9 K9.out.below).mono ?_)
  rintro e x10 ⟨a10, c10, rfl, o10, b10⟩
  have s10 : x10.heap[b1]? = some (.cells C1 26 (0, 0)) := (b10.block b1 (blk_lt s9)).trans s9
  have O10 := hide (And.intro o10 b10)
  refine ⟨_, rfl, s10, ?_⟩
  clear s9 o10 b10
  simp only [Act.put, List.setIfInBounds_toArray, List.set_cons_zero, List.set_cons_succ]
  refine H_call (i := 8) (f := 8) (args := #[.agg C1, .int .i64 file, .int .i64 now]) (some 58) rfl rfl (by kernel_rfl) rfl (by simp [go_sem]) ((CR1.out x10 (K9.out.below.trans (O10.out.2.mono K9.out.below.size))).mono ?_)
  rintro e x11 ⟨a11, c11, rfl, n11, b11⟩
  have s11 : x11.heap[b1]? = some (.cells C1 26 (0, 0)) := (b11.block b1 (blk_lt s10)).trans s10
  have N11 := hide (And.intro n11 b11)
  refine ⟨_, rfl, s11, ?_⟩
  clear s10 n11 b11
  simp only [Act.put, List.setIfInBounds_toArray, List.set_cons_zero, List.set_cons_succ]
  refine H_call (i := 9) (f := 9) (args := #[.pointer (some ⟨Hb, 0, none⟩), .slice a10 D1.length c10, .slice a11 D1.length c11]) (some 59) rfl rfl (by kernel_rfl) rfl (by simp [go_sem]) ((K9.out.keep O10.out.2 N11.out.2 O10.out.1 (.inr N11.out.1) (by have := HD.out.2; omega) (by simp)).mono ?_)
  rintro e w12 ⟨rfl, lab12, cw12, k12⟩
  have s12 : w12.heap[b1]? = some (.cells C1 26 (0, 0)) := (k12.usr _ M1.out.2.1).1
  have K12 := hide k12
  refine ⟨_, rfl, s12, ?_⟩
  clear s11 k12 K9 O10 N11
  simp only [Act.put, List.setIfInBounds_toArray, List.set_cons_zero, List.set_cons_succ]
  refine H_take (i := 10) (v := .bool true) (some 15) rfl rfl (by kernel_rfl) (by kernel_rfl) (by kernel_rfl) (fun _ _ _ h => h) rfl (fun X hX => ?_) s12 ?_
  · simp [go_sem]
  simp only [Act.put, List.setIfInBounds_toArray, List.set_cons_zero, List.set_cons_succ]
  refine wpAnyH_done (by kernel_rfl) ?_ _
  clear s12
  go_upto_region 11 with (first
    | (refine wpList_load_row rfl 26 (.tmp 12) rfl ib rfl 26 C2 (0, 0) _ (K12.out.usr _ M1.out.2.2.1).1 Tryd.underlying26 rfl i2.out ?_)
    | (go_at_call 10; refine (CT0.out _ K12.out.below).mono ?_; rintro e x13 ⟨a13, c13, rfl, o13, b13⟩; have O13 := hide (And.intro o13 b13); clear o13 b13)
    | (go_at_call 9; refine (K12.out.keep O13.out.2 (Below.refl _ _) O13.out.1 (.inl WN.out) (by have := HD.out.1; omega) (by simp)).mono ?_; rintro e w13 ⟨rfl, lab13, cw13, k13⟩; have K13 := hide k13; clear k13))
  have BL : Hid (∀ (j : Nat) e, (([] ++ [⟨.slice a8 D0.length c8, cw8, D0⟩] ++ [⟨.slice a10 D1.length c10, cw12, D1⟩] ++ [⟨.slice a13 D0.length c13, cw13, D0⟩] : List Ent))[j]? = some e → e.bytes.length ≤ 4294967296) := by
    intro j e he
    have hm := List.mem_of_getElem? he
    have h2 : e = ⟨.slice a8 D0.length c8, cw8, D0⟩ ∨ e = ⟨.slice a10 D1.length c10, cw12, D1⟩ ∨ e = ⟨.slice a13 D0.length c13, cw13, D0⟩ := by simpa using hm
    have := HD.out
    rcases h2 with rfl | rfl | rfl <;> simp only [] <;> omega
  obtain ⟨T1, hT1⟩ : ∃ T1 : ByteArray, T1 = ⟨(body ++ [0, 0, 0]).toArray⟩ := ⟨_, rfl⟩
  obtain ⟨T2, hT2⟩ : ∃ T2 : ByteArray, T2 = ⟨body.toArray⟩ := ⟨_, rfl⟩
  have gB : w13.heap[b0]? = some (.cells C0 26 (0, 0)) := (K13.out.usr _ M1.out.1).1
  have z15 : w13.cell? ⟨b0, 15, none⟩ = some (.slice a0 m q0) := by rw [cell_of_row _ _ 15 C0 _ (0, 0) gB, HE.out]; rfl
  have kt1 : (convert 24 9 (.slice (some ⟨ob, 0, none⟩) (m + 3) (m + 3))).run Tryd.prog w13 = .ok (.string T1) w13 := by
    have hr : ByteRow w13 5 ob (body ++ [0, 0, 0]) := (K13.out.usr _ M1.out.2.2.2).1
    have hi : IsBytes w13 (some ⟨ob, 0, none⟩) (m + 3) (body ++ [0, 0, 0]) := by
      refine ⟨by simp [HB.out.2], by unfold maxLen; omega, .inr ⟨ob, 0, rfl, hr.lt, fun j x hx => ?_⟩⟩
      rw [Nat.zero_add]
      exact hr.cell j x hx
    rw [hT1]
    exact conv_is hi (by simp [HB.out.2])
  have kt2 : (convert 24 9 (.slice a0 m q0)).run Tryd.prog w13 = .ok (.string T2) w13 := by
    rw [hT2]
    exact conv_is (HB.out.1.below K13.out.below) HB.out.2.symm
  have hcc : (T1.toList == (T2 ++ (⟨#[0, 0, 0]⟩ : ByteArray)).toList) = true := by
    rw [beq_iff_eq, ByteArray.toList_eq, ByteArray.toList_eq, hT1, hT2]
    simp
  have hT2s : T2.size ≤ 1048576 := by rw [hT2]; simp [ByteArray.size]; rw [← HB.out.2]; exact hml
  clear hT1 hT2 gB
  go_upto_region 12 with fail
  clear kt1 kt2 z15
  go_upto_region 13 with (go_at_call 11; refine (K13.out.spoil (by simp) BL.out).mono ?_; rintro e w14 ⟨rfl, fv14, n14, lab14, es14, k14, l14⟩; have K14 := hide k14; clear k14)
  have L14 : Hid (es14.length ≤ 1073741824) := by show _ ≤ _; rw [l14]; simp
  clear l14 BL K13
  go_upto_region 14 with (first
    | (refine wpList_load_row rfl 26 (.tmp 12) rfl ib rfl 26 C2 (0, 0) _ (K14.out.usr _ M1.out.2.2.1).1 Tryd.underlying26 rfl i2.out ?_)
    | (go_at_call 10; refine (CT0.out _ K14.out.below).mono ?_; rintro e x15 ⟨a15, c15, rfl, o15, b15⟩; have O15 := hide (And.intro o15 b15); clear o15 b15)
    | (go_at_call 9; refine (K14.out.keep O15.out.2 (Below.refl _ _) O15.out.1 (.inl WN.out) (by have := HD.out.1; omega) L14.out).mono ?_; rintro e w15 ⟨rfl, lab15, cw15, k15⟩; have K15 := hide k15; clear k15))
  go_wp2_with fail
  go_ret
  exact ⟨rfl, K15.out.below⟩
end Go.Proofs.YthapbnlcodkalaaDoor.figuresJobs
