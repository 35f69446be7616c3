/-
  Layer 13: the document's Tube.
-/
import Derived.Test.YthapbnlcodkalaaDoorFigTube
namespace Go.Proofs.YthapbnlcodkalaaDoor
open Go.RowKit Go.Sort

set_option maxHeartbeats 2000000 in
set_option maxRecDepth 1000000 in
theorem refnum_any (k : ByteArray) (n : Int) (w : World) (hn : I64 n) : Calls Tryd.prog 21 #[.string k, .int .i64 n] w fun e w' => e = .returned (.agg #[.string k, .string (prS n)]) ∧ Below w.heap.size w w' := by
  have HP : Hid (∀ W, Calls Tryd.prog 38 #[.int .i64 n] W fun e w' => e = .returned (.string (prS n)) ∧ Below W.heap.size W w') := fun W => refPrint_any n W hn.1 hn.2
  clear hn
  go_enter Tryd.func21, Tryd.ntmps21
  go_wp2_with (first
    | (go_at_call 38; refine (HP.out _).mono ?_; rintro e w2 ⟨rfl, B2⟩
       have R2 : Hid (w2.heap[w.heap.size]? = some (.cells #[.string ⟨#[]⟩, .string ⟨#[]⟩] 52 (0, 0)) ∧ Below w.heap.size w w2) := ⟨(B2.block _ (by simp)).trans (heap_alloc_new w _), ((Below.refl _ w).alloc (Nat.le_refl _) _).trans (B2.mono (by simp))⟩
       clear B2)
    | (refine wpList_store_row rfl 52 (.tmp 4) (.tmp 8) rfl w.heap.size #[.string k, .string (prS n)] rfl rfl 52 #[.string ⟨#[]⟩, .string ⟨#[]⟩] R2.out.1 (by kernel_rfl) rfl (by simp [Value.oneCell']) ?_))
  refine bodyPost_ret (results_cell_row rfl _ _ w.heap.size 52 _ (0, 0) _ rfl (setRow_heap _ _ _ _ _ _ R2.out.1) Tryd.underlying52 rfl (by kernel_rfl)) rfl ?_
  exact ⟨rfl, below_setRow R2.out.2 (Nat.le_refl _) _⟩
theorem refless_any (a b : Int) (w : World) : Calls Tryd.prog 19 #[.int .i64 a, .int .i64 b] w fun e w' => e = .returned (.int .i64 (lessI a b)) ∧ w' = w := by
  by_cases h : a ≤ b
  · go_enter Tryd.func19, Tryd.ntmps19
    go_wp2_with fail
    go_ret
    exact ⟨by rw [lessI, if_pos h]; rfl, rfl⟩
  · go_enter Tryd.func19, Tryd.ntmps19
    go_wp2_with fail
    go_ret
    exact ⟨by rw [lessI, if_neg (by omega)]; rfl, rfl⟩
set_option maxHeartbeats 2000000 in
set_option maxRecDepth 1000000 in
theorem reftold_any (a : Option Addr) (c : Nat) (ps : List BP) (w : World) (h : IsPairs w a c ps) (hb : (dictL (ps.map un)).length < 140737488355328) :
    Calls Tryd.prog 20 #[.slice a ps.length c] w fun e w' => ∃ a2 c2, e = .returned (.slice a2 (if dictE (ps.map un) = 0 then dictL (ps.map un) else []).length c2) ∧ NewB w w' a2 c2 (if dictE (ps.map un) = 0 then dictL (ps.map un) else []) ∧ Below w.heap.size w w' := by
  obtain ⟨D, hD⟩ : ∃ D, D = (if dictE (ps.map un) = 0 then dictL (ps.map un) else []) := ⟨_, rfl⟩
  obtain ⟨er, her⟩ : ∃ er, er = dictE (ps.map un) := ⟨_, rfl⟩
  have CD : Hid (Calls Tryd.prog 35 #[.slice a ps.length c] w fun e w' => ∃ a2 c2, e = .returned (.tuple #[.slice a2 D.length c2, .int .i64 er]) ∧ NewB w w' a2 c2 D ∧ Below w.heap.size w w') := by
    rw [hD, her]
    exact refDict_any a c ps w h hb
  rw [← hD]
  by_cases h0 : er = 0
  · subst h0
    clear h hb hD her
    go_enter Tryd.func20, Tryd.ntmps20
    go_wp2_with (go_at_call 35; refine CD.out.mono ?_; rintro e w2 ⟨a2, c2, rfl, i2, B2⟩; have H2 := hide (And.intro i2 B2); clear i2 B2)
    go_ret
    exact ⟨a2, c2, rfl, H2.out.1, H2.out.2⟩
  · have hD0 : D = [] := by rw [hD, if_neg (by rw [← her]; exact h0)]
    have hne : (er != 0) = true := by simpa using h0
    subst hD0
    clear h hb hD her h0
    go_enter Tryd.func20, Tryd.ntmps20
    go_wp2_with (go_at_call 35; refine CD.out.mono ?_; rintro e w2 ⟨a2, c2, rfl, i2, B2⟩; have H2 := hide (And.intro i2 B2); clear i2 B2)
    go_ret
    exact ⟨none, 0, rfl, NewB.nil _ _, H2.out.2⟩
theorem below_cell {W W' : World} (hb : Below W.heap.size W W') {p : Addr} {v : Value} (hc : W.cell? p = some v) : W'.cell? p = some v := (hb.cell (p := p) (cell_lt hc)).trans hc
set_option maxHeartbeats 4000000 in
set_option maxRecDepth 1000000 in
theorem refsums_any (r d v b u : Int) (w : World) (hr : I64 r) (hd : I64 d) (hv : I64 v) (hbn : I64 b) (hu : I64 u) :
    Calls Tryd.prog 28 #[.agg #[.int .i64 r, .int .i64 d, .int .i64 v, .int .i64 b, .int .i64 u]] w fun e w' => ∃ a, e = .returned (.slice a 5 5) ∧ w'.ownsRow w.heap.size 52 2 (.slice a 5 5) 5 (cellsP (sumsP r d v b u)) ∧ Below w.heap.size w w' := by
  obtain ⟨w1, hw1⟩ : ∃ w1, w1 = w.alloc (.cells #[.int .i64 r, .int .i64 d, .int .i64 v, .int .i64 b, .int .i64 u] 36) := ⟨_, rfl⟩
  obtain ⟨sb, hsb⟩ : ∃ sb, sb = w.heap.size := ⟨_, rfl⟩
  have hblk : w1.heap[sb]? = some (.cells #[.int .i64 r, .int .i64 d, .int .i64 v, .int .i64 b, .int .i64 u] 36 (0, 0)) := by rw [hw1, hsb]; exact heap_alloc_new w _
  have x0 : w1.cell? ⟨sb, 0, none⟩ = some (.int .i64 r) := cell_of_row w1 sb 0 _ _ (0, 0) hblk
  have x1 : w1.cell? ⟨sb, 1, none⟩ = some (.int .i64 d) := cell_of_row w1 sb 1 _ _ (0, 0) hblk
  have x2 : w1.cell? ⟨sb, 2, none⟩ = some (.int .i64 v) := cell_of_row w1 sb 2 _ _ (0, 0) hblk
  have x3 : w1.cell? ⟨sb, 3, none⟩ = some (.int .i64 b) := cell_of_row w1 sb 3 _ _ (0, 0) hblk
  have x4 : w1.cell? ⟨sb, 4, none⟩ = some (.int .i64 u) := cell_of_row w1 sb 4 _ _ (0, 0) hblk
  have B1 : Hid (Below w.heap.size w w1) := by show Below _ _ _; rw [hw1]; exact (Below.refl _ w).alloc (Nat.le_refl _) _
  have NU : Hid (∀ W, Calls Tryd.prog 21 #[.string kUrgent, .int .i64 u] W fun e w' => e = .returned (.agg #[.string kUrgent, .string (prS u)]) ∧ Below W.heap.size W w') := fun W => refnum_any kUrgent u W hu
  have NR : Hid (∀ W, Calls Tryd.prog 21 #[.string kReady, .int .i64 r] W fun e w' => e = .returned (.agg #[.string kReady, .string (prS r)]) ∧ Below W.heap.size W w') := fun W => refnum_any kReady r W hr
  have NV : Hid (∀ W, Calls Tryd.prog 21 #[.string kReserved, .int .i64 v] W fun e w' => e = .returned (.agg #[.string kReserved, .string (prS v)]) ∧ Below W.heap.size W w') := fun W => refnum_any kReserved v W hv
  have ND : Hid (∀ W, Calls Tryd.prog 21 #[.string kDelayed, .int .i64 d] W fun e w' => e = .returned (.agg #[.string kDelayed, .string (prS d)]) ∧ Below W.heap.size W w') := fun W => refnum_any kDelayed d W hd
  have NB : Hid (∀ W, Calls Tryd.prog 21 #[.string kBuried, .int .i64 b] W fun e w' => e = .returned (.agg #[.string kBuried, .string (prS b)]) ∧ Below W.heap.size W w') := fun W => refnum_any kBuried b W hbn
  have HW := hide (And.intro hw1 hsb)
  clear hr hd hv hbn hu hw1 hsb hblk
  go_enter Tryd.func28, Tryd.ntmps28
  go_upto_region 1 with fail
  rw [← HW.out.1, ← HW.out.2]
  clear HW
  go_region_held3 (fun X => X.cell? ⟨sb, 0, none⟩ = some (.int .i64 r) ∧ X.cell? ⟨sb, 1, none⟩ = some (.int .i64 d) ∧ X.cell? ⟨sb, 2, none⟩ = some (.int .i64 v) ∧ X.cell? ⟨sb, 3, none⟩ = some (.int .i64 b) ∧ X.cell? ⟨sb, 4, none⟩ = some (.int .i64 u))
    (first | exact ⟨x0, x1, x2, x3, x4⟩ | assumption | exact ⟨below_cell ((Below.refl _ w6).alloc (Nat.le_refl _) _) y6.1, below_cell ((Below.refl _ w6).alloc (Nat.le_refl _) _) y6.2.1, below_cell ((Below.refl _ w6).alloc (Nat.le_refl _) _) y6.2.2.1, below_cell ((Below.refl _ w6).alloc (Nat.le_refl _) _) y6.2.2.2.1, below_cell ((Below.refl _ w6).alloc (Nat.le_refl _) _) y6.2.2.2.2⟩)
    (first
      | (go_at_call 21; refine (NB.out _).mono ?_; rintro e w6 ⟨rfl, b6⟩
         have H6 := hide (show Below w5.heap.size w5 w6 from b6)
         have y6 : w6.cell? ⟨sb, 0, none⟩ = some (.int .i64 r) ∧ w6.cell? ⟨sb, 1, none⟩ = some (.int .i64 d) ∧ w6.cell? ⟨sb, 2, none⟩ = some (.int .i64 v) ∧ w6.cell? ⟨sb, 3, none⟩ = some (.int .i64 b) ∧ w6.cell? ⟨sb, 4, none⟩ = some (.int .i64 u) := ⟨below_cell H6.out y5.1, below_cell H6.out y5.2.1, below_cell H6.out y5.2.2.1, below_cell H6.out y5.2.2.2.1, below_cell H6.out y5.2.2.2.2⟩
         clear b6)
      | (go_at_call 21; refine (ND.out _).mono ?_; rintro e w5 ⟨rfl, b5⟩
         have H5 := hide (show Below w4.heap.size w4 w5 from b5)
         have y5 : w5.cell? ⟨sb, 0, none⟩ = some (.int .i64 r) ∧ w5.cell? ⟨sb, 1, none⟩ = some (.int .i64 d) ∧ w5.cell? ⟨sb, 2, none⟩ = some (.int .i64 v) ∧ w5.cell? ⟨sb, 3, none⟩ = some (.int .i64 b) ∧ w5.cell? ⟨sb, 4, none⟩ = some (.int .i64 u) := ⟨below_cell H5.out y4.1, below_cell H5.out y4.2.1, below_cell H5.out y4.2.2.1, below_cell H5.out y4.2.2.2.1, below_cell H5.out y4.2.2.2.2⟩
         clear b5)
      | (go_at_call 21; refine (NV.out _).mono ?_; rintro e w4 ⟨rfl, b4⟩
         have H4 := hide (show Below w3.heap.size w3 w4 from b4)
         have y4 : w4.cell? ⟨sb, 0, none⟩ = some (.int .i64 r) ∧ w4.cell? ⟨sb, 1, none⟩ = some (.int .i64 d) ∧ w4.cell? ⟨sb, 2, none⟩ = some (.int .i64 v) ∧ w4.cell? ⟨sb, 3, none⟩ = some (.int .i64 b) ∧ w4.cell? ⟨sb, 4, none⟩ = some (.int .i64 u) := ⟨below_cell H4.out y3.1, below_cell H4.out y3.2.1, below_cell H4.out y3.2.2.1, below_cell H4.out y3.2.2.2.1, below_cell H4.out y3.2.2.2.2⟩
         clear b4)
      | (go_at_call 21; refine (NR.out _).mono ?_; rintro e w3 ⟨rfl, b3⟩
         have H3 := hide (show Below w2.heap.size w2 w3 from b3)
         have y3 : w3.cell? ⟨sb, 0, none⟩ = some (.int .i64 r) ∧ w3.cell? ⟨sb, 1, none⟩ = some (.int .i64 d) ∧ w3.cell? ⟨sb, 2, none⟩ = some (.int .i64 v) ∧ w3.cell? ⟨sb, 3, none⟩ = some (.int .i64 b) ∧ w3.cell? ⟨sb, 4, none⟩ = some (.int .i64 u) := ⟨below_cell H3.out y2.1, below_cell H3.out y2.2.1, below_cell H3.out y2.2.2.1, below_cell H3.out y2.2.2.2.1, below_cell H3.out y2.2.2.2.2⟩
         clear b3)
      | (go_at_call 21; refine (NU.out _).mono ?_; rintro e w2 ⟨rfl, b2⟩
         have H2 := hide (show Below w1.heap.size w1 w2 from (Below.refl _ w1).drew.trans b2)
         have y2 : w2.cell? ⟨sb, 0, none⟩ = some (.int .i64 r) ∧ w2.cell? ⟨sb, 1, none⟩ = some (.int .i64 d) ∧ w2.cell? ⟨sb, 2, none⟩ = some (.int .i64 v) ∧ w2.cell? ⟨sb, 3, none⟩ = some (.int .i64 b) ∧ w2.cell? ⟨sb, 4, none⟩ = some (.int .i64 u) := ⟨below_cell H2.out x0, below_cell H2.out x1, below_cell H2.out x2, below_cell H2.out x3, below_cell H2.out x4⟩
         clear b2))
  go_wp2_with fail
  go_ret
  have B2 := B1.out.trans (H2.out.mono B1.out.size)
  have B3 := B2.trans (H3.out.mono B2.size)
  have B4 := B3.trans (H4.out.mono B3.size)
  have B5 := B4.trans (H5.out.mono B4.size)
  have B6 := B5.trans (H6.out.mono B5.size)
  refine ⟨_, rfl, ?_, B6.alloc B6.size _⟩
  exact ⟨rfl, .inr ⟨w6.heap.size, 5, _, rfl, B6.size, heap_alloc_new w6 _, Nat.le_refl _, by unfold maxLen; omega, rfl, rfl⟩⟩
end Go.Proofs.YthapbnlcodkalaaDoor
