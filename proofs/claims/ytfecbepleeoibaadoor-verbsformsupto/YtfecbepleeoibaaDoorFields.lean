/-
  The walk of fieldsOf.
-/
import Derived.Test.YtfecbepleeoibaaDoorSmall
import Derived.Lib.OthersKept
import Derived.Maps.AppendAt
import Derived.Deep.DeepMust
namespace Go.Proofs.YtfecbepleeoibaaDoor
open Go.RowKit Go.Lib

theorem info_field : (Tryd.prog.info? 43).map (fun i => (i.zero, i.size, i.bytes)) = some (some (.int .u8 0), 1, 1) := by kernel_rfl
def fldV (l : List Nat) : List Value := l.map fun (f : Nat) => Value.int .u8 (f : Int)
theorem fldV_len (l : List Nat) : (fldV l).length = l.length := by simp [fldV]

theorem ix0 (a b c d : Value) (w : World) : (Instr.index 44 (.agg #[a, b, c, d]) (.int .i64 0)).run Tryd.prog w = .ok a w := by kernel_rfl
theorem ix1 (a b c d : Value) (w : World) : (Instr.index 44 (.agg #[a, b, c, d]) (.int .i64 1)).run Tryd.prog w = .ok b w := by kernel_rfl
theorem ix2 (a b c d : Value) (w : World) : (Instr.index 44 (.agg #[a, b, c, d]) (.int .i64 2)).run Tryd.prog w = .ok c w := by kernel_rfl
theorem ix3 (a b c d : Value) (w : World) : (Instr.index 44 (.agg #[a, b, c, d]) (.int .i64 3)).run Tryd.prog w = .ok d w := by kernel_rfl
set_option maxHeartbeats 1000000 in
set_option maxRecDepth 1000000 in
theorem fieldsOf_any (k : Nat) (hk : k < 26) (w : World) (T : Tabs w) :
    Calls Tryd.prog 34 #[.int .i64 k] w fun e w' => ∃ v, e = .returned v ∧ Below w.heap.size w w' ∧ w'.ownsRow w.heap.size 43 1 v (formOf k).length (fldV (formOf k)) := by
  obtain ⟨i9, hi, hz0, hz1, hz2⟩ := info_parts info_field
  have c0 := T.fld k 0 hk (by decide)
  have c1 := T.fld k 1 hk (by decide)
  have c2 := T.fld k 2 hk (by decide)
  have c3 := T.fld k 3 hk (by decide)
  have i1 : (0 : Int) ≤ (k : Int) := by omega
  have i2 : (k : Int) < 26 := by omega
  go_enter Tryd.func34, Tryd.ntmps34
  go_wp2_with fail
  go_loopg [3, 10] 4 (fun gk s3 i wx => ∃ j : Nat, i = .int .i64 j ∧ j ≤ 4 ∧ 4 - j ≤ gk ∧ Below w.heap.size w wx ∧ wx.ownsRow w.heap.size 43 1 s3 (formTo k j).length (fldV (formTo k j)))
  case atStart => exact ⟨0, rfl, by omega, by omega, Below.refl _ _, World.ownsRow_nil _ _ _ _⟩
  case round =>
    obtain ⟨j, rfl, hj, hgk, hbw, hown⟩ := hrel
    by_cases hlt : j < 4
    · have hstep := formTo_step k j
      by_cases hf : fldOf k j = 0
      · rw [if_pos hf, List.append_nil] at hstep
        rw [← hstep] at hown
        clear hstep
        match j, hlt with
        | 0, _ =>
          have hx := ix0
          go_wp2_with fail
          go_roundg 3
          case measure => omega
          case rel => exact ⟨1, by go_num, by omega, by omega, hbw, hown⟩
        | 1, _ =>
          have hx := ix1
          go_wp2_with fail
          go_roundg 2
          case measure => omega
          case rel => exact ⟨2, by go_num, by omega, by omega, hbw, hown⟩
        | 2, _ =>
          have hx := ix2
          go_wp2_with fail
          go_roundg 1
          case measure => omega
          case rel => exact ⟨3, by go_num, by omega, by omega, hbw, hown⟩
        | 3, _ =>
          have hx := ix3
          go_wp2_with fail
          go_roundg 0
          case measure => omega
          case rel => exact ⟨4, by go_num, by omega, by omega, hbw, hown⟩
      · rw [if_neg hf] at hstep
        have hlen := formTo_len k j
        have HS : Hid (formTo k (j + 1) = formTo k j ++ [fldOf k j]) := hstep
        clear hstep
        match j, hlt with
        | 0, _ =>
          have hx := ix0
          go_wp2_with (at_builtin; go_must (refine wpList_append_own _ rfl (.tmp 15) (.tmp 17) 60 rfl w.heap.size 43 i9 (.int .u8 0) 1 1 Tryd.underlying60 hi hz0 hz1 hz2 rfl (by decide) _ _ _ rfl (hown.alloc _) ⟨wr.heap.size, 0, none⟩ 1 1 [.int .u8 (fldOf k 0 : Int)] rfl rfl (cell_one_new _ _ _) (by intro u hu; simp at hu; subst hu; rfl) (by unfold maxLen; omega) (by omega) (by have := hbw.size; simp; omega) ?_; intro v3 w3 hown3 hgrow3 hnil3))
          go_roundg 3
          case measure => omega
          case rel => exact ⟨1, by go_num, by omega, by omega, (hbw.alloc hbw.size _).grown hgrow3 (by have := hbw.size; simp; omega) (fun b hb => (hown.lt b hb).1), by rw [HS.out, List.length_append]; unfold fldV; rw [List.map_append]; exact hown3⟩
        | 1, _ =>
          have hx := ix1
          go_wp2_with (at_builtin; go_must (refine wpList_append_own _ rfl (.tmp 15) (.tmp 17) 60 rfl w.heap.size 43 i9 (.int .u8 0) 1 1 Tryd.underlying60 hi hz0 hz1 hz2 rfl (by decide) _ _ _ rfl (hown.alloc _) ⟨wr.heap.size, 0, none⟩ 1 1 [.int .u8 (fldOf k 1 : Int)] rfl rfl (cell_one_new _ _ _) (by intro u hu; simp at hu; subst hu; rfl) (by unfold maxLen; omega) (by omega) (by have := hbw.size; simp; omega) ?_; intro v3 w3 hown3 hgrow3 hnil3))
          go_roundg 2
          case measure => omega
          case rel => exact ⟨2, by go_num, by omega, by omega, (hbw.alloc hbw.size _).grown hgrow3 (by have := hbw.size; simp; omega) (fun b hb => (hown.lt b hb).1), by rw [HS.out, List.length_append]; unfold fldV; rw [List.map_append]; exact hown3⟩
        | 2, _ =>
          have hx := ix2
          go_wp2_with (at_builtin; go_must (refine wpList_append_own _ rfl (.tmp 15) (.tmp 17) 60 rfl w.heap.size 43 i9 (.int .u8 0) 1 1 Tryd.underlying60 hi hz0 hz1 hz2 rfl (by decide) _ _ _ rfl (hown.alloc _) ⟨wr.heap.size, 0, none⟩ 1 1 [.int .u8 (fldOf k 2 : Int)] rfl rfl (cell_one_new _ _ _) (by intro u hu; simp at hu; subst hu; rfl) (by unfold maxLen; omega) (by omega) (by have := hbw.size; simp; omega) ?_; intro v3 w3 hown3 hgrow3 hnil3))
          go_roundg 1
          case measure => omega
          case rel => exact ⟨3, by go_num, by omega, by omega, (hbw.alloc hbw.size _).grown hgrow3 (by have := hbw.size; simp; omega) (fun b hb => (hown.lt b hb).1), by rw [HS.out, List.length_append]; unfold fldV; rw [List.map_append]; exact hown3⟩
        | 3, _ =>
          have hx := ix3
          go_wp2_with (at_builtin; go_must (refine wpList_append_own _ rfl (.tmp 15) (.tmp 17) 60 rfl w.heap.size 43 i9 (.int .u8 0) 1 1 Tryd.underlying60 hi hz0 hz1 hz2 rfl (by decide) _ _ _ rfl (hown.alloc _) ⟨wr.heap.size, 0, none⟩ 1 1 [.int .u8 (fldOf k 3 : Int)] rfl rfl (cell_one_new _ _ _) (by intro u hu; simp at hu; subst hu; rfl) (by unfold maxLen; omega) (by omega) (by have := hbw.size; simp; omega) ?_; intro v3 w3 hown3 hgrow3 hnil3))
          go_roundg 0
          case measure => omega
          case rel => exact ⟨4, by go_num, by omega, by omega, (hbw.alloc hbw.size _).grown hgrow3 (by have := hbw.size; simp; omega) (fun b hb => (hown.lt b hb).1), by rw [HS.out, List.length_append]; unfold fldV; rw [List.map_append]; exact hown3⟩
    · obtain rfl : j = 4 := by omega
      rw [formTo_all k hk] at hown
      go_wp2_with fail
      go_ret
      exact ⟨_, rfl, hbw, hown⟩
end Go.Proofs.YtfecbepleeoibaaDoor
