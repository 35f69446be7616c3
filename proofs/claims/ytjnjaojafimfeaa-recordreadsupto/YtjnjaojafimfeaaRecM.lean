/-
  The walks of the method record, of takeTube.
-/
import Derived.Test.YtjnjaojafimfeaaTakeN
import Derived.Test.YtjnjaojafimfeaaPutW
namespace Go.Proofs.Ytjnjaojafimfeaa
open Go.RowKit

set_option maxHeartbeats 4000000 in
set_option maxRecDepth 1000000 in
theorem record_vars (k x0 x1 x2 x3 x4 x5 x6 x7 x8 x9 x10 x11 x12 x13 x14 x15 : Int) (w : World) :
    Calls Try.prog 40 #[.agg #[.int .i64 x0, .int .i64 x1, .int .i64 x2, .int .i64 x3, .int .i64 x4, .int .i64 x5, .int .i64 x6, .int .i64 x7, .int .i64 x8, .int .i64 x9, .int .i64 x10, .int .i64 x11, .int .i64 x12, .int .i64 x13, .int .i64 x14, .int .i64 x15], .int .i64 k] w fun e w' => e = .returned (.agg #[.int .i64 k, .int .i64 x0, .int .i64 x1, .int .i64 x2, .int .i64 x3, .int .i64 x4, .int .i64 x5, .int .i64 x6, .int .i64 x7, .int .i64 x8, .int .i64 x9, .int .i64 x10, .int .i64 x11, .int .i64 x12, .int .i64 x13, .int .i64 x14, .int .i64 x15, .string ⟨#[]⟩, .slice none 0 0]) ∧ Below w.heap.size w w' := by
  go_enter Try.func40, Try.ntmps40
  go_wp2_with (refine wpList_store_row rfl 34 (.tmp 4) (.tmp 40) rfl (w.heap.size + 1) #[.int .i64 k, .int .i64 x0, .int .i64 x1, .int .i64 x2, .int .i64 x3, .int .i64 x4, .int .i64 x5, .int .i64 x6, .int .i64 x7, .int .i64 x8, .int .i64 x9, .int .i64 x10, .int .i64 x11, .int .i64 x12, .int .i64 x13, .int .i64 x14, .int .i64 x15, .string ⟨#[]⟩, .slice none 0 0] rfl rfl 34 #[.int .i64 0, .int .i64 0, .int .i64 0, .int .i64 0, .int .i64 0, .int .i64 0, .int .i64 0, .int .i64 0, .int .i64 0, .int .i64 0, .int .i64 0, .int .i64 0, .int .i64 0, .int .i64 0, .int .i64 0, .int .i64 0, .int .i64 0, .string ⟨#[]⟩, .slice none 0 0] (heap_alloc2_new _ _ _) info_rec rfl (by simp [Value.oneCell']) ?_)
  refine bodyPost_ret (results_cell_row rfl _ _ (w.heap.size + 1) 34 _ (0, 0) _ rfl (setRow_heap _ _ _ _ _ _ (heap_alloc2_new _ _ _)) under_rec rfl info_rec) rfl ?_
  exact ⟨rfl, below_setRow (((Below.refl _ w).alloc (Nat.le_refl _) _).alloc (by simp) _) (show w.heap.size ≤ w.heap.size + 1 by omega)⟩
theorem record_any (k : Int) (n : Nat → Int) (w : World) :
    Calls Try.prog 40 #[.agg (numsA n), .int .i64 k] w fun e w' => e = .returned (.agg (recA ⟨k, n, []⟩ (.slice none 0 0))) ∧ Below w.heap.size w w' :=
  record_vars k (n 0) (n 1) (n 2) (n 3) (n 4) (n 5) (n 6) (n 7) (n 8) (n 9) (n 10) (n 11) (n 12) (n 13) (n 14) (n 15) w

theorem exec_convert {P : Program} {o : Oper} {a : Act} {X X' : World} {v : Value} (s t : TypeId) (x : Operand) (ho : o.op = .convert s t x) (h : (convert s t (a.eval x)).run P X = .ok v X') : (execOp a.eval o).run P X = .ok (.value v) X' := by
  unfold execOp
  simp only [ho, Sem.run_bind, h, Result.andThen_ok, Sem.run_pure]
set_option maxHeartbeats 1000000 in
set_option maxRecDepth 1000000 in
theorem takeTube_any (a : Option Addr) (c : Nat) (l : List UInt8) (w : World) (hb : IsBytes w a c l) :
    Calls Try.prog 41 #[.slice a l.length c] w fun e w' => Below w.heap.size w w' ∧
      ((takeT l = none ∧ e = .returned (.tuple #[.string ⟨#[]⟩, .slice none 0 0, .bool false])) ∨
       ∃ t rest a2 c2, takeT l = some (t, rest) ∧ e = .returned (.tuple #[.string ⟨t.toArray⟩, .slice a2 rest.length c2, .bool true]) ∧ ∀ wo, IsBytes wo a c l → IsBytes wo a2 c2 rest) := by
  match l, hb with
  | [], hb =>
    go_enter Try.func41, Try.ntmps41
    go_wp2_with fail
    go_ret3
    exact ⟨Below.refl _ w, .inl ⟨rfl, rfl⟩⟩
  | x :: l, hb =>
    obtain ⟨g, o, rfl⟩ := hb.addr (by simp)
    have hc0 : w.cell? ⟨g, o, none⟩ = some (.int .u8 (x.toNat : Int)) := hb.cell 0 x rfl
    have hcc := hb.1
    have hcm : c ≤ 9223372036854775807 := by have := hb.2.1; unfold maxLen at this; omega
    have HB : Hid (IsBytes w (some ⟨g, o, none⟩) c (x :: l)) := hb
    rw [List.length_cons] at hcc
    have hx64 : wrap64 (x.toNat : Int) = (x.toNat : Int) := wrap64_u8 x
    have hxb : (x.toNat : Int) ≤ 255 := by have := x.toNat_lt; omega
    have HL : Hid ((x :: l).length = l.length + 1) := List.length_cons
    clear hb
    by_cases hlt : l.length < x.toNat
    · go_enter Try.func41, Try.ntmps41
      go_wp2_with fail
      go_ret3
      exact ⟨Below.refl _ w, .inl ⟨by simp [takeT, hlt], rfl⟩⟩
    · obtain ⟨T, hT⟩ : ∃ T : ByteArray, T = ⟨(l.take x.toNat).toArray⟩ := ⟨_, rfl⟩
      have hd1 := HB.out.drop 1 (by simp)
      have hl1 : (l.take x.toNat).length = 1 + x.toNat - 1 := by rw [List.length_take]; omega
      have kc : (convert 30 9 (.slice (if c = 1 then some ⟨g, o, none⟩ else some ⟨g, o + 1, none⟩) (1 + x.toNat - 1) (c - 1))).run Try.prog w.drew = .ok (.string T) w.drew := by
        rw [hT]
        exact conv_is ((hd1.take x.toNat).below (Below.refl _ w).drew) hl1
      obtain ⟨v2, hv2⟩ : ∃ v, v = Value.slice (if c = 1 then some ⟨g, o, none⟩ else some ⟨g, o + 1, none⟩) (1 + x.toNat - 1) (c - 1) := ⟨_, rfl⟩
      obtain ⟨v3, hv3⟩ : ∃ v, v = Value.slice (if c = 1 + x.toNat then some ⟨g, o, none⟩ else some ⟨g, o + (1 + x.toNat), none⟩) (l.length + 1 - (1 + x.toNat)) (c - (1 + x.toNat)) := ⟨_, rfl⟩
      rw [← hv2] at kc
      have HV2 : Hid (v2 = .slice (if c = 1 then some ⟨g, o, none⟩ else some ⟨g, o + 1, none⟩) (1 + x.toNat - 1) (c - 1)) := hv2
      have HV3 : Hid (v3 = .slice (if c = 1 + x.toNat then some ⟨g, o, none⟩ else some ⟨g, o + (1 + x.toNat), none⟩) (l.length + 1 - (1 + x.toNat)) (c - (1 + x.toNat))) := hv3
      have HT : Hid (T = ⟨(l.take x.toNat).toArray⟩) := hT
      have HD : Hid (∀ wo, IsBytes wo (some ⟨g, o, none⟩) c (x :: l) → IsBytes wo (if c = 1 + x.toNat then some ⟨g, o, none⟩ else some ⟨g, o + (1 + x.toNat), none⟩) (c - (1 + x.toNat)) (l.drop x.toNat)) := by
        intro wo hwo
        have := hwo.drop (1 + x.toNat) (by simp; omega)
        rw [show (x :: l).drop (1 + x.toNat) = l.drop x.toNat by rw [Nat.add_comm]; rfl] at this
        exact this
      have HLN : Hid ((l.drop x.toNat).length = l.length + 1 - (1 + x.toNat)) := by show (l.drop x.toNat).length = _; rw [List.length_drop]; omega
      clear hT hd1 hl1 hv2 hv3
      go_enter Try.func41, Try.ntmps41
      go_wp2_with fail
      refine wp_region_any mixed ?_
      refine A_take (i := 0) (v := .slice (some ⟨g, o, none⟩) (l.length + 1) c) (some 18) rfl rfl (by kernel_rfl) (by kernel_rfl) (by kernel_rfl) (fun _ _ _ h => h) (.inl ⟨rfl, fun w => ?_⟩) ?_
      · simp [go_sem]
      refine A_take (i := 1) (v := .int .i64 (1 + (x.toNat : Int))) (some 19) rfl rfl (by kernel_rfl) (by kernel_rfl) (by kernel_rfl) (fun _ _ _ h => h) (.inl ⟨rfl, fun w => ?_⟩) ?_
      · simp [go_sem]
      refine A_take (i := 2) (v := v2) (some 20) rfl rfl (by kernel_rfl) (by kernel_rfl) (by kernel_rfl) (fun _ _ _ h => h) (.inl ⟨rfl, fun w => ?_⟩) ?_
      · rw [HV2.out]
        simp [go_sem]
        rw [if_pos ⟨by omega, by omega⟩, if_pos (by omega), show (1 + (x.toNat : Int)).toNat = 1 + x.toNat by omega, show 1 + x.toNat - 1 = x.toNat by omega]
      refine A_take (i := 4) (v := .slice (some ⟨g, o, none⟩) (l.length + 1) c) (some 22) rfl rfl (by kernel_rfl) (by kernel_rfl) (by kernel_rfl) (fun _ _ _ h => h) (.inl ⟨rfl, fun w => ?_⟩) ?_
      · simp [go_sem]
      refine A_take (i := 5) (v := .int .i64 (1 + (x.toNat : Int))) (some 23) rfl rfl (by kernel_rfl) (by kernel_rfl) (by kernel_rfl) (fun _ _ _ h => h) (.inl ⟨rfl, fun w => ?_⟩) ?_
      · simp [go_sem]
      refine A_take (i := 6) (v := v3) (some 24) rfl rfl (by kernel_rfl) (by kernel_rfl) (by kernel_rfl) (fun _ _ _ h => h) (.inl ⟨rfl, fun w => ?_⟩) ?_
      · rw [HV3.out]
        simp [go_sem]
        rw [if_pos ⟨by omega, by omega⟩, show (1 + (x.toNat : Int)).toNat = 1 + x.toNat by omega]
      refine wpAny_all (rs := [3]) (by kernel_rfl) (by decide) (fun i hi => ?_)
      obtain rfl : i = 3 := by simpa using hi
      refine D_value (v := .string T) (w' := w.drew) (some 21) rfl rfl rfl ?_ ?_
      · exact exec_convert 30 9 (.tmp 20) rfl kc
      refine A_take (i := 7) (v := .string T) (some 2) rfl rfl (by kernel_rfl) (by kernel_rfl) (by kernel_rfl) (fun _ _ _ h => h) (.inl ⟨rfl, fun w => ?_⟩) ?_
      · simp [go_sem]
      refine A_take (i := 8) (v := v3) (some 3) rfl rfl (by kernel_rfl) (by kernel_rfl) (by kernel_rfl) (fun _ _ _ h => h) (.inl ⟨rfl, fun w => ?_⟩) ?_
      · simp [go_sem]
      refine A_take (i := 9) (v := .bool true) (some 4) rfl rfl (by kernel_rfl) (by kernel_rfl) (by kernel_rfl) (fun _ _ _ h => h) (.inl ⟨rfl, fun w => ?_⟩) ?_
      · simp [go_sem]
      refine wpAny_done (by kernel_rfl) ?_ _
      dsimp only [Act.put]
      simp only [List.setIfInBounds_toArray, List.set_cons_succ, List.set_cons_zero]
      go_wp2_with fail
      go_ret3
      refine ⟨(Below.refl _ w).drew, .inr ⟨l.take x.toNat, l.drop x.toNat, (if c = 1 + x.toNat then some ⟨g, o, none⟩ else some ⟨g, o + (1 + x.toNat), none⟩), c - (1 + x.toNat), ?_, ?_, HD.out⟩⟩
      · simp [takeT, hlt]
      · rw [HLN.out, ← HT.out, ← HV3.out]
        rfl
end Go.Proofs.Ytjnjaojafimfeaa
