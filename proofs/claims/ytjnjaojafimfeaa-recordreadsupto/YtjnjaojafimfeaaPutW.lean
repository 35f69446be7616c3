/-
  The walk of Put.
-/
import Derived.Test.YtjnjaojafimfeaaSizeW
import Derived.Test.YtjnjaojafimfeaaAddTo
import Derived.Test.YtjnjaojafimfeaaTextA
import Derived.Test.YtjnjaojafimfeaaDraw
import Derived.Deep.Cut
import Derived.Deep.CutRange
namespace Go.Proofs.Ytjnjaojafimfeaa
open Go.RowKit

/-- While a payload is made. -/
structure PutS (w W : World) (r : Rec) (b v : Value) (l : List UInt8) : Prop where
  own : Own W (w.heap.size + 1) v l
  below : Below w.heap.size w W
  box : RecAt W w.heap.size r b
theorem PutS.size {w W : World} {r : Rec} {b v : Value} {l : List UInt8} (h : PutS w W r b v l) : w.heap.size + 1 ≤ W.heap.size := h.box.lt
theorem PutS.alloc {w W : World} {r : Rec} {b v : Value} {l : List UInt8} (h : PutS w W r b v l) (o : Obj) : PutS w (W.alloc o) r b v l :=
  ⟨h.own.below ((Below.refl _ W).alloc (Nat.le_refl _) _), h.below.trans (((Below.refl _ W).alloc (Nat.le_refl _) _).mono h.below.size), h.box.below ((Below.refl _ W).alloc (Nat.le_refl _) _)⟩
theorem PutS.grown {w W W' : World} {r : Rec} {b v v' : Value} {l l' : List UInt8} (h : PutS w W r b v l) (own : Own W' (w.heap.size + 1) v' l') (gr : W.grownBy W' v.ownBlock) : PutS w W' r b v' l' := by
  refine ⟨own, h.below.grown gr h.below.size (fun g hg => by have := (h.own.lt g hg).1; omega), ?_⟩
  exact (gr.block w.heap.size h.box.lt (fun e => by have := (h.own.lt _ e.symm).1; omega)).trans h.box
theorem PutS.bytes {w W : World} {r : Rec} {b v : Value} {l : List UInt8} (h : PutS w W r b v l) {a : Option Addr} {c : Nat} {m : List UInt8} (hm : IsBytes w a c m) : IsBytes W a c m := hm.below h.below
theorem PutS.later {w W W' : World} {r : Rec} {b v : Value} {l : List UInt8} (h : PutS w W r b v l) (hb : Below W.heap.size W W') : PutS w W' r b v l :=
  ⟨h.own.below hb, h.below.trans (hb.mono h.below.size), h.box.below hb⟩
theorem byte_kind {k : Int} (h : withinB k 1 4 = true) : IntKind.u8.wrap k = ((UInt8.ofNat k.toNat).toNat : Int) := by
  rw [kind_byte h, IntKind.wrap_u8]
  have := within_iff.1 h
  omega
theorem byte_len {n : Nat} (_h : n ≤ 200) : IntKind.u8.wrap (n : Int) = ((UInt8.ofNat n).toNat : Int) := by
  rw [IntKind.wrap_u8, UInt8.toNat_ofNat']
  omega

theorem D_value {P : Program} {ops : Array Oper} {Q : Exit → Act → World → Prop} {i : Nat} {o : Oper} {a : Act} {w w' : World} {v : Value} {K : Act → World → Prop} (d : Option Tmp) (hi : ops[i]? = some o) (hd : o.dst = d) (hg : Region.wanted o (yielded ops a.tmps) = true) (hr : (execOp a.eval o).run P w = .ok (.value v) w') (h : K (a.put d v) w') : wpOp P ops Q i K a w := by
  subst hd
  exact op_value hi hg hr h
theorem exec_load_row {P : Program} {o : Oper} {a : Act} {X : World} (ty : TypeId) (x : Operand) (ho : o.op = .load ty x) (g : Nat) (hx : a.eval x = .pointer (some ⟨g, 0, none⟩)) (t : TypeId) (cs : Array Value) (d : TypeDesc) (hg : X.heap[g]? = some (.cells cs t (0, 0)))
    (hu : P.underlying ty = some d) (hd : (match d with | .struct _ | .array _ _ => true | _ => false) = true) (hi : (P.info? ty).map (·.size) = some cs.size) : (execOp a.eval o).run P X = .ok (.value (.agg cs)) X := by
  unfold execOp
  simp only [ho, hx, Instr.loadAt, Instr.sureAddr, Sem.run_bind, Sem.run_pure, Result.andThen_ok, run_loadVar_row X g t ty cs (0, 0) d hg hu hd hi]
set_option maxHeartbeats 2000000 in
set_option maxRecDepth 1000000 in
theorem put_no (r : Rec) (a : Option Addr) (m c : Nat) (w : World) (h0 : checkE r m ≠ 0) :
    Calls Try.prog 18 #[.agg (recA r (.slice a m c))] w fun e w' => e = .returned (.tuple #[.slice none 0 0, .int .i64 (checkE r m)]) ∧ Below w.heap.size w w' := by
  have CC : Hid (∀ W, Calls Try.prog 13 #[.agg (recA r (.slice a m c))] W fun e w' => e = .returned (.int .i64 (checkE r m)) ∧ Below W.heap.size W w') := check_any r a m c
  obtain ⟨C, hC⟩ : ∃ C, C = recA r (.slice a m c) := ⟨_, rfl⟩
  have HSZ : Hid (C.size = 19) := by show C.size = 19; rw [hC]; rfl
  have HC : Hid (C = recA r (.slice a m c)) := hC
  rw [← hC] at CC ⊢
  clear hC
  obtain ⟨z, hz⟩ : ∃ z, z = checkE r m := ⟨_, rfl⟩
  rw [← hz] at CC h0 ⊢
  have hzb : (z != 0) = true := by simpa using h0
  clear hz h0
  go_enter Try.func18, Try.ntmps18
  go_wp2_with (first
    | (go_at_call 13
       refine (CC.out _).mono ?_
       rintro e w1 ⟨rfl, B1⟩
       have BX1 : Hid (Below w.heap.size w w1) := below_box B1
       clear B1)
    | (refine wpList_load_row rfl 34 (.tmp 1) rfl w.heap.size rfl 34 C (0, 0) _ (by rw [HC.out]; exact heap_alloc_last _ _) under_rec rfl (by rw [HSZ.out]; exact info_rec) ?_))
  go_ret2
  exact ⟨rfl, BX1.out⟩

set_option maxHeartbeats 2000000 in
set_option maxRecDepth 1000000 in
theorem put_yes (r : Rec) (a : Option Addr) (c : Nat) (body : List UInt8) (w : World) (hb : IsBytes w a c body) (h0 : checkE r body.length = 0) :
    Calls Try.prog 18 #[.agg (recA r (.slice a body.length c))] w fun e w' => ∃ v, e = .returned (.tuple #[v, .int .i64 0]) ∧ Own w' (w.heap.size + 1) v (putL r body) ∧ Below w.heap.size w w' := by
  have CC : Hid (∀ W, Calls Try.prog 13 #[.agg (recA r (.slice a body.length c))] W fun e w' => e = .returned (.int .i64 0) ∧ Below W.heap.size W w') := by
    have := check_any r a body.length c
    rw [h0] at this
    exact this
  have CN : Hid (∀ W, Calls Try.prog 27 #[.agg (recA r (.slice a body.length c))] W fun e w' => e = .returned (.agg (numsA r.num)) ∧ Below W.heap.size W w') := numbersOf_any r a body.length c
  have CP : Hid (∀ W, Calls Try.prog 31 #[.agg (recA r (.slice a body.length c))] W fun e w' => e = .returned (.int .i64 (sizeL r body.length : Int)) ∧ Below W.heap.size W w') := fun W => payloadSize_any r a body.length c W (by have := (check_small h0).1; omega) (by have := (check_small h0).2; omega)
  have CA : Hid (∀ W B v l, B ≤ W.heap.size → Own W B v l → l.length ≤ 1048576 → Calls Try.prog 36 #[.agg (numsA r.num), v, .int .i64 r.kind] W fun e w' => ∃ v', e = .returned v' ∧ Own w' B v' (l ++ numsL r.num (fieldsL r.kind)) ∧ Below B W w') := fun W B v l h1 h2 h3 => addTo_any r.num r.kind v l B W h1 h2 h3
  have hs := check_small h0
  have hn := fields_len r.kind
  have hsz : sizeL r body.length ≤ 1000000 := by unfold sizeL; split <;> omega
  have hkind := byte_kind (check_ok h0).1
  have HB : Hid (IsBytes w a c body) := hb
  have R0 : Hid (RecAt (w.alloc (.cells (recA r (.slice a body.length c)) 34)) w.heap.size r (.slice a body.length c)) := RecAt.new _ _ _
  obtain ⟨n, hn2⟩ : ∃ n, n = sizeL r body.length := ⟨_, rfl⟩
  rw [← hn2] at CP hsz
  obtain ⟨C, hC⟩ : ∃ C, C = recA r (.slice a body.length c) := ⟨_, rfl⟩
  have HSZ : Hid (C.size = 19) := by show C.size = 19; rw [hC]; rfl
  have HC : Hid (C = recA r (.slice a body.length c)) := hC
  rw [← hC] at CC CN CP R0 ⊢
  obtain ⟨D, hD⟩ : ∃ D, D = numsA r.num := ⟨_, rfl⟩
  rw [← hD] at CN CA
  obtain ⟨x0, hx0⟩ : ∃ x, x = UInt8.ofNat r.kind.toNat := ⟨_, rfl⟩
  rw [← hx0] at hkind
  have HX0 : Hid (x0 = UInt8.ofNat r.kind.toNat) := hx0
  have HS : Hid (r.tube.length ≤ 200 ∧ body.length ≤ 65535 ∧ (fieldsL r.kind).length ≤ 13) := ⟨hs.1, hs.2, hn⟩
  clear hC hD hn2 hx0 hb h0 hs hn
  obtain ⟨i8, hi, hz0, hz1, hz2⟩ := info_parts info_u8
  go_enter Try.func18, Try.ntmps18
  go_wp2_with (first
    | (go_at_call 13
       refine (CC.out _).mono ?_
       rintro e w1 ⟨rfl, B1⟩
       have BX1 : Hid (Below w.heap.size w w1) := below_box B1
       have R1 : Hid (RecAt w1 w.heap.size r (.slice a body.length c)) := R0.out.below B1
       clear B1)
    | (go_at_call 31
       refine (CP.out _).mono ?_
       rintro e w2 ⟨rfl, B2⟩
       have BX2 : Hid (Below w.heap.size w w2) := BX1.out.trans (B2.mono BX1.out.size)
       have R2 : Hid (RecAt w2 w.heap.size r (.slice a body.length c)) := R1.out.below B2
       clear B2)
    | (at_make
       refine wpList_make_own _ rfl _ _ 30 rfl (w.heap.size + 1) 5 i8 (.int .u8 0) 1 Try.underlying30 hi hz0 hz1 _ _ _ n rfl rfl rfl (by rw [hz2]; omega) (by unfold maxLen; omega) (by have := R2.out.lt; omega) ?_
       intro w3 hrow3 hg3
       have P3 : Hid (PutS w w3 r (.slice a body.length c) (.slice (some ⟨w2.heap.size, 0, none⟩) 0 n) []) := ⟨hrow3, BX2.out.grown hg3 BX2.out.size (fun j hj => by cases hj), (hg3.block _ R2.out.lt (by simp)).trans R2.out⟩
       have k3 := P3.out.box.kind
       have l3 := P3.out.box.lt
       clear hrow3 hg3)
    | (refine wpList_append8 rfl (.tmp 14) (.tmp 18) rfl (w.heap.size + 1) (.slice (some ⟨w2.heap.size, 0, none⟩) 0 n) [] rfl (P3.out.alloc _).own (some ⟨w3.heap.size, 0, none⟩) 1 [x0] rfl (Own.ofNew1 w3 x0) (by simp) (by have := P3.out.size; simp; omega) ?_
       intro v4 w4 own4 gr4 g1 g2 g3
       clear g1 g2 g3
       have P4 : Hid (PutS w w4 r (.slice a body.length c) v4 [x0]) := (P3.out.alloc _).grown own4 gr4
       have k4 := P4.out.box.kind
       clear own4 gr4)
    | (refine wpList_load_row rfl 34 (.tmp 1) rfl w.heap.size rfl 34 C (0, 0) _ (by first | (rw [HC.out]; exact heap_alloc_last _ _) | (rw [HC.out]; exact R1.out)) under_rec rfl (by rw [HSZ.out]; exact info_rec) ?_))
  have H4 : Hid (PutS w w4 r (.slice a body.length c) v4 [x0]) := P4.out
  clear k3 l3 k4
  go_cut [5] from 20 to 25 (fun s5 wx => Hid (PutS w wx r (.slice a body.length c) s5 ([x0] ++ numsL r.num (fieldsL r.kind))))
  case first =>
    have hd : PutS w w4.drew r (.slice a body.length c) v4 [x0] := H4.out.later (Below.refl _ w4).drew
    refine wp_region_any mixed ?_
    refine A_take (i := 2) (v := v4) (some 22) rfl rfl (by kernel_rfl) (by kernel_rfl) (by kernel_rfl) (fun _ _ _ h => h) (.inl ⟨rfl, fun w => ?_⟩) ?_
    · simp [go_sem]
    refine A_take (i := 3) (v := .pointer (some ⟨w.heap.size, 0, none⟩)) (some 23) rfl rfl (by kernel_rfl) (by kernel_rfl) (by kernel_rfl) (fun _ _ _ h => h) (.inl ⟨rfl, fun w => ?_⟩) ?_
    · simp [go_sem]
    refine C_take (i := 0) (v := .agg C) (Cl := fun X => X.heap[w.heap.size]? = some (.cells C 34 (0, 0))) (D := [1, 5, 6]) (E := [4]) (some 20) rfl rfl (by kernel_rfl) (fun j hj oj ho => ?_) (fun _ _ _ h => h) (by rw [HC.out]; exact hd.box) ⟨rfl, fun X hX => ?_⟩ ?_
    · have hj2 : j = 4 := by simpa using hj
      subst hj2
      cases ho
      exact stays_loadC rfl Try.isAgg3
    · exact exec_load_row 34 (.tmp 1) rfl w.heap.size rfl 34 C _ hX under_rec rfl (by rw [HSZ.out]; exact info_rec)
    refine wpAny_all (rs := [1, 4]) (by kernel_rfl) (by decide) (fun i hi => ?_)
    have hi2 : i = 1 ∨ i = 4 := by simpa using hi
    rcases hi2 with rfl | rfl
    · refine D_call (f := 27) (args := #[.agg C]) (some 21) rfl rfl rfl ?_ ((CN.out _).mono ?_)
      · simp [go_sem]
      rintro x w5 ⟨rfl, B5⟩
      refine ⟨_, rfl, ?_⟩
      have hd5 := hd.later B5
      refine wpAny_all (rs := [4]) (by kernel_rfl) (by decide) (fun i hi => ?_)
      obtain rfl : i = 4 := by simpa using hi
      refine D_value (v := .int .i64 r.kind) (w' := w5) (some 24) rfl rfl rfl ?_ ?_
      · have hk := hd5.box.kind
        simp [go_sem, hk]
      refine wpAny_all (rs := [5]) (by kernel_rfl) (by decide) (fun i hi => ?_)
      obtain rfl : i = 5 := by simpa using hi
      refine D_call (f := 36) (args := #[.agg D, v4, .int .i64 r.kind]) (some 25) rfl rfl rfl ?_ ((CA.out _ (w.heap.size + 1) _ [x0] hd5.size hd5.own (by simp)).mono ?_)
      · simp [go_sem]
      rintro x w6 ⟨v6, rfl, own6, B6⟩
      refine ⟨_, rfl, ?_⟩
      have P6 : PutS w w6 r (.slice a body.length c) v6 ([x0] ++ numsL r.num (fieldsL r.kind)) := ⟨own6, hd5.below.trans (B6.mono (by omega)), (B6.block _ (by omega)).trans hd5.box⟩
      refine A_take (i := 6) (v := v6) (some 5) rfl rfl (by kernel_rfl) (by kernel_rfl) (by kernel_rfl) (fun _ _ _ h => h) (.inl ⟨rfl, fun w => ?_⟩) ?_
      · simp [go_sem]
      refine wpAny_done (by kernel_rfl) ?_ _
      dsimp only [Act.put]
      simp only [List.setIfInBounds_toArray, List.set_cons_succ, List.set_cons_zero]
      go_wp2_with fail
      go_meet
      exact P6
    · refine D_value (v := .int .i64 r.kind) (w' := w4.drew) (some 24) rfl rfl rfl ?_ ?_
      · have hk := hd.box.kind
        simp [go_sem, hk]
      refine wpAny_all (rs := [1]) (by kernel_rfl) (by decide) (fun i hi => ?_)
      obtain rfl : i = 1 := by simpa using hi
      refine D_call (f := 27) (args := #[.agg C]) (some 21) rfl rfl rfl ?_ ((CN.out _).mono ?_)
      · simp [go_sem]
      rintro x w5 ⟨rfl, B5⟩
      refine ⟨_, rfl, ?_⟩
      have hd5 := hd.later B5
      refine wpAny_all (rs := [5]) (by kernel_rfl) (by decide) (fun i hi => ?_)
      obtain rfl : i = 5 := by simpa using hi
      refine D_call (f := 36) (args := #[.agg D, v4, .int .i64 r.kind]) (some 25) rfl rfl rfl ?_ ((CA.out _ (w.heap.size + 1) _ [x0] hd5.size hd5.own (by simp)).mono ?_)
      · simp [go_sem]
      rintro x w6 ⟨v6, rfl, own6, B6⟩
      refine ⟨_, rfl, ?_⟩
      have P6 : PutS w w6 r (.slice a body.length c) v6 ([x0] ++ numsL r.num (fieldsL r.kind)) := ⟨own6, hd5.below.trans (B6.mono (by omega)), (B6.block _ (by omega)).trans hd5.box⟩
      refine A_take (i := 6) (v := v6) (some 5) rfl rfl (by kernel_rfl) (by kernel_rfl) (by kernel_rfl) (fun _ _ _ h => h) (.inl ⟨rfl, fun w => ?_⟩) ?_
      · simp [go_sem]
      refine wpAny_done (by kernel_rfl) ?_ _
      dsimp only [Act.put]
      simp only [List.setIfInBounds_toArray, List.set_cons_succ, List.set_cons_zero]
      go_wp2_with fail
      go_meet
      exact P6
  case rest =>
    have P6 := hcut.out
    have k6 := P6.box.kind
    have k17 := P6.box.tube
    have k18 := P6.box.body
    have htz := tube_size r.tube
    have hby := byte_len HS.out.1
    obtain ⟨y, hy⟩ : ∃ y, y = UInt8.ofNat r.tube.length := ⟨_, rfl⟩
    rw [← hy] at hby
    have HY : Hid (y = UInt8.ofNat r.tube.length) := hy
    have H6 : Hid (PutS w wc r (.slice a body.length c) u5 ([x0] ++ numsL r.num (fieldsL r.kind))) := P6
    have l6 := P6.box.lt
    have hl6 : ([x0] ++ numsL r.num (fieldsL r.kind)).length ≤ 105 := by
      have := HS.out.2.2
      rw [List.length_append, nums_length]
      simp
      omega
    have HL6 : Hid (([x0] ++ numsL r.num (fieldsL r.kind)).length ≤ 105) := hl6
    clear P6 hy hl6 hcut
    obtain ⟨kb, hkb⟩ : ∃ kb, (r.kind == 2) = kb := ⟨_, rfl⟩
    have HKB : Hid ((r.kind == 2) = kb) := hkb
    cases kb
    · go_wp2_with fail
      go_ret2
      refine ⟨_, rfl, ?_, H6.out.below⟩
      have hq : ¬ r.kind = 2 := by simpa using HKB.out
      have e : putL r body = [x0] ++ numsL r.num (fieldsL r.kind) := by simp [putL, tailL, hq, HX0.out]
      rw [e]
      exact H6.out.own
    · go_wp2_with (first
        | (refine wpList_append8 rfl (.tmp 29) (.tmp 35) rfl (w.heap.size + 1) u5 _ rfl (H6.out.alloc _).own (some ⟨wc.heap.size, 0, none⟩) 1 [y] rfl (Own.ofNew1 wc y) (by have := HL6.out; simp only [List.length_cons, List.length_nil]; omega) (by have := H6.out.size; simp; omega) ?_
           intro v7 w7 own7 gr7 g1 g2 g3
           clear g1 g2 g3
           have P7 : Hid (PutS w w7 r (.slice a body.length c) v7 ([x0] ++ numsL r.num (fieldsL r.kind) ++ [y])) := (H6.out.alloc _).grown own7 gr7
           have k17b := P7.out.box.tube
           clear own7 gr7)
        | (refine wpList_append_text rfl (.tmp 37) (.tmp 40) rfl (w.heap.size + 1) v7 ([x0] ++ numsL r.num (fieldsL r.kind) ++ [y]) rfl P7.out.own ⟨r.tube.toArray⟩ rfl (by have := HL6.out; have := HS.out.1; rw [List.length_append, tube_size]; simp only [List.length_cons, List.length_nil]; omega) P7.out.size ?_
           intro v8 w8 own8 gr8
           have P8 : Hid (PutS w w8 r (.slice a body.length c) v8 ([x0] ++ numsL r.num (fieldsL r.kind) ++ [y] ++ r.tube)) := P7.out.grown own8 gr8
           have k18b := P8.out.box.body
           clear own8 gr8)
        | (refine wpList_append8 rfl (.tmp 42) (.tmp 45) rfl (w.heap.size + 1) v8 ([x0] ++ numsL r.num (fieldsL r.kind) ++ [y] ++ r.tube) rfl P8.out.own a c body rfl (P8.out.bytes HB.out) (by have := HL6.out; have := HS.out; rw [List.length_append, List.length_append]; simp only [List.length_cons, List.length_nil]; omega) P8.out.size ?_
           intro v9 w9 own9 gr9 g1 g2 g3
           clear g1 g2 g3
           have P9 : Hid (PutS w w9 r (.slice a body.length c) v9 ([x0] ++ numsL r.num (fieldsL r.kind) ++ [y] ++ r.tube ++ body)) := P8.out.grown own9 gr9
           clear own9 gr9))
      go_ret2
      refine ⟨_, rfl, ?_, P9.out.below⟩
      have hq : r.kind = 2 := by simpa using HKB.out
      have e : putL r body = [x0] ++ numsL r.num (fieldsL r.kind) ++ [y] ++ r.tube ++ body := by rw [putL, tailL, if_pos hq, HX0.out, HY.out]; simp
      rw [e]
      exact P9.out.own
end Go.Proofs.Ytjnjaojafimfeaa
