/-
  The walk of step: load, refused. (Written by genstp.py.)
-/
import Derived.Test.YtnpofjeiamjioaaSdX
namespace Go.Proofs.Ytnpofjeiamjioaa
open Go.RowKit Go.Maps

set_option linter.unusedSimpArgs false in
set_option maxHeartbeats 4000000 in
set_option maxRecDepth 1000000 in
theorem stp_load0 (W w : World) (B pb pc hb n : Nat) (p o : Pq) (vo vw : Value) (P : List Ls) (sz : Int) (h : T2 W B pb pc hb p o vo vw P sz w) (hs : Sz n p o P sz) (hn : n ≤ 1048576) (x : OpI) (da : Option Addr) (dc : Nat) (ka : Option Addr) (kc : Nat) (hx : StpI W B x da dc ka kc) (hk : x.kind = 4) (hz : chk p.q (o.L.map raw) ≠ 0) :
    Calls Try.prog 9 #[.pointer (some ⟨pb, 0, none⟩), .agg (ptrs o.db o.rb), .pointer (some ⟨hb, 0, none⟩), .agg (opCells x da dc ka kc).toArray] w fun e w' => e = .returned (.bool true) ∧ StepP W B pb pc hb n o w' := by
  obtain ⟨C, hC⟩ : ∃ C, C = (opCells x da dc ka kc).toArray := ⟨_, rfl⟩
  obtain ⟨O, hO⟩ : ∃ O, O = ptrs o.db o.rb := ⟨_, rfl⟩
  rw [← hC, ← hO]
  obtain ⟨w0, hw0⟩ : ∃ w0, w0 = (w.alloc (.cells O 33)).alloc (.cells C 42) := ⟨_, rfl⟩
  have b0 : Below w.heap.size w w0 := by rw [hw0]; exact ((Below.refl _ w).alloc (Nat.le_refl _) _).alloc (by simp) _
  obtain ⟨ob, hob⟩ : ∃ ob, ob = w.heap.size := ⟨_, rfl⟩
  obtain ⟨cb, hcb⟩ : ∃ cb, cb = w.heap.size + 1 := ⟨_, rfl⟩
  have xo : w0.heap[ob]? = some (.cells O 33 (0, 0)) := by
    rw [hw0, hob]
    exact (heap_alloc_old (w.alloc (.cells O 33)) _ (by simp)).trans (heap_alloc_new w _)
  have xc : w0.heap[cb]? = some (.cells C 42 (0, 0)) := by
    rw [hw0, hcb]
    have := heap_alloc_new (w.alloc (.cells O 33)) (.cells C 42)
    rw [World.size_alloc] at this
    exact this
  have hlow : ob = w.heap.size ∧ cb = w.heap.size + 1 ∧ w0.heap.size = w.heap.size + 2 := ⟨hob, hcb, by rw [hw0]; simp⟩
  have kc1 : w0.cell? ⟨cb, 1, none⟩ = some (.int .i64 x.kind) := by rw [hC] at xc; simp [World.cell?, xc, opCells]
  have t0 := h.later b0
  have T0 := hideR t0
  have HLow := hideR hlow
  have HO := hideR hO
  have HC := hideR hC
  have HXO := hideR xo
  have HXC := hideR xc
  have HS := hideR hs
  have HX := hideR hx
  have HT := hideR h
  rw [hk] at kc1
  have HB0 := hideR b0
  clear h hs hx t0 hO hC xo xc b0 hlow
  go_enter Try.func9, Try.ntmps9
  go_upto_region 1 with fail
  rw [← hw0, ← hcb, ← hob]
  clear hw0 hob hcb hk
  have HZ := hideR hz
  clear hz
  go_upto_region 15 with fail
  clear kc1
  have s0 : Below w0.heap.size w0 w0.drew := drawn w0
  have hoc : ∀ X : World, Below w0.heap.size w0 X → X.cell? ⟨ob, 1, none⟩ = some (.pointer (some ⟨o.rb, 0, none⟩)) := fun X hX => by
    have hx := (hX.block ob (by have := HLow.out; omega)).trans HXO.out
    have e : O = ptrs o.db o.rb := HO.out
    subst e
    simp [World.cell?, hx, ptrs]
  have hpc : ∀ X : World, Below w0.heap.size w0 X → X.cell? ⟨pb, 1, none⟩ = some (.pointer (some ⟨p.rb, 0, none⟩)) := fun X hX => by
    have hx := (hX.block pb T0.out.lt.1).trans T0.out.b1
    simp [World.cell?, hx, Pq.cells, ptrs]
  have hrc : ∀ X : World, Below w0.heap.size w0 X → X.cell? ⟨p.rb, 0, none⟩ = some (.int .i64 p.q) := fun X hX => by
    have hx := (T0.out.pp.later hX).rf.box
    simp [World.cell?, hx]
  have KC := hideR (And.intro hoc (And.intro hpc hrc))
  have FC := hideR (fun (X : World) (hX : Below w0.heap.size w0 X) => files_any11 X B o.rb o.q o.fv o.F (T0.out.po.later hX).rf (by have := T0.out.po.len; have := HS.out.lo; omega) (fun y hy => by
    have hm : y.1 ∈ o.L := by rw [← T0.out.po.eq]; exact List.mem_map_of_mem hy
    exact cut_le _ T0.out.po.dk.right hm))
  obtain ⟨N, hN⟩ : ∃ N, N = o.L.length := ⟨_, rfl⟩
  have LC := hideR (fun (X : World) (lo : Nat) (v : Value) (G : List (Fl × Value)) (hX : Below w0.heap.size w0 X) (hf : FlsAt X lo v G) (hg : G.map (·.1) = o.F.map (·.1)) => show ∃ a c, v = .slice a N c ∧ Calls Try.prog 14 #[.int .i64 p.q, .slice a N c] X (LoadedP p.q (o.L.map raw) X) by
    have hgl : G.map (·.1) = o.L := hg.trans T0.out.po.eq
    have hR := T0.out.po.dk.right
    obtain ⟨a, c, ev, hr⟩ := rows_raw hf.row hf.own (fun y hy => (raw_fits hR (by rw [← hgl]; exact List.mem_map_of_mem hy)).1)
    have hlen : G.length = N := by rw [hN, ← hgl, List.length_map]
    have er : (G.map fun y => raw y.1) = o.L.map raw := by rw [← hgl, List.map_map]; rfl
    rw [er] at hr
    rw [hlen] at ev
    refine ⟨a, c, ev, ?_⟩
    have := loaded_any X p.q a c (o.L.map raw) hr (by rw [List.length_map]; have := HS.out.lo; omega) (by rw [totR_raws]; have := hR.fits; have := hR.quota; omega) (fun y hy => by obtain ⟨f, hf2, rfl⟩ := List.mem_map.1 hy; exact cut_le f hR hf2)
    rw [List.length_map, ← hN] at this
    exact this)
  have hNn : N ≤ n := by have := HS.out.lo; omega
  clear hoc hpc hrc hN
  refine wp_region_held_drew (S := fun X => Below w0.heap.size w0 X) (by kernel_rfl) s0 (fun _ => ?_)
  refine H_take (i := 0) (v := .pointer (some ⟨pb, 0, none⟩)) (some 63) rfl rfl (by kernel_rfl) (by kernel_rfl) (by kernel_rfl) (fun _ _ _ h => h) rfl (fun X hX => ?_) s0 ?_
  · simp [go_sem]
  simp only [Act.put, List.setIfInBounds_toArray, List.set_cons_zero, List.set_cons_succ]
  refine H_take (i := 1) (v := .pointer (some ⟨pb, 0, none⟩)) (some 64) rfl rfl (by kernel_rfl) (by kernel_rfl) (by kernel_rfl) (fun _ _ _ h => h) rfl (fun X hX => ?_) s0 ?_
  · simp [go_sem]
  simp only [Act.put, List.setIfInBounds_toArray, List.set_cons_zero, List.set_cons_succ]
  refine H_take (i := 2) (v := .pointer (some ⟨pb, 1, none⟩)) (some 65) rfl rfl (by kernel_rfl) (by kernel_rfl) (by kernel_rfl) (fun _ _ _ h => h) rfl (fun X hX => ?_) s0 ?_
  · simp [go_sem]
  simp only [Act.put, List.setIfInBounds_toArray, List.set_cons_zero, List.set_cons_succ]
  refine H_take (i := 3) (v := .pointer (some ⟨p.rb, 0, none⟩)) (some 66) rfl rfl (by kernel_rfl) (by kernel_rfl) (by kernel_rfl) (fun _ _ _ h => h) rfl (fun X hX => ?_) s0 ?_
  · simp [go_sem, KC.out.2.1 X hX]
  simp only [Act.put, List.setIfInBounds_toArray, List.set_cons_zero, List.set_cons_succ]
  refine H_take (i := 4) (v := .pointer (some ⟨p.rb, 0, none⟩)) (some 67) rfl rfl (by kernel_rfl) (by kernel_rfl) (by kernel_rfl) (fun _ _ _ h => h) rfl (fun X hX => ?_) s0 ?_
  · simp [go_sem]
  simp only [Act.put, List.setIfInBounds_toArray, List.set_cons_zero, List.set_cons_succ]
  refine H_take (i := 5) (v := .pointer (some ⟨p.rb, 0, none⟩)) (some 68) rfl rfl (by kernel_rfl) (by kernel_rfl) (by kernel_rfl) (fun _ _ _ h => h) rfl (fun X hX => ?_) s0 ?_
  · simp [go_sem]
  simp only [Act.put, List.setIfInBounds_toArray, List.set_cons_zero, List.set_cons_succ]
  refine H_take (i := 6) (v := .int .i64 p.q) (some 69) rfl rfl (by kernel_rfl) (by kernel_rfl) (by kernel_rfl) (fun _ _ _ h => h) rfl (fun X hX => ?_) s0 ?_
  · simp [go_sem, KC.out.2.2 X hX]
  simp only [Act.put, List.setIfInBounds_toArray, List.set_cons_zero, List.set_cons_succ]
  refine H_take (i := 7) (v := .pointer (some ⟨ob, 1, none⟩)) (some 70) rfl rfl (by kernel_rfl) (by kernel_rfl) (by kernel_rfl) (fun _ _ _ h => h) rfl (fun X hX => ?_) s0 ?_
  · simp [go_sem]
  simp only [Act.put, List.setIfInBounds_toArray, List.set_cons_zero, List.set_cons_succ]
  refine H_take (i := 8) (v := .pointer (some ⟨o.rb, 0, none⟩)) (some 71) rfl rfl (by kernel_rfl) (by kernel_rfl) (by kernel_rfl) (fun _ _ _ h => h) rfl (fun X hX => ?_) s0 ?_
  · simp [go_sem, KC.out.1 X hX]
  simp only [Act.put, List.setIfInBounds_toArray, List.set_cons_zero, List.set_cons_succ]
  refine wpAnyH_all (rs := [9, 14]) (by kernel_rfl) (by decide) (fun j hj => ?_)
  rcases (show j = 9 ∨ j = 14 by simpa using hj) with rfl | rfl
  · refine op_call (f := 27) (args := #[.pointer (some ⟨o.rb, 0, none⟩)]) rfl rfl (by simp [go_sem]) ((FC.out _ s0).mono ?_)
    rintro e v1 ⟨bb1, vf, G, rfl, ff1, fg⟩
    have s1 : Below w0.heap.size w0 v1 := s0.trans (bb1.mono s0.size)
    have hbz1 := bb1.size
    obtain ⟨fa, fc, rfl, _⟩ := LC.out _ _ _ _ s1 ff1 fg
    have FF1 := hideR ff1
    clear ff1
    refine ⟨_, rfl, s1, ?_⟩
    simp only [Act.put, List.setIfInBounds_toArray, List.set_cons_zero, List.set_cons_succ]
    refine wpAnyH_all (rs := [10, 14]) (by kernel_rfl) (by decide) (fun j hj => ?_)
    rcases (show j = 10 ∨ j = 14 by simpa using hj) with rfl | rfl
    · obtain ⟨_, _, ev2, CL2⟩ := LC.out _ _ _ _ s1 FF1.out fg
      simp only [Value.slice.injEq, true_and] at ev2
      obtain ⟨rfl, rfl⟩ := ev2
      refine op_call (f := 14) (args := #[.int .i64 p.q, .slice fa N fc]) rfl rfl (by simp [go_sem]) (CL2.mono ?_)
      rintro e v2 ⟨bb2, hc⟩
      rcases hc with ⟨_, rfl⟩ | ⟨hc, _⟩
      case inr => exact absurd hc HZ.out
      have s2 : Below w0.heap.size w0 v2 := s1.trans (bb2.mono s1.size)
      have hsl := bb2.size
      refine ⟨_, rfl, s2, ?_⟩
      simp only [Act.put, List.setIfInBounds_toArray, List.set_cons_zero, List.set_cons_succ]
      refine H_take (i := 11) (v := .tuple #[.agg #[.pointer none, .pointer none], .bool true]) (some 62) rfl rfl (by kernel_rfl) (by kernel_rfl) (by kernel_rfl) (fun _ _ _ h => h) rfl (fun X hX => ?_) s2 ?_
      · simp [go_sem]
      simp only [Act.put, List.setIfInBounds_toArray, List.set_cons_zero, List.set_cons_succ]
      refine H_take (i := 12) (v := .agg #[.pointer none, .pointer none]) (some 74) rfl rfl (by kernel_rfl) (by kernel_rfl) (by kernel_rfl) (fun _ _ _ h => h) rfl (fun X hX => ?_) s2 ?_
      · simp [go_sem]
      simp only [Act.put, List.setIfInBounds_toArray, List.set_cons_zero, List.set_cons_succ]
      refine H_take (i := 13) (v := .bool true) (some 75) rfl rfl (by kernel_rfl) (by kernel_rfl) (by kernel_rfl) (fun _ _ _ h => h) rfl (fun X hX => ?_) s2 ?_
      · simp [go_sem]
      simp only [Act.put, List.setIfInBounds_toArray, List.set_cons_zero, List.set_cons_succ]
      refine wpAnyH_all (rs := [14]) (by kernel_rfl) (by decide) (fun j hj => ?_)
      obtain rfl : j = 14 := by simpa using hj
      obtain ⟨xb, hxb⟩ : ∃ xb, xb = v2.heap.size := ⟨_, rfl⟩
      obtain ⟨v3, hv3⟩ : ∃ X, X = v2.alloc (.cells #[.pointer none, .pointer none] 33) := ⟨_, rfl⟩
      have bb3 : Below v2.heap.size v2 v3 := by rw [hv3]; exact (Below.refl _ v2).alloc (Nat.le_refl _) _
      have hbn3 : v3.heap.size = v2.heap.size + 1 := by rw [hv3]; simp
      have XB3 : HidR (v3.heap[xb]? = some (.cells #[.pointer none, .pointer none] 33 (0, 0))) := ⟨by rw [hv3, hxb]; exact heap_alloc_new v2 _⟩
      have s3 : Below w0.heap.size w0 v3 := s2.trans (bb3.mono s2.size)
      have hxl := s2.size
      have hx1 : v2.heap.size ≤ xb := by omega
      have hx2 : xb < v3.heap.size := by omega
      refine op_value (v := .pointer (some ⟨xb, 0, none⟩)) (w' := v3) rfl rfl (by rw [hv3, hxb]; simp [go_sem]) ⟨s3, ?_⟩
      clear hv3 hxb hbn3
      simp only [Act.put, List.setIfInBounds_toArray, List.set_cons_zero, List.set_cons_succ]
      have sqE : Below w0.heap.size w0 (v3.setRow xb #[.pointer none, .pointer none]) := s3.trans ((setRow_kept v3 xb #[.pointer none, .pointer none]).below s3.size (fun j hj e => by omega))
      refine wpAnyH_all (rs := [15]) (by kernel_rfl) (by decide) (fun j hj => ?_)
      obtain rfl : j = 15 := by simpa using hj
      refine op_skip (w' := v3.setRow xb #[.pointer none, .pointer none]) rfl rfl (run_storeRow rfl xb #[.pointer none, .pointer none] rfl rfl 33 #[.pointer none, .pointer none] XB3.out info_pair rfl (by simp [Value.oneCell'])) ⟨sqE, ?_⟩
      refine H_take (i := 16) (v := .bool true) (some 10) rfl rfl (by kernel_rfl) (by kernel_rfl) (by kernel_rfl) (fun _ _ _ h => h) rfl (fun X hX => ?_) sqE ?_
      · simp [go_sem]
      simp only [Act.put, List.setIfInBounds_toArray, List.set_cons_zero, List.set_cons_succ]
      refine wpAnyH_done (by kernel_rfl) ?_ _
      have hxE : (v3.setRow xb #[.pointer none, .pointer none]).heap[xb]? = some (.cells #[.pointer none, .pointer none] 33 (0, 0)) := setRow_heap _ _ _ _ _ _ XB3.out
      obtain ⟨q0, q1⟩ : (v3.setRow xb #[.pointer none, .pointer none]).cell? ⟨xb, 0, none⟩ = some (.pointer none) ∧ (v3.setRow xb #[.pointer none, .pointer none]).cell? ⟨xb, 1, none⟩ = some (.pointer none) := by simp [World.cell?, hxE]
      have t4 := T0.out.later sqE
      have T4 := hideR t4
      clear t4 hxE
      obtain ⟨wE, hwE⟩ : ∃ wE, wE = v3.setRow xb #[.pointer none, .pointer none] := ⟨_, rfl⟩
      rw [← hwE] at q0 q1 T4 ⊢
      clear hwE
      go_wp2_with fail
      go_ret
      exact ⟨rfl, p, vo, vw, P, sz, T4.out, HS.out.same⟩
    · obtain ⟨xb, hxb⟩ : ∃ xb, xb = v1.heap.size := ⟨_, rfl⟩
      obtain ⟨v2, hv2⟩ : ∃ X, X = v1.alloc (.cells #[.pointer none, .pointer none] 33) := ⟨_, rfl⟩
      have bb2 : Below v1.heap.size v1 v2 := by rw [hv2]; exact (Below.refl _ v1).alloc (Nat.le_refl _) _
      have hbn2 : v2.heap.size = v1.heap.size + 1 := by rw [hv2]; simp
      have XB2 : HidR (v2.heap[xb]? = some (.cells #[.pointer none, .pointer none] 33 (0, 0))) := ⟨by rw [hv2, hxb]; exact heap_alloc_new v1 _⟩
      have s2 : Below w0.heap.size w0 v2 := s1.trans (bb2.mono s1.size)
      have hxl := s1.size
      have hx1 : v1.heap.size ≤ xb := by omega
      have hx2 : xb < v2.heap.size := by omega
      refine op_value (v := .pointer (some ⟨xb, 0, none⟩)) (w' := v2) rfl rfl (by rw [hv2, hxb]; simp [go_sem]) ⟨s2, ?_⟩
      clear hv2 hxb hbn2
      simp only [Act.put, List.setIfInBounds_toArray, List.set_cons_zero, List.set_cons_succ]
      refine wpAnyH_all (rs := [10]) (by kernel_rfl) (by decide) (fun j hj => ?_)
      obtain rfl : j = 10 := by simpa using hj
      obtain ⟨_, _, ev3, CL3⟩ := LC.out _ _ _ _ s2 (FF1.out.later bb2) fg
      simp only [Value.slice.injEq, true_and] at ev3
      obtain ⟨rfl, rfl⟩ := ev3
      refine op_call (f := 14) (args := #[.int .i64 p.q, .slice fa N fc]) rfl rfl (by simp [go_sem]) (CL3.mono ?_)
      rintro e v3 ⟨bb3, hc⟩
      rcases hc with ⟨_, rfl⟩ | ⟨hc, _⟩
      case inr => exact absurd hc HZ.out
      have s3 : Below w0.heap.size w0 v3 := s2.trans (bb3.mono s2.size)
      have hsl := bb3.size
      have XB3 := hideR ((bb3.block _ (Array.getElem?_eq_some_iff.1 XB2.out).1).trans XB2.out)
      have hxx := (Array.getElem?_eq_some_iff.1 XB2.out).1
      refine ⟨_, rfl, s3, ?_⟩
      simp only [Act.put, List.setIfInBounds_toArray, List.set_cons_zero, List.set_cons_succ]
      refine H_take (i := 11) (v := .tuple #[.agg #[.pointer none, .pointer none], .bool true]) (some 62) rfl rfl (by kernel_rfl) (by kernel_rfl) (by kernel_rfl) (fun _ _ _ h => h) rfl (fun X hX => ?_) s3 ?_
      · simp [go_sem]
      simp only [Act.put, List.setIfInBounds_toArray, List.set_cons_zero, List.set_cons_succ]
      refine H_take (i := 12) (v := .agg #[.pointer none, .pointer none]) (some 74) rfl rfl (by kernel_rfl) (by kernel_rfl) (by kernel_rfl) (fun _ _ _ h => h) rfl (fun X hX => ?_) s3 ?_
      · simp [go_sem]
      simp only [Act.put, List.setIfInBounds_toArray, List.set_cons_zero, List.set_cons_succ]
      refine H_take (i := 13) (v := .bool true) (some 75) rfl rfl (by kernel_rfl) (by kernel_rfl) (by kernel_rfl) (fun _ _ _ h => h) rfl (fun X hX => ?_) s3 ?_
      · simp [go_sem]
      simp only [Act.put, List.setIfInBounds_toArray, List.set_cons_zero, List.set_cons_succ]
      have sqE : Below w0.heap.size w0 (v3.setRow xb #[.pointer none, .pointer none]) := s3.trans ((setRow_kept v3 xb #[.pointer none, .pointer none]).below s3.size (fun j hj e => by omega))
      refine wpAnyH_all (rs := [15]) (by kernel_rfl) (by decide) (fun j hj => ?_)
      obtain rfl : j = 15 := by simpa using hj
      refine op_skip (w' := v3.setRow xb #[.pointer none, .pointer none]) rfl rfl (run_storeRow rfl xb #[.pointer none, .pointer none] rfl rfl 33 #[.pointer none, .pointer none] XB3.out info_pair rfl (by simp [Value.oneCell'])) ⟨sqE, ?_⟩
      refine H_take (i := 16) (v := .bool true) (some 10) rfl rfl (by kernel_rfl) (by kernel_rfl) (by kernel_rfl) (fun _ _ _ h => h) rfl (fun X hX => ?_) sqE ?_
      · simp [go_sem]
      simp only [Act.put, List.setIfInBounds_toArray, List.set_cons_zero, List.set_cons_succ]
      refine wpAnyH_done (by kernel_rfl) ?_ _
      have hxE : (v3.setRow xb #[.pointer none, .pointer none]).heap[xb]? = some (.cells #[.pointer none, .pointer none] 33 (0, 0)) := setRow_heap _ _ _ _ _ _ XB3.out
      obtain ⟨q0, q1⟩ : (v3.setRow xb #[.pointer none, .pointer none]).cell? ⟨xb, 0, none⟩ = some (.pointer none) ∧ (v3.setRow xb #[.pointer none, .pointer none]).cell? ⟨xb, 1, none⟩ = some (.pointer none) := by simp [World.cell?, hxE]
      have t4 := T0.out.later sqE
      have T4 := hideR t4
      clear t4 hxE
      obtain ⟨wE, hwE⟩ : ∃ wE, wE = v3.setRow xb #[.pointer none, .pointer none] := ⟨_, rfl⟩
      rw [← hwE] at q0 q1 T4 ⊢
      clear hwE
      go_wp2_with fail
      go_ret
      exact ⟨rfl, p, vo, vw, P, sz, T4.out, HS.out.same⟩
  · obtain ⟨xb, hxb⟩ : ∃ xb, xb = w0.drew.heap.size := ⟨_, rfl⟩
    obtain ⟨v1, hv1⟩ : ∃ X, X = w0.drew.alloc (.cells #[.pointer none, .pointer none] 33) := ⟨_, rfl⟩
    have bb1 : Below w0.drew.heap.size w0.drew v1 := by rw [hv1]; exact (Below.refl _ w0.drew).alloc (Nat.le_refl _) _
    have hbn1 : v1.heap.size = w0.drew.heap.size + 1 := by rw [hv1]; simp
    have XB1 : HidR (v1.heap[xb]? = some (.cells #[.pointer none, .pointer none] 33 (0, 0))) := ⟨by rw [hv1, hxb]; exact heap_alloc_new w0.drew _⟩
    have s1 : Below w0.heap.size w0 v1 := s0.trans (bb1.mono s0.size)
    have hxl := s0.size
    have hx1 : w0.drew.heap.size ≤ xb := by omega
    have hx2 : xb < v1.heap.size := by omega
    refine op_value (v := .pointer (some ⟨xb, 0, none⟩)) (w' := v1) rfl rfl (by rw [hv1, hxb]; simp [go_sem]) ⟨s1, ?_⟩
    clear hv1 hxb hbn1
    simp only [Act.put, List.setIfInBounds_toArray, List.set_cons_zero, List.set_cons_succ]
    refine wpAnyH_all (rs := [9]) (by kernel_rfl) (by decide) (fun j hj => ?_)
    obtain rfl : j = 9 := by simpa using hj
    refine op_call (f := 27) (args := #[.pointer (some ⟨o.rb, 0, none⟩)]) rfl rfl (by simp [go_sem]) ((FC.out _ s1).mono ?_)
    rintro e v2 ⟨bb2, vf, G, rfl, ff2, fg⟩
    have s2 : Below w0.heap.size w0 v2 := s1.trans (bb2.mono s1.size)
    have hbz2 := bb2.size
    obtain ⟨fa, fc, rfl, _⟩ := LC.out _ _ _ _ s2 ff2 fg
    have XB2 := hideR ((bb2.block _ (Array.getElem?_eq_some_iff.1 XB1.out).1).trans XB1.out)
    have FF2 := hideR ff2
    clear ff2
    refine ⟨_, rfl, s2, ?_⟩
    simp only [Act.put, List.setIfInBounds_toArray, List.set_cons_zero, List.set_cons_succ]
    refine wpAnyH_all (rs := [10]) (by kernel_rfl) (by decide) (fun j hj => ?_)
    obtain rfl : j = 10 := by simpa using hj
    obtain ⟨_, _, ev3, CL3⟩ := LC.out _ _ _ _ s2 FF2.out fg
    simp only [Value.slice.injEq, true_and] at ev3
    obtain ⟨rfl, rfl⟩ := ev3
    refine op_call (f := 14) (args := #[.int .i64 p.q, .slice fa N fc]) rfl rfl (by simp [go_sem]) (CL3.mono ?_)
    rintro e v3 ⟨bb3, hc⟩
    rcases hc with ⟨_, rfl⟩ | ⟨hc, _⟩
    case inr => exact absurd hc HZ.out
    have s3 : Below w0.heap.size w0 v3 := s2.trans (bb3.mono s2.size)
    have hsl := bb3.size
    have XB3 := hideR ((bb3.block _ (Array.getElem?_eq_some_iff.1 XB2.out).1).trans XB2.out)
    have hxx := (Array.getElem?_eq_some_iff.1 XB2.out).1
    refine ⟨_, rfl, s3, ?_⟩
    simp only [Act.put, List.setIfInBounds_toArray, List.set_cons_zero, List.set_cons_succ]
    refine H_take (i := 11) (v := .tuple #[.agg #[.pointer none, .pointer none], .bool true]) (some 62) rfl rfl (by kernel_rfl) (by kernel_rfl) (by kernel_rfl) (fun _ _ _ h => h) rfl (fun X hX => ?_) s3 ?_
    · simp [go_sem]
    simp only [Act.put, List.setIfInBounds_toArray, List.set_cons_zero, List.set_cons_succ]
    refine H_take (i := 12) (v := .agg #[.pointer none, .pointer none]) (some 74) rfl rfl (by kernel_rfl) (by kernel_rfl) (by kernel_rfl) (fun _ _ _ h => h) rfl (fun X hX => ?_) s3 ?_
    · simp [go_sem]
    simp only [Act.put, List.setIfInBounds_toArray, List.set_cons_zero, List.set_cons_succ]
    refine H_take (i := 13) (v := .bool true) (some 75) rfl rfl (by kernel_rfl) (by kernel_rfl) (by kernel_rfl) (fun _ _ _ h => h) rfl (fun X hX => ?_) s3 ?_
    · simp [go_sem]
    simp only [Act.put, List.setIfInBounds_toArray, List.set_cons_zero, List.set_cons_succ]
    have sqE : Below w0.heap.size w0 (v3.setRow xb #[.pointer none, .pointer none]) := s3.trans ((setRow_kept v3 xb #[.pointer none, .pointer none]).below s3.size (fun j hj e => by omega))
    refine wpAnyH_all (rs := [15]) (by kernel_rfl) (by decide) (fun j hj => ?_)
    obtain rfl : j = 15 := by simpa using hj
    refine op_skip (w' := v3.setRow xb #[.pointer none, .pointer none]) rfl rfl (run_storeRow rfl xb #[.pointer none, .pointer none] rfl rfl 33 #[.pointer none, .pointer none] XB3.out info_pair rfl (by simp [Value.oneCell'])) ⟨sqE, ?_⟩
    refine H_take (i := 16) (v := .bool true) (some 10) rfl rfl (by kernel_rfl) (by kernel_rfl) (by kernel_rfl) (fun _ _ _ h => h) rfl (fun X hX => ?_) sqE ?_
    · simp [go_sem]
    simp only [Act.put, List.setIfInBounds_toArray, List.set_cons_zero, List.set_cons_succ]
    refine wpAnyH_done (by kernel_rfl) ?_ _
    have hxE : (v3.setRow xb #[.pointer none, .pointer none]).heap[xb]? = some (.cells #[.pointer none, .pointer none] 33 (0, 0)) := setRow_heap _ _ _ _ _ _ XB3.out
    obtain ⟨q0, q1⟩ : (v3.setRow xb #[.pointer none, .pointer none]).cell? ⟨xb, 0, none⟩ = some (.pointer none) ∧ (v3.setRow xb #[.pointer none, .pointer none]).cell? ⟨xb, 1, none⟩ = some (.pointer none) := by simp [World.cell?, hxE]
    have t4 := T0.out.later sqE
    have T4 := hideR t4
    clear t4 hxE
    obtain ⟨wE, hwE⟩ : ∃ wE, wE = v3.setRow xb #[.pointer none, .pointer none] := ⟨_, rfl⟩
    rw [← hwE] at q0 q1 T4 ⊢
    clear hwE
    go_wp2_with fail
    go_ret
    exact ⟨rfl, p, vo, vw, P, sz, T4.out, HS.out.same⟩
end Go.Proofs.Ytnpofjeiamjioaa
