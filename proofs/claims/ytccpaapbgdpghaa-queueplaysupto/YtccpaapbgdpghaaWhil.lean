/-
  The walk of while.
-/
import Derived.Test.YtccpaapbgdpghaaWls
import Derived.Test.YtccpaapbgdpghaaRoundH
import Derived.Test.YtccpaapbgdpghaaPairQ
namespace Go.Proofs.Ytccpaapbgdpghaa
open Go.RowKit
set_option maxRecDepth 1000000 in
theorem pick_zero (w : World) (c : Int) :
    Calls Try.prog 16 #[.int .i64 c, .int .i64 0] w fun e w' => e = .returned (.int .i64 0) ∧ w' = w := by
  go_enter Try.func16, Try.ntmps16
  go_wp2_with fail
  go_ret
  exact ⟨rfl, rfl⟩
theorem pick_all (w : World) (c : Int) (n : Nat) (hc : -9223372036854775808 ≤ c ∧ c ≤ 9223372036854775807) (hn2 : n ≤ 9223372036854775807) :
    Calls Try.prog 16 #[.int .i64 c, .int .i64 (n : Int)] w fun e w' => (∃ r : Nat, e = .returned (.int .i64 (r : Int)) ∧ (0 < n → r < n)) ∧ w' = w := by
  cases n with
  | zero =>
    refine (pick_zero w c).mono ?_
    rintro e w' ⟨h1, h2⟩
    exact ⟨⟨0, h1, fun h => by omega⟩, h2⟩
  | succ n =>
    refine (pick_any w c (n + 1) hc (by omega) hn2).mono ?_
    rintro e w' ⟨⟨r, h1, h2⟩, h3⟩
    exact ⟨⟨r, h2, fun _ => h1⟩, h3⟩
theorem still_row {P : Program} {ops : Array Oper} {w : World} {Q : Act → Prop} {a : Act} {o : Oper} {rest : List Oper} (v : Value) (d : Option Tmp) (hd : o.dst = d) (hg : Region.wanted o (yielded ops a.tmps) = true) (hr : (execOp a.eval o).run P w = .ok (.value v) w) (h : wpStill P ops w Q rest (a.put d v)) : wpStill P ops w Q (o :: rest) a := by
  show if Region.wanted o (yielded ops a.tmps) then o.still P a w (wpStill P ops w Q rest) else _
  subst hd
  rw [if_pos hg]
  unfold Oper.still
  rw [hr, Oper.stillUpon_value]
  exact h
attribute [local go_sem] Oper.semAt_some wide_fn run_store_func
set_option maxHeartbeats 8000000 in
set_option maxRecDepth 1000000 in
theorem while_any (B : Nat) (w : World) (qb mb rb : Nat) (given n x : Int) (R : List Stand) (vt vh : Value) (T H : List Int) (hq : QueueAtI w qb mb given R) (hr : RefAt B w rb given vt vh T H) (ha : Alike R T H) (hR : R.length ≤ 1073741822) (hB : B ≤ w.heap.size) (hn : -9223372036854775808 ≤ n ∧ n ≤ 9223372036854775807) (hx : -9223372036854775808 ≤ x ∧ x ≤ 9223372036854775807) (hg : given < 4611686018427387903) :
    Calls Try.prog 36 #[.agg #[.pointer (some ⟨qb, 0, none⟩), .pointer (some ⟨rb, 0, none⟩)], .int .i64 n, .int .i64 x] w fun e w' => e = .returned (.bool true) ∧ ∃ p', Turned B w ⟨qb, mb, rb, given, R, vt, vh, T, H⟩ p' w' := by
  have HQ := hideR hq
  have HA := hideR ha
  obtain ⟨W3, hW3⟩ : ∃ W3, W3 = ((w.alloc (.cells #[.pointer (some ⟨qb, 0, none⟩), .pointer (some ⟨rb, 0, none⟩)] 36)).alloc (.cells #[.int .i64 x] 3)).alloc (.cells #[.bool false] 4) := ⟨_, rfl⟩
  have B3 : Below w.heap.size w W3 := by rw [hW3]; exact (((Below.refl _ w).alloc (Nat.le_refl _) _).alloc (by simp) _).alloc (by simp; omega) _
  have HRR := hideR (hr.below B3)
  have CL := hideR (refCloneQ B W3 rb given vt vh T H HRR.out (by rw [ha.lenT]; omega) (by rw [ha.lenH]; omega))
  have H3 := hideR hW3
  have HB3 := hideR B3
  have HW := HidR.mk (p := ∀ k, RMine rb vt vh k → k < w.heap.size) (fun k e => hr.lt e)
  have HH := hideR (And.intro hR (And.intro hn (And.intro hx hg)))
  have hlt := HA.out.lenT
  clear hq hr ha B3 hR hn hx hg
  refine (callsIn_wide (n := 3)).1 ?_
  refine callsIn_of_wp_marks Try.func36 rfl trivial ?_ rfl
  simp only [Try.ntmps36, List.size_toArray, List.length_cons, List.length_nil, Nat.reduceAdd, Nat.reduceSub, Array.replicate_succ, Array.replicate_zero, List.push_toArray, List.append_toArray, List.nil_append, List.cons_append]
  refine wpIn_wide.2 ?_
  go_wp2_with fail
  rw [← hW3]
  clear hW3
  refine CL.out.mono ?_
  rintro e W4 ⟨b4, rfl, vt2, vh2, r4⟩
  have R4 := hideR (And.intro b4 r4)
  obtain ⟨at_, ct, evt⟩ := r4.rt.form
  have cR0 : W4.cell? ⟨W3.heap.size, 0, none⟩ = some (.slice at_ T.length ct) := by rw [← evt]; simp [World.cell?, r4.box]
  have hrl := cell_lt cR0
  clear b4 r4 evt
  go_wp2_with fail
  refine (pick_all _ n R.length HH.out.2.1 (by have := HH.out.1; omega)).mono ?_
  rintro e W5 ⟨⟨a, rfl, haR⟩, hW5⟩
  obtain ⟨b4, r4⟩ := R4.out
  have hW3 := H3.out
  obtain ⟨V1, hV1⟩ : ∃ V1, V1 = w.alloc (.cells #[.pointer (some ⟨qb, 0, none⟩), .pointer (some ⟨rb, 0, none⟩)] 36) := ⟨_, rfl⟩
  have x1 : V1.heap[w.heap.size]? = some (.cells #[.pointer (some ⟨qb, 0, none⟩), .pointer (some ⟨rb, 0, none⟩)] 36 (0, 0)) := by rw [hV1]; exact heap_alloc_new w _
  have z1 : V1.heap.size = w.heap.size + 1 := by rw [hV1]; simp
  have b1 : Below w.heap.size w V1 := by rw [hV1]; exact (Below.refl _ w).alloc (Nat.le_refl _) _
  rw [← hV1] at hW3
  obtain ⟨V2, hV2⟩ : ∃ V2, V2 = V1.alloc (.cells #[.int .i64 x] 3) := ⟨_, rfl⟩
  have x2 : V2.heap[w.heap.size + 1]? = some (.cells #[.int .i64 x] 3 (0, 0)) := by rw [hV2, ← z1]; exact heap_alloc_new V1 _
  have z2 : V2.heap.size = w.heap.size + 1 + 1 := by rw [hV2]; simp [z1]
  have b2 : Below V1.heap.size V1 V2 := by rw [hV2]; exact (Below.refl _ V1).alloc (Nat.le_refl _) _
  rw [← hV2] at hW3
  have x3 : W3.heap[w.heap.size + 1 + 1]? = some (.cells #[.bool false] 4 (0, 0)) := by rw [hW3, ← z2]; exact heap_alloc_new V2 _
  have z3 : W3.heap.size = w.heap.size + 1 + 1 + 1 := by rw [hW3]; simp [z2]
  have b3 : Below V2.heap.size V2 W3 := by rw [hW3]; exact (Below.refl _ V2).alloc (Nat.le_refl _) _
  have x5 : W5.heap[W4.heap.size]? = some (.cells #[.pointer (some ⟨W3.heap.size, 0, none⟩)] 31 (0, 0)) := by rw [hW5]; exact heap_alloc_new W4 _
  have z5 : W5.heap.size = W4.heap.size + 1 := by rw [hW5]; simp
  have b5 : Below W4.heap.size W4 W5 := by rw [hW5]; exact (Below.refl _ W4).alloc (Nat.le_refl _) _
  have b35 : Below W3.heap.size W3 W5 := b4.trans (b5.mono b4.size)
  have b25 : Below V2.heap.size V2 W5 := b3.trans (b35.mono b3.size)
  have b15 : Below V1.heap.size V1 W5 := b2.trans (b25.mono b2.size)
  have b05 : Below w.heap.size w W5 := b1.trans (b15.mono b1.size)
  have y1 := (b15.block _ (by omega)).trans x1
  have y2 := (b25.block _ (by omega)).trans x2
  have y3 := (b35.block _ (by omega)).trans x3
  have r5 := r4.below b5
  have hz4 := b4.size
  have hown : ∀ k, RMine W3.heap.size vt2 vh2 k → w.heap.size ≤ k ∧ k < W4.heap.size := fun k hk => ⟨by have := r4.base hk; omega, r4.lt hk⟩
  have q5 := HQ.out.keptQ (P := fun _ => False) (Kept.ofBelow b05) (fun _ _ h => h)
  have rr5 := HRR.out.below b35
  have p0 : W5.cell? ⟨w.heap.size, 0, none⟩ = some (.pointer (some ⟨qb, 0, none⟩)) := by simp [World.cell?, y1]
  have hl5 : w.heap.size < W5.heap.size := by omega
  have H5 := hideR (And.intro b05 (And.intro y1 (And.intro y2 (And.intro y3 (And.intro x5 (And.intro r5 (And.intro hown (And.intro q5 rr5))))))))
  have HZ := hideR (And.intro z3 (And.intro hz4 (And.intro z5 haR)))
  have AL := hideR (fun w => allI w qb)
  clear hW5 haR cR0 hrl hV1 hV2 hW3 x1 x2 x3 x5 b1 b2 b3 b4 b5 b35 b25 b15 b05 y1 y2 y3 r4 r5 q5 rr5 hown z1 z2 z3 z5 hz4
  go_wp2_with fail
  refine (AL.out _).mono ?_
  rintro e W8 ⟨rfl, hW8⟩
  have HW8 := hideR hW8
  clear hW8 AL
  go_wp2_with fail
  have hW8 := HW8.out
  obtain ⟨b05, y1, y2, y3, x5, r5, hown, q5, rr5⟩ := H5.out
  obtain ⟨z3, hz4, z5, haR⟩ := HZ.out
  obtain ⟨V6, hV6⟩ : ∃ V6, V6 = W5.alloc (.cells #[.int .i64 (a : Int)] 3) := ⟨_, rfl⟩
  have x6 : V6.heap[W5.heap.size]? = some (.cells #[.int .i64 (a : Int)] 3 (0, 0)) := by rw [hV6]; exact heap_alloc_new W5 _
  have z6 : V6.heap.size = W5.heap.size + 1 := by rw [hV6]; simp
  have b6 : Below W5.heap.size W5 V6 := by rw [hV6]; exact (Below.refl _ W5).alloc (Nat.le_refl _) _
  rw [← hV6] at hW8
  obtain ⟨V7, hV7⟩ : ∃ V7, V7 = V6.alloc (.cells #[.int .i64 0] 3) := ⟨_, rfl⟩
  have x7 : V7.heap[W5.heap.size + 1]? = some (.cells #[.int .i64 0] 3 (0, 0)) := by rw [hV7, ← z6]; exact heap_alloc_new V6 _
  have z7 : V7.heap.size = W5.heap.size + 1 + 1 := by rw [hV7]; simp [z6]
  have b7 : Below V6.heap.size V6 V7 := by rw [hV7]; exact (Below.refl _ V6).alloc (Nat.le_refl _) _
  rw [← hV7] at hW8
  have x8 : W8.heap[W5.heap.size + 1 + 1]? = some (.cells #[.pointer (some ⟨qb, 0, none⟩)] 29 (0, 0)) := by rw [hW8, ← z7]; exact heap_alloc_new V7 _
  have z8 : W8.heap.size = W5.heap.size + 1 + 1 + 1 := by rw [hW8]; simp [z7]
  have b8 : Below V7.heap.size V7 W8 := by rw [hW8]; exact (Below.refl _ V7).alloc (Nat.le_refl _) _
  have b68 : Below V6.heap.size V6 W8 := b7.trans (b8.mono b7.size)
  have b58 : Below W5.heap.size W5 W8 := b6.trans (b68.mono b6.size)
  have b08 : Below w.heap.size w W8 := b05.trans (b58.mono b05.size)
  obtain ⟨bp, hbp⟩ : ∃ bp, bp = w.heap.size := ⟨_, rfl⟩
  obtain ⟨bx, hbx⟩ : ∃ bx, bx = w.heap.size + 1 := ⟨_, rfl⟩
  obtain ⟨rx, hrx⟩ : ∃ rx, rx = w.heap.size + 1 + 1 := ⟨_, rfl⟩
  obtain ⟨rc, hrc⟩ : ∃ rc, rc = W3.heap.size := ⟨_, rfl⟩
  obtain ⟨cl, hcl⟩ : ∃ cl, cl = W4.heap.size := ⟨_, rfl⟩
  obtain ⟨ba, hba⟩ : ∃ ba, ba = W5.heap.size := ⟨_, rfl⟩
  obtain ⟨bi, hbi⟩ : ∃ bi, bi = W5.heap.size + 1 := ⟨_, rfl⟩
  obtain ⟨cb, hcb⟩ : ∃ cb, cb = W5.heap.size + 1 + 1 := ⟨_, rfl⟩
  rw [← hrx, ← hbx, ← hbp, ← hrc, ← hcl, ← hcb, ← hbi, ← hba]
  have iL : WlL w.heap.size W8.heap.size qb rb rc bp bx rx cl ba cb bi x (a : Int) given vt2 vh2 T H 0 W8 := by
    have r8 := r5.below b58
    refine ⟨by rw [hcb]; exact x8, ⟨by rw [hrc]; exact r8.box, Nums.monoQ r8.rt (by omega), Nums.monoQ r8.rh (by omega), r8.ap, by omega⟩, by rw [hbp]; exact (b58.block _ (by omega)).trans y1, by rw [hbx]; exact (b58.block _ (by omega)).trans y2, by rw [hrx]; exact (b58.block _ (by omega)).trans y3, ?_, by rw [hba]; exact (b68.block _ (by omega)).trans x6, by rw [hbi]; exact (b8.block _ (by omega)).trans x7, fun k hk => ?_, fun k hk => ?_, by omega⟩
    · rw [hcl, hrc]; exact (b58.block _ (by omega)).trans x5
    · rw [hrc] at hk
      have := hown k hk
      omega
    · rw [hrc] at hk
      have := hown k hk
      omega
  have iS : WlS w B W8.heap.size qb mb rb R vt vh R.length given R T H vt vh W8 :=
    ⟨q5.keptQ (P := fun _ => False) (Kept.ofBelow b58) (fun _ _ h => h), rr5.below b58, HA.out, Nat.le_refl _, fun k e => .inl e, fun k e => .inl e, Kept.mono (P := fun _ => False) (Kept.ofBelow b08) (fun k _ h => False.elim h), Nat.le_refl _, hB, b08.size, fun k e => HQ.out.part.lt e, fun k e => HW.out k e⟩
  have HL := hideR iL
  have HS := hideR iS
  have HaR := hideR haR
  have hmb : mb < W8.heap.size := Nat.lt_of_lt_of_le HQ.out.tab.lt b08.size
  have hlo := iL.lo1
  clear HW8 H5 HZ hW8 b05 y1 y2 y3 x5 r5 hown q5 rr5 z3 hz4 z5 haR hV6 x6 z6 b6 hV7 x7 z7 b7 x8 z8 b8 b68 b58 b08 hbp hbx hrx hrc hcl hba hbi hcb iL iS R4 HB3 H3 p0 hl5 HRR CL
  refine (wpIn_wide (n := 3)).1 ?_
  refine wpIn_told rfl (by omega) (gf := 26) (lb := #[.pointer (some ⟨cb, 0, none⟩)]) rfl trivial (enters_of Try.func26 (by kernel_rfl) rfl)
    (all1_toldI 2 cb qb mb given R W8 HS.out.q HL.out.box (by have := HH.out.1; omega) HA.out.ints) (fun h k => h.trans k) (fun W l o o' _ hl ho _ => KpI.put W l o o' hl ho) (Below.refl _ _) (fun _ => rfl)
    (fun pre W => WlL w.heap.size W8.heap.size qb rb rc bp bx rx cl ba cb bi x (a : Int) given vt2 vh2 T H pre.length W ∧ WlInv w B W8.heap.size qb mb rb given R vt vh a pre.length W)
    (fun _ _ _ => False)
    (fun pre W W' row hs hgr hr => by
      obtain ⟨h1, S, g, R', T', H', vt', vh', h2, h3⟩ := hs
      exact ⟨h1.own' hgr hr, S, g, R', T', H', vt', vh', h2.own hmb hgr hr, h3⟩)
    (fun _ _ _ _ _ h _ _ => h.elim)
    (fun pre x A _ _ _ _ h _ _ => h)
    ⟨HL.out, R.length, given, R, T, H, vt, vh, HS.out, by omega, by omega, fun _ => ⟨rfl, rfl⟩⟩
    ?a1 ?assign ?body ?done ?stop
  case assign =>
    intro l x W K hK
    gi_wp2
    exact hK
  case body =>
    rintro id pre ⟨xb, xt, xv⟩ A W hid _ _ _ _ ⟨i1, inv⟩ hx hlt2
    obtain ⟨hT, y, hH, hxv⟩ := HA.out.at hx
    simp only [] at hxv hT
    subst hxv
    obtain ⟨n, hn'⟩ : ∃ n, n = pre.length := ⟨_, rfl⟩
    rw [← hn'] at i1 hlt2 hT hH inv
    have HN : HidR ((pre ++ [(⟨xb, xt, .int .i64 y⟩ : Stand)]).length = n + 1) := ⟨by rw [List.length_append, ← hn']; rfl⟩
    obtain ⟨at_, ct, evt⟩ := i1.r.rt.form
    obtain ⟨ah, ch, evh⟩ := i1.r.rh.form
    have hTl : T.length = R.length := HA.out.lenT
    have hHl : H.length = R.length := HA.out.lenH
    rw [hTl] at evt
    rw [hHl] at evh
    have rt := i1.r.rt
    have rh := i1.r.rh
    rw [evt] at rt
    rw [evh] at rh
    obtain ⟨gt, et, y1⟩ := rt.cell hT
    obtain ⟨gh, eh, y2⟩ := rh.cell hH
    subst et eh
    have t3 : ¬ (R.length : Int) ≤ (n : Int) := by omega
    have t6 : decide (R.length ≤ n) = false := decide_eq_false (by omega)
    have t4 : (n : Int) < (R.length : Int) := by omega
    have cI : W.cell? ⟨bi, 0, none⟩ = some (.int .i64 (n : Int)) := by simp [World.cell?, i1.xbi]
    have fI : W.frozen? ⟨bi, 0, none⟩ = false := by simp [World.frozen?, i1.xbi]
    have cA : W.cell? ⟨ba, 0, none⟩ = some (.int .i64 (a : Int)) := by simp [World.cell?, i1.xba]
    have cC : W.cell? ⟨cl, 0, none⟩ = some (.pointer (some ⟨rc, 0, none⟩)) := by simp [World.cell?, i1.xcl]
    have cR0 : W.cell? ⟨rc, 0, none⟩ = some (.slice (some ⟨gt, 0, none⟩) R.length ct) := by rw [← evt]; simp [World.cell?, i1.r.box]
    have cR1 : W.cell? ⟨rc, 1, none⟩ = some (.slice (some ⟨gh, 0, none⟩) R.length ch) := by rw [← evh]; simp [World.cell?, i1.r.box]
    have hnS : (n : Int) < 1073741823 := by have := HH.out.1; omega
    have HJ := hideR (And.intro i1 inv)
    have HE := hideR (And.intro evt rt)
    have HL2 := hideR (And.intro hlt2 (And.intro hTl hHl))
    clear i1 inv hx hid hn' hlt2 rt rh evt evh hT hH hTl hHl
    gi_wp2
    refine wpIn_quiet_round (F := Fence.wide) rfl (by kernel_rfl) (by kernel_rfl) (by kernel_rfl) ?_
    repeat (gi_big_quiet_step (fail))
    refine wpQuietIn_nil ?_
    rintro _ ⟨nq, rfl⟩
    have HD1 := hideR (HJ.out.1.kept (P := fun _ => False) (W' := W.drewN nq) ⟨rfl, rfl, rfl, Nat.le_refl _, fun _ _ _ => rfl⟩ (fun _ _ _ h => h))
    by_cases hna : n = a
    · have t7 : ((n : Int) == (a : Int)) = true := by simp; omega
      have cXp := (Array.getElem?_eq_some_iff.1 HD1.out.xp).1
      have dC : (W.drewN nq).drew.cell? ⟨cl, 0, none⟩ = some (.pointer (some ⟨rc, 0, none⟩)) := cC
      have dR0 : (W.drewN nq).drew.cell? ⟨rc, 0, none⟩ = some (.slice (some ⟨gt, 0, none⟩) R.length ct) := cR0
      have hpos : (0 : Int) < (R.length : Int) := by omega
      have tpos : 0 < R.length := by omega
      obtain ⟨t0, ht0⟩ : ∃ t0, T[0]? = some t0 := ⟨_, List.getElem?_eq_getElem (by omega)⟩
      obtain ⟨gt', et', yz⟩ := HE.out.2.cell ht0
      obtain rfl : gt = gt' := by injection et' with e; injection e
      have dT0 : (W.drewN nq).drew.cell? ⟨gt, 0, none⟩ = some (.int .i64 t0) := yz
      clear et' yz
      gi_wp2
      refine round_tail 7 mixed (by kernel_rfl) (by kernel_rfl) ?_
      simp only [List.take_succ_cons, List.take_zero, List.drop_succ_cons, List.drop_zero]
      refine still_row (.agg #[.pointer (some ⟨qb, 0, none⟩), .pointer (some ⟨rb, 0, none⟩)]) (some 62) rfl (by kernel_rfl) (run_loadRow rfl rfl (w := (W.drewN nq).drew) HD1.out.xp Try.underlying36 rfl rfl) ?_
      simp only [Act.put, List.setIfInBounds_toArray, List.set_cons_zero, List.set_cons_succ]
      repeat still_step
      refine still_row (.int .i64 t0) (some 68) rfl (by kernel_rfl) (run_load1 rfl rfl (fun w => by simp [go_sem]) (by simpa using dT0)) ?_
      simp only [Act.put, List.setIfInBounds_toArray, List.set_cons_zero, List.set_cons_succ]
      refine wpStill_nil ?_
      clear cXp dC dR0 dT0 y1 y2 cI fI cA cC cR0 cR1 t3 t4 t6 t7 hpos tpos
      obtain ⟨j1, S0, g0, R0, T0, H0, vt0, vh0, j2, j3, j4, j5⟩ := HJ.out
      obtain ⟨rfl, rfl⟩ := j5 (by omega)
      have hE : Below W.heap.size W (W.drewN (nq + 1)) := ⟨rfl, rfl, rfl, Nat.le_refl _, fun _ _ => rfl⟩
      have l1 := j1.kept (P := fun _ => False) (Kept.ofBelow hE) (fun _ _ _ h => h)
      have s1 : WlS w B W8.heap.size qb mb rb R vt vh R.length g0 R0 T0 H0 vt0 vh0 (W.drewN (nq + 1)) := ⟨j2.q.keptQ (P := fun _ => False) (Kept.ofBelow hE) (fun _ _ h => h), j2.r.below hE, j2.al, j2.sz, j2.frQ, j2.frR, j2.kp.trans (Kept.mono (P := fun _ => False) (Kept.ofBelow hE) (fun k _ h => False.elim h)), j2.big.1, j2.big.2⟩
      have hwt : (Lit.int .i64 t0).wf = true := by
        have hm := List.mem_of_getElem? ht0
        rw [← HA.out.tk] at hm
        obtain ⟨r, hr1, hr2⟩ := List.mem_map.1 hm
        have := HQ.out.le r hr1
        have := HH.out.2.2.2
        exact WalkArith.wf_i64 (by omega)
      have L1 := hideR (leave_any B (W.drewN (nq + 1)) qb mb rb g0 g0 t0 R0 vt0 vh0 T0 H0 s1.q s1.r s1.al (by have := s1.sz; have := HH.out.1; omega) (by have := s1.big; omega) hwt)
      have HS1 := hideR s1
      have HL1 := hideR l1
      clear j1 j2 j3 j4 j5 hE l1 s1 hwt
      gi_wp2
      refine CallsIn.mono (show CallsIn (Fence.wide.inRound id) _ _ _ _ _ _ from callsIn_wide.2 L1.out) ?_
      rintro e U1 ⟨rfl, q1, vt3, vh3, r3, a3, k3, kp3, f3, kf3⟩
      have HU1 := hideR (And.intro (HS1.out.left q1 r3 a3 k3 f3) (And.intro (HL1.out.kept k3 (fun k h1 h2 e => HS1.out.out k h1 h2 (e.imp mine_filter fun h => h))) (And.intro kp3 (kf3 _ hmb))))
      clear q1 r3 a3 k3 kp3 f3 kf3 L1 HL1
      obtain ⟨t1, ht1⟩ : ∃ t1, T[R.length - 1]? = some t1 := ⟨_, List.getElem?_eq_getElem (by have := HL2.out; omega)⟩
      have rt1 := HU1.out.2.1.r.rt
      rw [HE.out.1] at rt1
      obtain ⟨gt', et', yz⟩ := rt1.cell ht1
      obtain rfl : gt = gt' := by injection et' with e; injection e
      have dT1 : U1.drew.cell? ⟨gt, R.length - 1, none⟩ = some (.int .i64 t1) := yz
      have xC1 : U1.drew.heap[cl]? = _ := HU1.out.2.1.xcl
      have dC : U1.drew.cell? ⟨cl, 0, none⟩ = some (.pointer (some ⟨rc, 0, none⟩)) := by simp only [World.cell?, xC1]; simp
      have xR1 : U1.drew.heap[rc]? = _ := HU1.out.2.1.r.box
      have dR0 : U1.drew.cell? ⟨rc, 0, none⟩ = some (.slice (some ⟨gt, 0, none⟩) R.length ct) := by rw [← HE.out.1]; simp only [World.cell?, xR1]; simp
      have e1 : ((R.length : Int) - 1).toNat = R.length - 1 := by omega
      have e2 : (0 : Int) ≤ (R.length : Int) - 1 := by have := HL2.out; omega
      have e3 : (R.length : Int) - 1 < (R.length : Int) := by omega
      have e4 : wrap64 ((R.length : Int) - 1) = (R.length : Int) - 1 := by have h9 := HH.out.1; have h8 := HL2.out; apply IntWalk.wrap64_in <;> omega
      have e5 : IntKind.i64.wrap ((R.length : Int) - 1) = (R.length : Int) - 1 := by have h9 := HH.out.1; have h8 := HL2.out; apply IntWalk.i64_in <;> omega
      clear et' yz rt1 xC1 xR1
      gi_wp2
      refine round_tail 13 mixed (by kernel_rfl) (by kernel_rfl) ?_
      simp only [List.take_succ_cons, List.take_zero, List.drop_succ_cons, List.drop_zero]
      refine still_row (.agg #[.pointer (some ⟨qb, 0, none⟩), .pointer (some ⟨rb, 0, none⟩)]) (some 70) rfl (by kernel_rfl) (run_loadRow rfl rfl (w := U1.drew) HU1.out.2.1.xp Try.underlying36 rfl rfl) ?_
      simp only [Act.put, List.setIfInBounds_toArray, List.set_cons_zero, List.set_cons_succ]
      repeat still_step
      refine still_row (.pointer (some ⟨gt, R.length - 1, none⟩)) (some 81) rfl (by kernel_rfl) (by simp [go_sem, e1, e3]; intro h; omega) ?_
      simp only [Act.put, List.setIfInBounds_toArray, List.set_cons_zero, List.set_cons_succ]
      refine still_row (.int .i64 t1) (some 82) rfl (by kernel_rfl) (run_load1 rfl rfl (fun w => by simp [go_sem]) dT1) ?_
      simp only [Act.put, List.setIfInBounds_toArray, List.set_cons_zero, List.set_cons_succ]
      refine wpStill_nil ?_
      have hwt : (Lit.int .i64 t1).wf = true := by
        have hm := List.mem_of_getElem? ht1
        rw [← HA.out.tk] at hm
        obtain ⟨r, hr1, hr2⟩ := List.mem_map.1 hm
        have := HQ.out.le r hr1
        have := HH.out.2.2.2
        exact WalkArith.wf_i64 (by omega)
      have hE2 : Below U1.heap.size U1 (U1.drew) := ⟨rfl, rfl, rfl, Nat.le_refl _, fun _ _ => rfl⟩
      have s2 := HU1.out.1.below hE2
      have L2 := hideR (leave_any B U1.drew qb mb rb g0 g0 t1 _ vt3 vh3 _ _ s2.q s2.r s2.al (by have := s2.sz; have := HH.out.1; omega) (by have := s2.big; exact Nat.le_trans this.2.1 (Nat.le_trans this.2.2.1 this.1)) hwt)
      have HS2 := hideR s2
      have HL3 := hideR (HU1.out.2.1.kept (P := fun _ => False) (Kept.ofBelow hE2) (fun _ _ _ h => h))
      clear dT1 dC dR0 e1 e2 e3 e4 e5 hE2 s2 hwt
      gi_wp2
      refine CallsIn.mono (show CallsIn (Fence.wide.inRound id) _ _ _ _ _ _ from callsIn_wide.2 L2.out) ?_
      rintro e U2 ⟨rfl, q2, vt4, vh4, r4, a4, k4, kp4, f4, kf4⟩
      have HU2 := hideR (And.intro (HS2.out.left q2 r4 a4 k4 f4) (And.intro (HL3.out.kept k4 (fun k h1 h2 e => HS2.out.out k h1 h2 (e.imp mine_filter fun h => h))) (And.intro kp4 (kf4 _ hmb))))
      clear q2 r4 a4 k4 kp4 f4 kf4 L2 HL3
      have xP2 := HU2.out.2.1.xp
      have xX2 := HU2.out.2.1.xx
      have p0 : U2.cell? ⟨bp, 0, none⟩ = some (.pointer (some ⟨qb, 0, none⟩)) := by simp only [World.cell?, xP2]; simp
      have p1 : U2.cell? ⟨bp, 1, none⟩ = some (.pointer (some ⟨rb, 0, none⟩)) := by simp only [World.cell?, xP2]; simp
      have px : U2.cell? ⟨bx, 0, none⟩ = some (.int .i64 x) := by simp only [World.cell?, xX2]; simp
      have hwx : (Lit.int .i64 x).wf = true := WalkArith.wf_i64 HH.out.2.2.1
      have s3 := HU2.out.1
      have L3 := hideR (leave_any B U2 qb mb rb g0 g0 x _ vt4 vh4 _ _ s3.q s3.r s3.al (by have := s3.sz; have := HH.out.1; omega) (by have := s3.big; exact Nat.le_trans this.2.1 (Nat.le_trans this.2.2.1 this.1)) hwx)
      clear xP2 xX2 s3 hwx
      gi_wp2
      refine CallsIn.mono (show CallsIn (Fence.wide.inRound id) _ _ _ _ _ _ from callsIn_wide.2 L3.out) ?_
      rintro e U3 ⟨rfl, q3, vt5, vh5, r5, a5, k5, kp5, f5, kf5⟩
      have HU3 := hideR (And.intro (HU2.out.1.left q3 r5 a5 k5 f5) (And.intro (HU2.out.2.1.kept k5 (fun k h1 h2 e => HU2.out.1.out k h1 h2 (e.imp mine_filter fun h => h))) (And.intro kp5 (kf5 _ hmb))))
      clear q3 r5 a5 k5 kp5 f5 kf5 L3 p0 p1 px
      obtain ⟨R4, T4, H4, s40⟩ : ∃ R4 T4 H4, WlS w B W8.heap.size qb mb rb R vt vh R.length g0 R4 T4 H4 vt5 vh5 U3 := ⟨_, _, _, HU3.out.1⟩
      have s4 := s40.below (W' := U3.drew) ⟨rfl, rfl, rfl, Nat.le_refl _, fun _ _ => rfl⟩
      have l4 := HU3.out.2.1.kept (P := fun _ => False) (W' := U3.drew) ⟨rfl, rfl, rfl, Nat.le_refl _, fun _ _ _ => rfl⟩ (fun _ _ _ h => h)
      clear s40
      have HS4 := hideR s4
      have HL4 := hideR l4
      have JJ := hideR (joinI U3.drew qb mb g0 (.int .i64 x) R4 s4.q (by have := HH.out.2.2.2; omega) (by have := s4.sz; have := HH.out.1; unfold maxLen; omega) ⟨x, rfl⟩)
      have sq : (fun X : World => X.heap[bp]? = some (.cells #[.pointer (some ⟨qb, 0, none⟩), .pointer (some ⟨rb, 0, none⟩)] 36 (0, 0)) ∧ X.heap[bx]? = some (.cells #[.int .i64 x] 3 (0, 0))) U3.drew := ⟨l4.xp, l4.xx⟩
      clear s4 l4
      gi_wp2
      refine round_held (fun X => X.heap[bp]? = some (.cells #[.pointer (some ⟨qb, 0, none⟩), .pointer (some ⟨rb, 0, none⟩)] 36 (0, 0)) ∧ X.heap[bx]? = some (.cells #[.int .i64 x] 3 (0, 0))) mixed (by kernel_rfl) ?_
      refine H_take (i := 0) (v := .pointer (some ⟨bp, 0, none⟩)) (some 87) rfl rfl (by kernel_rfl) (by kernel_rfl) (by kernel_rfl) (fun _ _ _ h => by cases h.1) rfl (fun X hX => ?_) sq ?_
      · simp [go_sem]
      simp only [Act.put, List.setIfInBounds_toArray, List.set_cons_zero, List.set_cons_succ]
      refine H_take (i := 1) (v := .pointer (some ⟨qb, 0, none⟩)) (some 88) rfl rfl (by kernel_rfl) (by kernel_rfl) (by kernel_rfl) (fun _ _ _ h => by cases h.1) rfl (fun X hX => ?_) sq ?_
      · simp [go_sem, World.cell?, hX.1]
      simp only [Act.put, List.setIfInBounds_toArray, List.set_cons_zero, List.set_cons_succ]
      refine H_take (i := 2) (v := .int .i64 x) (some 89) rfl rfl (by kernel_rfl) (by kernel_rfl) (by kernel_rfl) (fun _ _ _ h => by cases h.1) rfl (fun X hX => ?_) sq ?_
      · simp [go_sem, World.cell?, hX.2]
      simp only [Act.put, List.setIfInBounds_toArray, List.set_cons_zero, List.set_cons_succ]
      refine H_take (i := 4) (v := .pointer (some ⟨bp, 1, none⟩)) (some 91) rfl rfl (by kernel_rfl) (by kernel_rfl) (by kernel_rfl) (fun _ _ _ h => by cases h.1) rfl (fun X hX => ?_) sq ?_
      · simp [go_sem]
      simp only [Act.put, List.setIfInBounds_toArray, List.set_cons_zero, List.set_cons_succ]
      refine H_take (i := 5) (v := .pointer (some ⟨rb, 0, none⟩)) (some 92) rfl rfl (by kernel_rfl) (by kernel_rfl) (by kernel_rfl) (fun _ _ _ h => by cases h.1) rfl (fun X hX => ?_) sq ?_
      · simp [go_sem, World.cell?, hX.1]
      simp only [Act.put, List.setIfInBounds_toArray, List.set_cons_zero, List.set_cons_succ]
      refine H_take (i := 6) (v := .int .i64 x) (some 93) rfl rfl (by kernel_rfl) (by kernel_rfl) (by kernel_rfl) (fun _ _ _ h => by cases h.1) rfl (fun X hX => ?_) sq ?_
      · simp [go_sem, World.cell?, hX.2]
      simp only [Act.put, List.setIfInBounds_toArray, List.set_cons_zero, List.set_cons_succ]
      refine H_call (i := 3) (f := 17) (args := #[.pointer (some ⟨qb, 0, none⟩), .int .i64 x]) (some 90) rfl rfl (by kernel_rfl) rfl (by simp [go_sem]) (JJ.out.mono ?_)
      rintro e U4 ⟨rfl, q6, k6⟩
      have r6 := HS4.out.r.kept k6 (fun k hM e => apart_QR HS4.out.q.part HS4.out.r hM e)
      have n1 := fun k h1 h2 e => HS4.out.out k h1 h2 (Or.inl e)
      have l6 := HL4.out.kept k6 n1
      have kp6 : KpI U3.drew U4 := PartI.kp HS4.out.q.part q6.part k6 (fun r hr => ⟨hr, List.mem_append_left _ hr⟩)
      have kf6 : KeepsFrom W8.heap.size U3.drew U4 := HS4.out.q.part.keeps k6 hmb
      have sq6 : (fun X : World => X.heap[bp]? = some (.cells #[.pointer (some ⟨qb, 0, none⟩), .pointer (some ⟨rb, 0, none⟩)] 36 (0, 0)) ∧ X.heap[bx]? = some (.cells #[.int .i64 x] 3 (0, 0))) U4 := ⟨l6.xp, l6.xx⟩
      have RJ := hideR (refJoinF B U4 rb g0 x vt5 vh5 T4 H4 r6 (by rw [HS4.out.al.lenT]; have := HS4.out.sz; have := HH.out.1; omega) (by rw [HS4.out.al.lenH]; have := HS4.out.sz; have := HH.out.1; omega) ⟨by have := HS4.out.q.pos; omega, by have := HH.out.2.2.2; omega⟩ (by have := HS4.out.big; exact Nat.le_trans this.2.1 (Nat.le_trans this.2.2.1 (Nat.le_trans this.1 k6.size))))
      have H6 := hideR (And.intro q6 (And.intro k6 (And.intro r6 (And.intro l6 (And.intro kp6 kf6)))))
      clear q6 k6 r6 l6 kp6 kf6 n1
      refine ⟨_, rfl, sq6, ?_⟩
      simp only [Act.put, List.setIfInBounds_toArray, List.set_cons_zero, List.set_cons_succ]
      refine H_call (i := 7) (f := 18) (args := #[.pointer (some ⟨rb, 0, none⟩), .int .i64 x]) (some 94) rfl rfl (by kernel_rfl) rfl (by simp [go_sem]) (RJ.out.mono ?_)
      rintro e U5 ⟨rfl, vt6, vh6, r7, k7, f7⟩
      obtain ⟨q6, k6, r6, l6, kp6, kf6⟩ := H6.out
      have s7 := HS4.out.joined q6 k6 r7 k7 f7 r6
      have l7 := l6.kept k7 (fun k h1 h2 e => HS4.out.out k h1 h2 (Or.inr e))
      have kp7 := kp_ref r6 k7
      have kf7 : KeepsFrom W8.heap.size U4 U5 := kf_ref r6 k7
      have sq7 : (fun X : World => X.heap[bp]? = some (.cells #[.pointer (some ⟨qb, 0, none⟩), .pointer (some ⟨rb, 0, none⟩)] 36 (0, 0)) ∧ X.heap[bx]? = some (.cells #[.int .i64 x] 3 (0, 0))) U5 := ⟨l7.xp, l7.xx⟩
      have H7 := hideR (And.intro s7 (And.intro l7 (And.intro (kp6.trans kp7) (kf6.trans kf7))))
      clear q6 k6 r6 l6 kp6 kf6 s7 l7 kp7 kf7 r7 k7 f7 RJ JJ H6
      refine ⟨_, rfl, sq7, ?_⟩
      simp only [Act.put, List.setIfInBounds_toArray, List.set_cons_zero, List.set_cons_succ]
      refine H_take (i := 8) (v := .bool false) (some 95) rfl rfl (by kernel_rfl) (by kernel_rfl) (by kernel_rfl) (fun _ _ _ h => by cases h.1) rfl (fun X hX => ?_) sq7 ?_
      · simp [go_sem]
      simp only [Act.put, List.setIfInBounds_toArray, List.set_cons_zero, List.set_cons_succ]
      refine H_take (i := 9) (v := .bool false) (some 96) rfl rfl (by kernel_rfl) (by kernel_rfl) (by kernel_rfl) (fun _ _ _ h => by cases h.1) rfl (fun X hX => ?_) sq7 ?_
      · simp [go_sem]
      simp only [Act.put, List.setIfInBounds_toArray, List.set_cons_zero, List.set_cons_succ]
      refine H_take (i := 10) (v := .bool true) (some 97) rfl rfl (by kernel_rfl) (by kernel_rfl) (by kernel_rfl) (fun _ _ _ h => by cases h.1) rfl (fun X hX => ?_) sq7 ?_
      · simp [go_sem]
      simp only [Act.put, List.setIfInBounds_toArray, List.set_cons_zero, List.set_cons_succ]
      refine H_take (i := 11) (v := .bool false) (some 98) rfl rfl (by kernel_rfl) (by kernel_rfl) (by kernel_rfl) (fun _ _ _ h => by cases h.1) rfl (fun X hX => ?_) sq7 ?_
      · simp [go_sem]
      simp only [Act.put, List.setIfInBounds_toArray, List.set_cons_zero, List.set_cons_succ]
      refine H_take (i := 12) (v := .bool false) (some 99) rfl rfl (by kernel_rfl) (by kernel_rfl) (by kernel_rfl) (fun _ _ _ h => by cases h.1) rfl (fun X hX => ?_) sq7 ?_
      · simp [go_sem]
      simp only [Act.put, List.setIfInBounds_toArray, List.set_cons_zero, List.set_cons_succ]
      refine H_take (i := 13) (v := .bool false) (some 100) rfl rfl (by kernel_rfl) (by kernel_rfl) (by kernel_rfl) (fun _ _ _ h => by cases h.1) rfl (fun X hX => ?_) sq7 ?_
      · simp [go_sem]
      simp only [Act.put, List.setIfInBounds_toArray, List.set_cons_zero, List.set_cons_succ]
      refine H_take (i := 14) (v := .bool true) (some 101) rfl rfl (by kernel_rfl) (by kernel_rfl) (by kernel_rfl) (fun _ _ _ h => by cases h.1) rfl (fun X hX => ?_) sq7 ?_
      · simp [go_sem]
      simp only [Act.put, List.setIfInBounds_toArray, List.set_cons_zero, List.set_cons_succ]
      refine H_take (i := 15) (v := .bool false) (some 102) rfl rfl (by kernel_rfl) (by kernel_rfl) (by kernel_rfl) (fun _ _ _ h => by cases h.1) rfl (fun X hX => ?_) sq7 ?_
      · simp [go_sem]
      simp only [Act.put, List.setIfInBounds_toArray, List.set_cons_zero, List.set_cons_succ]
      refine H_take (i := 16) (v := .bool false) (some 103) rfl rfl (by kernel_rfl) (by kernel_rfl) (by kernel_rfl) (fun _ _ _ h => by cases h.1) rfl (fun X hX => ?_) sq7 ?_
      · simp [go_sem]
      simp only [Act.put, List.setIfInBounds_toArray, List.set_cons_zero, List.set_cons_succ]
      refine H_take (i := 17) (v := .bool false) (some 104) rfl rfl (by kernel_rfl) (by kernel_rfl) (by kernel_rfl) (fun _ _ _ h => by cases h.1) rfl (fun X hX => ?_) sq7 ?_
      · simp [go_sem]
      simp only [Act.put, List.setIfInBounds_toArray, List.set_cons_zero, List.set_cons_succ]
      refine H_take (i := 18) (v := .bool true) (some 105) rfl rfl (by kernel_rfl) (by kernel_rfl) (by kernel_rfl) (fun _ _ _ h => by cases h.1) rfl (fun X hX => ?_) sq7 ?_
      · simp [go_sem]
      simp only [Act.put, List.setIfInBounds_toArray, List.set_cons_zero, List.set_cons_succ]
      refine H_take (i := 19) (v := .bool false) (some 106) rfl rfl (by kernel_rfl) (by kernel_rfl) (by kernel_rfl) (fun _ _ _ h => by cases h.1) rfl (fun X hX => ?_) sq7 ?_
      · simp [go_sem]
      simp only [Act.put, List.setIfInBounds_toArray, List.set_cons_zero, List.set_cons_succ]
      refine H_take (i := 20) (v := .bool false) (some 107) rfl rfl (by kernel_rfl) (by kernel_rfl) (by kernel_rfl) (fun _ _ _ h => by cases h.1) rfl (fun X hX => ?_) sq7 ?_
      · simp [go_sem]
      simp only [Act.put, List.setIfInBounds_toArray, List.set_cons_zero, List.set_cons_succ]
      refine wpAnyH_done (by kernel_rfl) ⟨rfl, ?_⟩ _
      clear sq sq6 sq7
      have xB := H7.out.2.1.xbi
      have cI5 : U5.cell? ⟨bi, 0, none⟩ = some (.int .i64 (n : Int)) := by simp only [World.cell?, xB]; simp
      have fI5 : U5.frozen? ⟨bi, 0, none⟩ = false := by simp only [World.frozen?, xB]; simp
      clear xB
      gi_wp2
      have i2 := H7.out.2.1.xbi
      have hk : Kept (fun k => k = bi) U5 (U5.setCell ⟨bi, 0, none⟩ (.int .i64 ((a : Int) + 1))) := ⟨rfl, rfl, rfl, by simp, fun k _ hk => set_other U5 _ _ _ _ hk⟩
      have dB : ∀ X : World, Below X.heap.size X X.drew := fun X => ⟨rfl, rfl, rfl, Nat.le_refl _, fun _ _ => rfl⟩
      have b0 : Below W.heap.size W (W.drewN (nq + 1)) := ⟨rfl, rfl, rfl, Nat.le_refl _, fun _ _ => rfl⟩
      have KP : KpI W U5 := (KpI.ofBelow b0).trans (HU1.out.2.2.1.trans ((KpI.ofBelow (dB U1)).trans (HU2.out.2.2.1.trans (HU3.out.2.2.1.trans ((KpI.ofBelow (dB U3)).trans H7.out.2.2.1)))))
      have KF : KeepsFrom W8.heap.size W U5 := (kf_below b0).trans (HU1.out.2.2.2.trans ((kf_below (dB U1)).trans (HU2.out.2.2.2.trans (HU3.out.2.2.2.trans ((kf_below (dB U3)).trans H7.out.2.2.2)))))
      refine ⟨KF.trans ⟨by simp, fun k o _ ho hc => (hk.block k (Array.getElem?_eq_some_iff.1 ho).1 (fun e => ?_)).trans ho⟩, KP.trans (KpI.ofKept hk (fun k c t hc ht e => ?_)), ?_⟩
      · rw [e, i2] at ho
        obtain rfl := Option.some.inj ho
        cases hc
      · rw [e, i2] at hc
        simp at hc
        rcases ht with h | h <;> rw [h] at hc <;> simp at hc
      · show WlL w.heap.size W8.heap.size qb rb rc bp bx rx cl ba cb bi x (a : Int) g0 vt2 vh2 T H (pre ++ [(⟨xb, xt, .int .i64 y⟩ : Stand)]).length _ ∧ WlInv w B W8.heap.size qb mb rb g0 R vt vh a (pre ++ [(⟨xb, xt, .int .i64 y⟩ : Stand)]).length _
        rw [HN.out]
        refine ⟨H7.out.2.1.step hk ?_, R.length + 1, g0 + 1, _, _, _, vt6, vh6, H7.out.1.tick hk (by omega) (by omega), Nat.le_refl _, Int.le_refl _, fun h => absurd h (by omega)⟩
        rw [(set_cells i2 0 _).1, hna]
        simp
    · have t7 : ((n : Int) == (a : Int)) = false := by simp; omega
      gi_wp2
      have i2 := HJ.out.1.xbi
      have hk : Kept (fun k => k = bi) W ((W.drewN nq).setCell ⟨bi, 0, none⟩ (.int .i64 ((n : Int) + 1))) := ⟨rfl, rfl, rfl, by simp, fun k _ hk => set_other (W.drewN nq) _ _ _ _ hk⟩
      refine ⟨⟨by simp, fun k o _ ho hc => (hk.block k (Array.getElem?_eq_some_iff.1 ho).1 (fun e => ?_)).trans ho⟩, KpI.ofKept hk (fun k c t hc ht e => ?_), ?_⟩
      · rw [e, i2] at ho
        obtain rfl := Option.some.inj ho
        cases hc
      · rw [e, i2] at hc
        simp at hc
        rcases ht with h | h <;> rw [h] at hc <;> simp at hc
      · obtain ⟨j1, S, g, R', T', H', vt', vh', j2, j3, j4, j5⟩ := HJ.out
        show WlL w.heap.size W8.heap.size qb rb rc bp bx rx cl ba cb bi x (a : Int) given vt2 vh2 T H (pre ++ [(⟨xb, xt, .int .i64 y⟩ : Stand)]).length _ ∧ WlInv w B W8.heap.size qb mb rb given R vt vh a (pre ++ [(⟨xb, xt, .int .i64 y⟩ : Stand)]).length _
        rw [HN.out]
        refine ⟨j1.step hk ?_, S, g, R', T', H', vt', vh', j2.tick hk (by omega) (by omega), j3, j4, fun h => j5 (by omega)⟩
        have h0 : (W.drewN nq).heap[bi]? = some (.cells #[.int .i64 (n : Int)] 3 (0, 0)) := i2
        rw [(set_cells h0 0 _).1]
        simp
  case done =>
    rintro D xs W hD hS ⟨i1, inv⟩ hK
    subst hS
    obtain ⟨at2, ct2, evt⟩ := i1.r.rt.form
    rw [hlt] at evt
    have xC1 := i1.xcl
    have xR1 := i1.r.box
    have cI : W.cell? ⟨bi, 0, none⟩ = some (.int .i64 (xs.length : Int)) := by simp [World.cell?, i1.xbi]
    have cP : W.cell? ⟨cl, 0, none⟩ = some (.pointer (some ⟨rc, 0, none⟩)) := by simp only [World.cell?, xC1]; simp
    have cR0 : W.cell? ⟨rc, 0, none⟩ = some (.slice at2 xs.length ct2) := by rw [← evt]; simp only [World.cell?, xR1]; simp
    have cX : W.cell? ⟨rx, 0, none⟩ = some (.bool false) := by simp [World.cell?, i1.xres]
    have fX : W.frozen? ⟨rx, 0, none⟩ = false := by simp [World.frozen?, i1.xres]
    have HI1 := hideR (And.intro i1 inv)
    have HK := hideR hK
    clear i1 hK xC1 xR1 inv
    go_wp2_with fail
    refine wp_onward ?_
    go_region_held (fun w' => w'.cell? ⟨bi, 0, none⟩ = some (.int .i64 (xs.length : Int)) ∧ w'.cell? ⟨cl, 0, none⟩ = some (.pointer (some ⟨rc, 0, none⟩)) ∧ w'.cell? ⟨rc, 0, none⟩ = some (.slice at2 xs.length ct2)) (first | assumption | exact ⟨cI, cP, cR0⟩ | exact ⟨(keep_cellQ HI1.out.1.xres cI (by simp)), (keep_cellQ HI1.out.1.xres cP (by simp)), (keep_cellQ HI1.out.1.xres cR0 (by simp))⟩) (fail)
    go_wp2_with fail
    have HR5 := HI1.out.1.xres
    have hset := set_cells HR5 0 (.bool true)
    have hDne : D ≠ rx := fun e => by have := HK.out; rw [e, HR5] at this; simp at this
    have hK' : (W.setCell ⟨rx, 0, none⟩ (.bool true)).drew.heap[D]? = some (.deferred (some [])) := (set_other W _ _ _ _ hDne).trans HK.out
    refine ⟨by simp, .inl ⟨_, _, rfl, run_takeDeferred hK', ?_⟩⟩
    have hc5 : ((W.setCell ⟨rx, 0, none⟩ (.bool true)).drew.putObj D (.deferred none)).cell? ⟨rx, 0, none⟩ = some (.bool true) := by
      have h9 : ((W.setCell ⟨rx, 0, none⟩ (.bool true)).drew.putObj D (.deferred none)).heap[rx]? = (W.setCell ⟨rx, 0, none⟩ (.bool true)).drew.heap[rx]? := World.putObj_heap_other (fun e => hDne e.symm)
      have h8 : (W.setCell ⟨rx, 0, none⟩ (.bool true)).drew.heap[rx]? = _ := hset.1
      simp [World.cell?, h9, h8]
    obtain ⟨S, g, R', T', H', vt', vh', j2, j3, j4, _⟩ := HI1.out.2
    have ks : Kept (fun k => k = rx) W (W.setCell ⟨rx, 0, none⟩ (.bool true)) := Kept.setCell _ _ _ _ _ rfl
    have k1 := j2.tick ks (by omega) (by omega)
    have k2 := k1.below (W' := (W.setCell ⟨rx, 0, none⟩ (.bool true)).drew) ⟨rfl, rfl, rfl, Nat.le_refl _, fun _ _ => rfl⟩
    have k3 := k2.own hmb (grownBy_putObj' _ D (.deferred none)) (fun r e => by cases e; exact ⟨hD, _, hK', rfl⟩)
    exact ⟨.bool true, by simp [results, Try.f36, go_sem, hc5], rfl, ⟨qb, mb, rb, g, R', vt', vh', T', H'⟩, ⟨k3.q, k3.r, k3.al⟩, rfl, rfl, k3.kp, fun k e => e.elim (fun e => (k3.frQ k e).imp .inl (Nat.le_trans k3.big.2.2.1)) (fun e => (k3.frR k e).imp .inr (Nat.le_trans k3.big.2.2.1)), Nat.le_trans j2.sz j3, j4⟩
  case stop =>
    rintro D c pre W hD _ h
    exact h.elim
end Go.Proofs.Ytccpaapbgdpghaa
