/-
  The walk of nested. (Written by gennest.py.)
-/
import Derived.Test.YtccpaapbgdpghaaEarly
import Derived.Test.YtccpaapbgdpghaaBoth
namespace Go.Proofs.Ytccpaapbgdpghaa
open Go.RowKit
theorem run_store_func {P : Program} {w : World} {a : Addr} {m : _} (f : Fn) (x y : Array Value) : (store a (.func f x y) m).run P w = stored P w a (.func f x y) m := run_store P w a _ m rfl
theorem fresh_cell (w : World) (v : Value) (t : TypeId) : (w.alloc (.cells #[v] t)).cell? ⟨w.heap.size, 0, none⟩ = some v ∧ (w.alloc (.cells #[v] t)).frozen? ⟨w.heap.size, 0, none⟩ = false := by
  have h := heap_alloc_new w (.cells #[v] t)
  generalize w.alloc (.cells #[v] t) = W at h
  exact ⟨by simp [World.cell?, h], by simp [World.frozen?, h]⟩
/-- What holds between the rounds. -/
structure NeI (w : World) (B qb mb rb : Nat) (given J : Int) (R : List Stand) (vt vh : Value) (T H : List Int) (bp rx cb bs bi : Nat) (n : Nat) (W : World) : Prop where
  q : QueueAtI W qb mb given R
  bx : boxedI W cb qb
  r : RefAt B W rb J vt vh T H
  xp : W.heap[bp]? = some (.cells #[.pointer (some ⟨qb, 0, none⟩), .pointer (some ⟨rb, 0, none⟩)] 36 (0, 0))
  xs : W.heap[bs]? = some (.cells #[(.func (.func 26) #[] #[.pointer (some ⟨cb, 0, none⟩)])] 42 (0, 0))
  xres : W.heap[rx]? = some (.cells #[.bool false] 4 (0, 0))
  xbi : W.heap[bi]? = some (.cells #[.int .i64 (n : Int)] 3 (0, 0))
  bel : Below w.heap.size w W
  lo : (∀ k, RMine rb vt vh k → k < w.heap.size) ∧ mb < w.heap.size ∧ bp = w.heap.size ∧ rx = w.heap.size + 1 ∧ cb = w.heap.size + 1 + 1 ∧ bs = w.heap.size + 1 + 1 + 1 ∧ bi = w.heap.size + 1 + 1 + 1 + 1
theorem NeI.own {w W W' : World} {B qb mb rb : Nat} {given J : Int} {R : List Stand} {vt vh : Value} {T H : List Int} {bp rx cb bs bi n C : Nat} {row : Option Nat} (h : NeI w B qb mb rb given J R vt vh T H bp rx cb bs bi n W) (hB : w.heap.size ≤ C) (hg : W.grownBy W' row) (hr : ∀ r, row = some r → C ≤ r ∧ ∃ o : Obj, W.heap[r]? = some o ∧ o.isCells = false) : NeI w B qb mb rb given J R vt vh T H bp rx cb bs bi n W' :=
  ⟨h.q.own (Nat.lt_of_lt_of_le h.lo.2.1 hB) hg hr, cells_own h.bx hg hr, h.r.kept (kept_row hg) (fun k hM => by
    rcases hM with rfl | e | e
    · exact not_cellsQ h.r.box hr
    · obtain ⟨c, hc, _⟩ := h.r.rt.block e
      exact not_cellsQ hc hr
    · obtain ⟨c, hc, _⟩ := h.r.rh.block e
      exact not_cellsQ hc hr), cells_own h.xp hg hr, cells_own h.xs hg hr, cells_own h.xres hg hr, cells_own h.xbi hg hr, h.bel.grown hg h.bel.size (fun k e => Nat.le_trans hB (hr k e).1), h.lo⟩
theorem NeI.below {w W W' : World} {B qb mb rb : Nat} {given J : Int} {R : List Stand} {vt vh : Value} {T H : List Int} {bp rx cb bs bi n : Nat} (h : NeI w B qb mb rb given J R vt vh T H bp rx cb bs bi n W) (hb : Below W.heap.size W W') : NeI w B qb mb rb given J R vt vh T H bp rx cb bs bi n W' :=
  ⟨h.q.keptQ (P := fun _ => False) (Kept.ofBelow hb) (fun _ _ h => h), (hb.block _ (Array.getElem?_eq_some_iff.1 h.bx).1).trans h.bx, h.r.below hb, (hb.block _ (Array.getElem?_eq_some_iff.1 h.xp).1).trans h.xp, (hb.block _ (Array.getElem?_eq_some_iff.1 h.xs).1).trans h.xs, (hb.block _ (Array.getElem?_eq_some_iff.1 h.xres).1).trans h.xres, (hb.block _ (Array.getElem?_eq_some_iff.1 h.xbi).1).trans h.xbi, h.bel.trans (hb.mono h.bel.size), h.lo⟩
theorem NeI.step {w W W' : World} {B qb mb rb : Nat} {given J : Int} {R : List Stand} {vt vh : Value} {T H : List Int} {bp rx cb bs bi n : Nat} (h : NeI w B qb mb rb given J R vt vh T H bp rx cb bs bi n W) (hk : Kept (fun k => k = bi) W W') (hx : W'.heap[bi]? = some (.cells #[.int .i64 ((n : Int) + 1)] 3 (0, 0))) : NeI w B qb mb rb given J R vt vh T H bp rx cb bs bi (n + 1) W' := by
  obtain ⟨l1, l2, l3, l4, l5, l6, l7⟩ := h.lo
  exact ⟨h.q.keptQ hk (fun k hM e => h.q.part.notCells h.xbi (by decide) (by decide) (e ▸ hM)), (hk.block cb (Array.getElem?_eq_some_iff.1 h.bx).1 (fun e => by omega)).trans h.bx, h.r.kept hk (fun k hM e => by have := l1 k hM; omega), (hk.block bp (Array.getElem?_eq_some_iff.1 h.xp).1 (fun e => by omega)).trans h.xp, (hk.block bs (Array.getElem?_eq_some_iff.1 h.xs).1 (fun e => by omega)).trans h.xs, (hk.block rx (Array.getElem?_eq_some_iff.1 h.xres).1 (fun e => by omega)).trans h.xres, by rw [hx]; simp, h.bel.trans (hk.below h.bel.size (fun k hlt e => by omega)), h.lo⟩
attribute [local go_sem] Oper.semAt_some wide_fn run_store_func
set_option maxHeartbeats 8000000 in
set_option maxRecDepth 1000000 in
theorem nested_any (B : Nat) (w : World) (qb mb rb : Nat) (given J : Int) (R : List Stand) (vt vh : Value) (T H : List Int) (hq : QueueAtI w qb mb given R) (hr : RefAt B w rb J vt vh T H) (ha : Alike R T H) (hR : R.length ≤ 1073741823) :
    Calls Try.prog 37 #[.agg #[.pointer (some ⟨qb, 0, none⟩), .pointer (some ⟨rb, 0, none⟩)]] w fun e w' => e = .returned (.bool true) ∧ Below w.heap.size w w' := by
  have HQ := hideR hq
  have HRR := hideR hr
  have HA := hideR ha
  have AL := hideR (fun w => allI w qb)
  clear hq hr ha
  refine (callsIn_wide (n := 3)).1 ?_
  refine callsIn_of_wp_marks Try.func37 rfl trivial ?_ rfl
  simp only [Try.ntmps37, List.size_toArray, List.length_cons, List.length_nil, Nat.reduceAdd, Nat.reduceSub, Array.replicate_succ, Array.replicate_zero, List.push_toArray, List.append_toArray, List.nil_append, List.cons_append]
  refine wpIn_wide.2 ?_
  go_wp2_with fail
  refine (AL.out _).mono ?_
  rintro e W3 ⟨rfl, hW3⟩
  have HW3 := hideR hW3
  clear AL hW3
  obtain ⟨c4, f4⟩ := fresh_cell W3 .nilFunc 42
  go_wp2_with fail
  clear c4 f4
  have hW3 := HW3.out
  clear HW3
  obtain ⟨bp, hbp⟩ : ∃ bp, bp = w.heap.size := ⟨_, rfl⟩
  obtain ⟨rx, hrx⟩ : ∃ rx, rx = w.heap.size + 1 := ⟨_, rfl⟩
  obtain ⟨cb, hcb⟩ : ∃ cb, cb = w.heap.size + 1 + 1 := ⟨_, rfl⟩
  obtain ⟨bs, hbs⟩ : ∃ bs, bs = W3.heap.size := ⟨_, rfl⟩
  obtain ⟨bi, hbi⟩ : ∃ bi, bi = W3.heap.size + 1 := ⟨_, rfl⟩
  rw [← hcb, ← hbi, ← hbs, ← hrx, ← hbp]
  obtain ⟨W5, hW5⟩ : ∃ W5, W5 = (W3.alloc (.cells #[(.func (.func 26) #[] #[.pointer (some ⟨cb, 0, none⟩)])] 42)).alloc (.cells #[.int .i64 0] 3) := ⟨_, rfl⟩
  have i5 : NeI w B qb mb rb given J R vt vh T H bp rx cb bs bi 0 W5 := by
    obtain ⟨V1, hV1⟩ : ∃ V1, V1 = w.alloc (.cells #[.pointer (some ⟨qb, 0, none⟩), .pointer (some ⟨rb, 0, none⟩)] 36) := ⟨_, rfl⟩
    have x1 : V1.heap[bp]? = some (.cells #[.pointer (some ⟨qb, 0, none⟩), .pointer (some ⟨rb, 0, none⟩)] 36 (0, 0)) := by rw [hV1, hbp]; exact heap_alloc_new w _
    have z1 : V1.heap.size = w.heap.size + 1 := by rw [hV1]; simp
    have b1 : Below w.heap.size w V1 := by rw [hV1]; exact (Below.refl _ w).alloc (Nat.le_refl _) _
    rw [← hV1] at hW3
    obtain ⟨V2, hV2⟩ : ∃ V2, V2 = V1.alloc (.cells #[.bool false] 4) := ⟨_, rfl⟩
    have x2 : V2.heap[rx]? = some (.cells #[.bool false] 4 (0, 0)) := by rw [hV2, hrx, ← z1]; exact heap_alloc_new V1 _
    have z2 : V2.heap.size = w.heap.size + 1 + 1 := by rw [hV2]; simp [z1]
    have b2 : Below V1.heap.size V1 V2 := by rw [hV2]; exact (Below.refl _ V1).alloc (Nat.le_refl _) _
    rw [← hV2] at hW3
    have x3 : W3.heap[cb]? = some (.cells #[.pointer (some ⟨qb, 0, none⟩)] 29 (0, 0)) := by rw [hW3, hcb, ← z2]; exact heap_alloc_new V2 _
    have z3 : W3.heap.size = w.heap.size + 1 + 1 + 1 := by rw [hW3]; simp [z2]
    have b3 : Below V2.heap.size V2 W3 := by rw [hW3]; exact (Below.refl _ V2).alloc (Nat.le_refl _) _
    obtain ⟨V4, hV4⟩ : ∃ V4, V4 = W3.alloc (.cells #[(.func (.func 26) #[] #[.pointer (some ⟨cb, 0, none⟩)])] 42) := ⟨_, rfl⟩
    have x4 : V4.heap[bs]? = some (.cells #[(.func (.func 26) #[] #[.pointer (some ⟨cb, 0, none⟩)])] 42 (0, 0)) := by rw [hV4, hbs]; exact heap_alloc_new W3 _
    have z4 : V4.heap.size = W3.heap.size + 1 := by rw [hV4]; simp
    have b4 : Below W3.heap.size W3 V4 := by rw [hV4]; exact (Below.refl _ W3).alloc (Nat.le_refl _) _
    rw [← hV4] at hW5
    have x5 : W5.heap[bi]? = some (.cells #[.int .i64 0] 3 (0, 0)) := by rw [hW5, hbi, ← z4]; exact heap_alloc_new V4 _
    have b5 : Below V4.heap.size V4 W5 := by rw [hW5]; exact (Below.refl _ V4).alloc (Nat.le_refl _) _
    have b35 : Below W3.heap.size W3 W5 := b4.trans (b5.mono b4.size)
    have b25 : Below V2.heap.size V2 W5 := b3.trans (b35.mono b3.size)
    have b15 : Below V1.heap.size V1 W5 := b2.trans (b25.mono b2.size)
    have b05 : Below w.heap.size w W5 := b1.trans (b15.mono b1.size)
    exact ⟨HQ.out.keptQ (P := fun _ => False) (Kept.ofBelow b05) (fun _ _ h => h), (b35.block _ (by omega)).trans x3, HRR.out.below b05, (b15.block _ (by omega)).trans x1, (b5.block _ (by omega)).trans x4, (b25.block _ (by omega)).trans x2, x5, b05, fun k hk => HRR.out.lt hk, HQ.out.tab.lt, by omega, by omega, by omega, by omega, by omega⟩
  have HI := hideR i5
  have bw5 : Below w.heap.size w W5 := i5.bel
  have hlen := HA.out.lenT
  rw [← hW5]
  clear HQ HRR i5 hW5 hW3 hbp hrx hcb hbs hbi
  refine (wpIn_wide (n := 3)).1 ?_
  refine wpIn_told rfl (by omega) (gf := 26) (lb := #[.pointer (some ⟨cb, 0, none⟩)]) rfl trivial (enters_of Try.func26 (by kernel_rfl) rfl)
    (all1_toldI 2 cb qb mb given R W5 HI.out.q HI.out.bx (by omega) HA.out.ints) (fun h k => h.trans k) (fun W l o o' _ hl ho _ => KpI.put W l o o' hl ho) (Below.refl _ _) (fun _ => rfl)
    (fun pre W => NeI w B qb mb rb given J R vt vh T H bp rx cb bs bi pre.length W)
    (fun _ _ _ => False)
    (fun pre W W' row hs hgr hr => hs.own bw5.size hgr hr)
    (fun _ _ _ _ _ h _ _ => h.elim)
    (fun pre x A _ _ _ _ h _ _ => h)
    HI.out
    ?a1 ?assign ?body ?done ?stop
  case assign =>
    intro l x W K hK
    gi_wp2
    exact hK
  case body =>
    rintro id pre ⟨xb, xt, xv⟩ A W hid _ _ _ _ i1 hx hlt
    obtain ⟨hT, y, hH, hxv⟩ := HA.out.at hx
    simp only [] at hxv hT
    subst hxv
    obtain ⟨n, hn'⟩ : ∃ n, n = pre.length := ⟨_, rfl⟩
    rw [← hn'] at i1 hlt hT hH
    have HN : HidR ((pre ++ [(⟨xb, xt, .int .i64 y⟩ : Stand)]).length = n + 1) := ⟨by rw [List.length_append, ← hn']; rfl⟩
    obtain ⟨at_, ct, evt⟩ := i1.r.rt.form
    obtain ⟨ah, ch, evh⟩ := i1.r.rh.form
    have hTl : T.length = R.length := HA.out.lenT
    have hHl : H.length = R.length := HA.out.lenH
    rw [hTl] at evt
    rw [hHl] at evh
    have rt := i1.r.rt
    have rh := i1.r.rh
    rw [evt] at rt
    rw [evh] at rh
    obtain ⟨gt, et, y1⟩ := rt.cell hT
    obtain ⟨gh, eh, y2⟩ := rh.cell hH
    subst et eh
    have t3 : ¬ (R.length : Int) ≤ (n : Int) := by omega
    have t6 : decide (R.length ≤ n) = false := decide_eq_false (by omega)
    have t4 : (n : Int) < (R.length : Int) := by omega
    have cI : W.cell? ⟨bi, 0, none⟩ = some (.int .i64 (n : Int)) := by simp [World.cell?, i1.xbi]
    have fI : W.frozen? ⟨bi, 0, none⟩ = false := by simp [World.frozen?, i1.xbi]
    have cP0 : W.cell? ⟨bp, 0, none⟩ = some (.pointer (some ⟨qb, 0, none⟩)) := by simp [World.cell?, i1.xp]
    have cP : W.cell? ⟨bp, 1, none⟩ = some (.pointer (some ⟨rb, 0, none⟩)) := by simp [World.cell?, i1.xp]
    have cS : W.cell? ⟨bs, 0, none⟩ = some (.func (.func 26) #[] #[.pointer (some ⟨cb, 0, none⟩)]) := by simp [World.cell?, i1.xs]
    have cR0 : W.cell? ⟨rb, 0, none⟩ = some (.slice (some ⟨gt, 0, none⟩) R.length ct) := by rw [← evt]; simp [World.cell?, i1.r.box]
    have cR1 : W.cell? ⟨rb, 1, none⟩ = some (.slice (some ⟨gh, 0, none⟩) R.length ch) := by rw [← evh]; simp [World.cell?, i1.r.box]
    have HJ := hideR i1
    clear i1 hx hid hn' hlt rt rh evt evh hT hH hTl hHl
    gi_wp2
    refine wpIn_quiet_round (F := Fence.wide) rfl (by kernel_rfl) (by kernel_rfl) (by kernel_rfl) ?_
    repeat (gi_big_quiet_step (fail))
    refine wpQuietIn_nil ?_
    rintro _ ⟨nq, rfl⟩
    have HD := hideR (HJ.out.below (W' := W.drewN nq) ⟨rfl, rfl, rfl, Nat.le_refl _, fun _ _ => rfl⟩)
    by_cases h3 : n < 3
    · have t7 : (n : Int) < 3 := by omega
      gi_wp2
      refine CallsIn.mono (show CallsIn (Fence.wide.inRound id) _ _ _ _ _ _ from (callsIn_wide.2 (whole_any B (W.drewN nq) qb mb cb rb given J R vt vh T H HD.out.q HD.out.bx HD.out.r HA.out hR))) ?_
      rintro e W1 ⟨rfl, b1⟩
      have b0 : Below W.heap.size W W1 := ⟨b1.1, b1.2, b1.3, b1.4, b1.5⟩
      have HB := hideR b0
      have HE := hideR (HD.out.below b1)
      have cI1 : W1.cell? ⟨bi, 0, none⟩ = some (.int .i64 (n : Int)) := by simp [World.cell?, HE.out.xbi]
      have fI1 : W1.frozen? ⟨bi, 0, none⟩ = false := by simp [World.frozen?, HE.out.xbi]
      clear b1 b0 cI fI cP0 cP cS cR0 cR1 y1 y2
      gi_wp2
      have i2 := HE.out.xbi
      have iw := HJ.out.xbi
      have hk : Kept (fun k => k = bi) W1 (W1.setCell ⟨bi, 0, none⟩ (.int .i64 ((n : Int) + 1))) := ⟨rfl, rfl, rfl, by simp, fun k _ hk => set_other W1 _ _ _ _ hk⟩
      refine ⟨⟨Nat.le_trans HB.out.size (by simp), fun k o _ ho hc => (hk.block k (Nat.lt_of_lt_of_le (Array.getElem?_eq_some_iff.1 ho).1 HB.out.size) (fun e => ?_)).trans ((HB.out.block k (Array.getElem?_eq_some_iff.1 ho).1).trans ho)⟩, (KpI.ofBelow HB.out).trans (KpI.ofKept hk (fun k c t hc ht e => ?_)), ?_⟩
      · rw [e, iw] at ho
        obtain rfl := Option.some.inj ho
        cases hc
      · rw [e, i2] at hc
        simp at hc
        rcases ht with h | h <;> rw [h] at hc <;> simp at hc
      · show NeI w B qb mb rb given J R vt vh T H bp rx cb bs bi (pre ++ [(⟨xb, xt, .int .i64 y⟩ : Stand)]).length _
        rw [HN.out]
        refine HE.out.step hk ?_
        rw [(set_cells i2 0 _).1]
        simp
    · have t7 : ¬ (n : Int) < 3 := by omega
      gi_wp2
      have i2 := HJ.out.xbi
      have hk : Kept (fun k => k = bi) W ((W.drewN nq).setCell ⟨bi, 0, none⟩ (.int .i64 ((n : Int) + 1))) := ⟨rfl, rfl, rfl, by simp, fun k _ hk => set_other (W.drewN nq) _ _ _ _ hk⟩
      refine ⟨⟨by simp, fun k o _ ho hc => (hk.block k (Array.getElem?_eq_some_iff.1 ho).1 (fun e => ?_)).trans ho⟩, KpI.ofKept hk (fun k c t hc ht e => ?_), ?_⟩
      · rw [e, i2] at ho
        obtain rfl := Option.some.inj ho
        cases hc
      · rw [e, i2] at hc
        simp at hc
        rcases ht with h | h <;> rw [h] at hc <;> simp at hc
      · show NeI w B qb mb rb given J R vt vh T H bp rx cb bs bi (pre ++ [(⟨xb, xt, .int .i64 y⟩ : Stand)]).length _
        rw [HN.out]
        refine HJ.out.step hk ?_
        have h0 : (W.drewN nq).heap[bi]? = some (.cells #[.int .i64 (n : Int)] 3 (0, 0)) := i2
        rw [(set_cells h0 0 _).1]
        simp
  case done =>
    rintro D xs W hD hS i1 hK
    subst hS
    obtain ⟨at_, ct, evt⟩ := i1.r.rt.form
    rw [hlen] at evt
    have cI : W.cell? ⟨bi, 0, none⟩ = some (.int .i64 (xs.length : Int)) := by simp [World.cell?, i1.xbi]
    have cP : W.cell? ⟨bp, 1, none⟩ = some (.pointer (some ⟨rb, 0, none⟩)) := by simp [World.cell?, i1.xp]
    have cR0 : W.cell? ⟨rb, 0, none⟩ = some (.slice at_ xs.length ct) := by rw [← evt]; simp [World.cell?, i1.r.box]
    have cX : W.cell? ⟨rx, 0, none⟩ = some (.bool false) := by simp [World.cell?, i1.xres]
    have fX : W.frozen? ⟨rx, 0, none⟩ = false := by simp [World.frozen?, i1.xres]
    have HI1 := hideR i1
    have HK := hideR hK
    clear i1 hK
    go_wp2_with fail
    refine wp_onward ?_
    go_region_held (fun w' => w'.cell? ⟨bi, 0, none⟩ = some (.int .i64 (xs.length : Int)) ∧ w'.cell? ⟨bp, 1, none⟩ = some (.pointer (some ⟨rb, 0, none⟩)) ∧ w'.cell? ⟨rb, 0, none⟩ = some (.slice at_ xs.length ct)) (first | assumption | exact ⟨cI, cP, cR0⟩ | exact ⟨(keep_cellQ HI1.out.xres cI (by simp)), (keep_cellQ HI1.out.xres cP (by simp)), (keep_cellQ HI1.out.xres cR0 (by simp))⟩) (fail)
    go_wp2_with fail
    have HR5 := HI1.out.xres
    have hset := set_cells HR5 0 (.bool true)
    have hDne : D ≠ rx := fun e => by have := HK.out; rw [e, HR5] at this; simp at this
    have hK' : (W.setCell ⟨rx, 0, none⟩ (.bool true)).drew.heap[D]? = some (.deferred (some [])) := (set_other W _ _ _ _ hDne).trans HK.out
    refine ⟨by simp, .inl ⟨_, _, rfl, run_takeDeferred hK', ?_⟩⟩
    have hc5 : ((W.setCell ⟨rx, 0, none⟩ (.bool true)).drew.putObj D (.deferred none)).cell? ⟨rx, 0, none⟩ = some (.bool true) := by
      have h9 : ((W.setCell ⟨rx, 0, none⟩ (.bool true)).drew.putObj D (.deferred none)).heap[rx]? = (W.setCell ⟨rx, 0, none⟩ (.bool true)).drew.heap[rx]? := World.putObj_heap_other (fun e => hDne e.symm)
      have h8 : (W.setCell ⟨rx, 0, none⟩ (.bool true)).drew.heap[rx]? = _ := hset.1
      simp [World.cell?, h9, h8]
    have hBs : Below w.heap.size w (W.setCell ⟨rx, 0, none⟩ (.bool true)).drew := (HI1.out.bel.grown hset.2 HI1.out.bel.size (fun k e => by have := Option.some.inj e; have := HI1.out.lo; omega)).drew
    exact ⟨.bool true, by simp [results, Try.f37, go_sem, hc5], rfl, hBs.grown (grownBy_putObj' _ D (.deferred none)) hBs.size (fun k e => by cases e; have := bw5.size; omega)⟩
  case stop =>
    rintro D c pre W hD _ h
    exact h.elim
end Go.Proofs.Ytccpaapbgdpghaa
