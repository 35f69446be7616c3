/-
  The walk of early. (Written by genea.py.)
-/
import Derived.Test.YtccpaapbgdpghaaWhole
namespace Go.Proofs.Ytccpaapbgdpghaa
open Go.RowKit

/-- What holds between the rounds. -/
structure EaI (w : World) (B rb cl bm rx bi m : Nat) (J : Int) (vt vh : Value) (T H : List Int) (n : Nat) (W : World) : Prop where
  r : RefAt B W rb J vt vh T H
  xcl : W.heap[cl]? = some (.cells #[.pointer (some ⟨rb, 0, none⟩)] 31 (0, 0))
  xbm : W.heap[bm]? = some (.cells #[.int .i64 (m : Int)] 3 (0, 0))
  xres : W.heap[rx]? = some (.cells #[.bool false] 4 (0, 0))
  xbi : W.heap[bi]? = some (.cells #[.int .i64 (n : Int)] 3 (0, 0))
  bel : Below w.heap.size w W
  lo : (∀ k, RMine rb vt vh k → k < w.heap.size) ∧ w.heap.size ≤ cl ∧ cl < bm ∧ bm < rx ∧ rx < bi
theorem EaI.own {w W W' : World} {B rb cl bm rx bi m n C : Nat} {J : Int} {vt vh : Value} {T H : List Int} {row : Option Nat} (h : EaI w B rb cl bm rx bi m J vt vh T H n W) (hB : w.heap.size ≤ C) (hg : W.grownBy W' row) (hr : ∀ r, row = some r → C ≤ r ∧ ∃ o : Obj, W.heap[r]? = some o ∧ o.isCells = false) : EaI w B rb cl bm rx bi m J vt vh T H n W' :=
  ⟨h.r.kept (kept_row hg) (fun k hM => by
    rcases hM with rfl | e | e
    · exact not_cellsQ h.r.box hr
    · obtain ⟨c, hc, _⟩ := h.r.rt.block e
      exact not_cellsQ hc hr
    · obtain ⟨c, hc, _⟩ := h.r.rh.block e
      exact not_cellsQ hc hr), cells_own h.xcl hg hr, cells_own h.xbm hg hr, cells_own h.xres hg hr, cells_own h.xbi hg hr, h.bel.grown hg h.bel.size (fun k e => Nat.le_trans hB (hr k e).1), h.lo⟩
theorem EaI.step {w W W' : World} {B rb cl bm rx bi m n : Nat} {J : Int} {vt vh : Value} {T H : List Int} (h : EaI w B rb cl bm rx bi m J vt vh T H n W) (hk : Kept (fun k => k = bi) W W') (hx : W'.heap[bi]? = some (.cells #[.int .i64 ((n : Int) + 1)] 3 (0, 0))) : EaI w B rb cl bm rx bi m J vt vh T H (n + 1) W' := by
  have l := h.lo
  exact ⟨h.r.kept hk (fun k hM e => by have := h.lo.1 k hM; omega), (hk.block cl (Array.getElem?_eq_some_iff.1 h.xcl).1 (fun e => by omega)).trans h.xcl, (hk.block bm (Array.getElem?_eq_some_iff.1 h.xbm).1 (fun e => by omega)).trans h.xbm, (hk.block rx (Array.getElem?_eq_some_iff.1 h.xres).1 (fun e => by omega)).trans h.xres, by rw [hx]; simp, h.bel.trans (hk.below h.bel.size (fun k hlt e => by omega)), h.lo⟩
attribute [local go_sem] Oper.semAt_some wide_fn
set_option maxHeartbeats 8000000 in
set_option maxRecDepth 1000000 in
theorem early_any (B : Nat) (w : World) (qb mb cb rb m : Nat) (given J : Int) (R : List Stand) (vt vh : Value) (T H : List Int) (hq : QueueAtI w qb mb given R) (hbx : boxedI w cb qb) (hr : RefAt B w rb J vt vh T H) (ha : Alike R T H) (hR : R.length ≤ 1073741823) (hm : 1 ≤ m ∧ m ≤ 9) :
    Calls Try.prog 35 #[.func (.func 26) #[] #[.pointer (some ⟨cb, 0, none⟩)], .pointer (some ⟨rb, 0, none⟩), .int .i64 (m : Int)] w fun e w' => e = .returned (.bool true) ∧ Below w.heap.size w w' := by
  have HQ := hideR hq
  have HBX := hideR hbx
  have HA := hideR ha
  obtain ⟨W4, hW4⟩ : ∃ W4, W4 = (((w.alloc (.cells #[.pointer (some ⟨rb, 0, none⟩)] 31)).alloc (.cells #[.int .i64 (m : Int)] 3)).alloc (.cells #[.bool false] 4)).alloc (.cells #[.int .i64 0] 3) := ⟨_, rfl⟩
  obtain ⟨cl, hcl⟩ : ∃ cl, cl = w.heap.size := ⟨_, rfl⟩
  obtain ⟨bm, hbm⟩ : ∃ bm, bm = w.heap.size + 1 := ⟨_, rfl⟩
  obtain ⟨rx, hrx⟩ : ∃ rx, rx = w.heap.size + 1 + 1 := ⟨_, rfl⟩
  obtain ⟨bi, hbi⟩ : ∃ bi, bi = w.heap.size + 1 + 1 + 1 := ⟨_, rfl⟩
  have i4 : EaI w B rb cl bm rx bi m J vt vh T H 0 W4 := by
    obtain ⟨V1, hV1⟩ : ∃ V1, V1 = w.alloc (.cells #[.pointer (some ⟨rb, 0, none⟩)] 31) := ⟨_, rfl⟩
    have x1 : V1.heap[cl]? = some (.cells #[.pointer (some ⟨rb, 0, none⟩)] 31 (0, 0)) := by rw [hV1, hcl]; exact heap_alloc_new w _
    have z1 : V1.heap.size = w.heap.size + 1 := by rw [hV1]; simp
    have b1 : Below w.heap.size w V1 := by rw [hV1]; exact (Below.refl _ w).alloc (Nat.le_refl _) _
    rw [← hV1] at hW4
    obtain ⟨V2, hV2⟩ : ∃ V2, V2 = V1.alloc (.cells #[.int .i64 (m : Int)] 3) := ⟨_, rfl⟩
    have x2 : V2.heap[bm]? = some (.cells #[.int .i64 (m : Int)] 3 (0, 0)) := by rw [hV2, hbm, ← z1]; exact heap_alloc_new V1 _
    have z2 : V2.heap.size = w.heap.size + 1 + 1 := by rw [hV2]; simp [z1]
    have b2 : Below V1.heap.size V1 V2 := by rw [hV2]; exact (Below.refl _ V1).alloc (Nat.le_refl _) _
    rw [← hV2] at hW4
    obtain ⟨V3, hV3⟩ : ∃ V3, V3 = V2.alloc (.cells #[.bool false] 4) := ⟨_, rfl⟩
    have x3 : V3.heap[rx]? = some (.cells #[.bool false] 4 (0, 0)) := by rw [hV3, hrx, ← z2]; exact heap_alloc_new V2 _
    have z3 : V3.heap.size = w.heap.size + 1 + 1 + 1 := by rw [hV3]; simp [z2]
    have b3 : Below V2.heap.size V2 V3 := by rw [hV3]; exact (Below.refl _ V2).alloc (Nat.le_refl _) _
    rw [← hV3] at hW4
    have x4 : W4.heap[bi]? = some (.cells #[.int .i64 0] 3 (0, 0)) := by rw [hW4, hbi, ← z3]; exact heap_alloc_new V3 _
    have b4 : Below V3.heap.size V3 W4 := by rw [hW4]; exact (Below.refl _ V3).alloc (Nat.le_refl _) _
    have b24 : Below V2.heap.size V2 W4 := b3.trans (b4.mono b3.size)
    have b14 : Below V1.heap.size V1 W4 := b2.trans (b24.mono b2.size)
    have b04 : Below w.heap.size w W4 := b1.trans (b14.mono b1.size)
    exact ⟨hr.below b04, (b14.block _ (by omega)).trans x1, (b24.block _ (by omega)).trans x2, (b4.block _ (by omega)).trans x3, x4, b04, fun k hk => hr.lt hk, by omega, by omega, by omega, by omega⟩
  have HI := hideR i4
  have bw4 : Below w.heap.size w W4 := i4.bel
  have HW4 := hideR hW4
  have HN := hideR (And.intro hcl (And.intro hbm (And.intro hrx hbi)))
  have hlen := HA.out.lenT
  clear hq hbx hr ha i4 hW4 hcl hbm hrx hbi
  refine (callsIn_wide (n := 3)).1 ?_
  refine callsIn_of_wp_marks Try.func35 rfl trivial ?_ rfl
  simp only [Try.ntmps35, List.size_toArray, List.length_cons, List.length_nil, Nat.reduceAdd, Nat.reduceSub, Array.replicate_succ, Array.replicate_zero, List.push_toArray, List.append_toArray, List.nil_append, List.cons_append]
  refine wpIn_wide.2 ?_
  go_wp2_with fail
  rw [← HW4.out, ← HN.out.2.2.2, ← HN.out.2.2.1, ← HN.out.2.1, ← HN.out.1]
  refine (wpIn_wide (n := 3)).1 ?_
  refine wpIn_told rfl (by omega) (gf := 26) (lb := #[.pointer (some ⟨cb, 0, none⟩)]) rfl trivial (enters_of Try.func26 (by kernel_rfl) rfl)
    (all1_toldI 2 cb qb mb _ R w HQ.out HBX.out (by omega) HA.out.ints) (fun h k => h.trans k) (fun W l o o' _ hl ho _ => KpI.put W l o o' hl ho) bw4 (fun _ => rfl)
    (fun pre W => EaI w B rb cl bm rx bi m J vt vh T H pre.length W ∧ pre.length < m)
    (fun c pre W => c = .exit 0 ∧ EaI w B rb cl bm rx bi m J vt vh T H pre.length W ∧ pre.length = m)
    (fun pre W W' row hs hgr hr => ⟨hs.1.own bw4.size hgr hr, hs.2⟩)
    (fun c pre W W' row hs hgr hr => ⟨hs.1, hs.2.1.own bw4.size hgr hr, hs.2.2⟩)
    (fun pre x A _ _ _ _ h _ _ => h)
    ⟨HI.out, by simp; omega⟩
    ?a1 ?assign ?body ?done ?stop
  case assign =>
    intro l x W K hK
    gi_wp2
    exact hK
  case body =>
    rintro id pre ⟨xb, xt, xv⟩ A W hid _ _ _ _ ⟨i1, hpm⟩ hx hlt
    obtain ⟨hT, y, hH, hxv⟩ := HA.out.at hx
    simp only [] at hxv hT
    subst hxv
    obtain ⟨n, hn'⟩ : ∃ n, n = pre.length := ⟨_, rfl⟩
    rw [← hn'] at i1 hlt hT hH hpm
    have HNN : HidR ((pre ++ [(⟨xb, xt, .int .i64 y⟩ : Stand)]).length = n + 1) := ⟨by rw [List.length_append, ← hn']; rfl⟩
    obtain ⟨at_, ct, evt⟩ := i1.r.rt.form
    obtain ⟨ah, ch, evh⟩ := i1.r.rh.form
    have hTl : T.length = R.length := HA.out.lenT
    have hHl : H.length = R.length := HA.out.lenH
    rw [hTl] at evt
    rw [hHl] at evh
    have rt := i1.r.rt
    have rh := i1.r.rh
    rw [evt] at rt
    rw [evh] at rh
    obtain ⟨gt, et, y1⟩ := rt.cell hT
    obtain ⟨gh, eh, y2⟩ := rh.cell hH
    subst et eh
    have t3 : ¬ (R.length : Int) ≤ (n : Int) := by omega
    have t6 : decide (R.length ≤ n) = false := decide_eq_false (by omega)
    have t4 : (n : Int) < (R.length : Int) := by omega
    have cI : W.cell? ⟨bi, 0, none⟩ = some (.int .i64 (n : Int)) := by simp [World.cell?, i1.xbi]
    have fI : W.frozen? ⟨bi, 0, none⟩ = false := by simp [World.frozen?, i1.xbi]
    have cM : W.cell? ⟨bm, 0, none⟩ = some (.int .i64 (m : Int)) := by simp [World.cell?, i1.xbm]
    have cP : W.cell? ⟨cl, 0, none⟩ = some (.pointer (some ⟨rb, 0, none⟩)) := by simp [World.cell?, i1.xcl]
    have cR0 : W.cell? ⟨rb, 0, none⟩ = some (.slice (some ⟨gt, 0, none⟩) R.length ct) := by rw [← evt]; simp [World.cell?, i1.r.box]
    have cR1 : W.cell? ⟨rb, 1, none⟩ = some (.slice (some ⟨gh, 0, none⟩) R.length ch) := by rw [← evh]; simp [World.cell?, i1.r.box]
    have HJ := hideR i1
    have hlo := i1.lo
    clear i1 hx hid hn' hlt rt rh evt evh hT hH hTl hHl
    gi_wp2
    refine wpIn_quiet_round (F := Fence.wide) rfl (by kernel_rfl) (by kernel_rfl) (by kernel_rfl) ?_
    repeat (gi_big_quiet_step (fail))
    refine wpQuietIn_nil ?_
    rintro _ ⟨nq, rfl⟩
    have hk : Kept (fun k => k = bi) W ((W.drewN nq).setCell ⟨bi, 0, none⟩ (.int .i64 ((n : Int) + 1))) := ⟨rfl, rfl, rfl, by simp, fun k _ hk => set_other (W.drewN nq) _ _ _ _ hk⟩
    have i2 := HJ.out.xbi
    have hfrom : KeepsFrom W4.heap.size W ((W.drewN nq).setCell ⟨bi, 0, none⟩ (.int .i64 ((n : Int) + 1))) := ⟨by simp, fun k o _ ho hc => (hk.block k (Array.getElem?_eq_some_iff.1 ho).1 (fun e => by
      rw [e, i2] at ho
      obtain rfl := Option.some.inj ho
      cases hc)).trans ho⟩
    have hkp : KpI W ((W.drewN nq).setCell ⟨bi, 0, none⟩ (.int .i64 ((n : Int) + 1))) := KpI.ofKept hk (fun k c t hc ht e => by
      rw [e, i2] at hc
      simp at hc
      rcases ht with h | h <;> rw [h] at hc <;> simp at hc)
    have hst : EaI w B rb cl bm rx bi m J vt vh T H (n + 1) ((W.drewN nq).setCell ⟨bi, 0, none⟩ (.int .i64 ((n : Int) + 1))) := by
      refine HJ.out.step hk ?_
      have h0 : (W.drewN nq).heap[bi]? = some (.cells #[.int .i64 (n : Int)] 3 (0, 0)) := i2
      rw [(set_cells h0 0 _).1]
      simp
    have HST := hideR (And.intro hfrom (And.intro hkp hst))
    have cM2 : ((W.drewN nq).setCell ⟨bi, 0, none⟩ (.int .i64 ((n : Int) + 1))).cell? ⟨bm, 0, none⟩ = some (.int .i64 (m : Int)) := by simp [World.cell?, hst.xbm]
    have cI2 : ((W.drewN nq).setCell ⟨bi, 0, none⟩ (.int .i64 ((n : Int) + 1))).cell? ⟨bi, 0, none⟩ = some (.int .i64 ((n : Int) + 1)) := by have := hst.xbi; simp only [World.cell?, this]; simp
    clear hk i2 hfrom hkp hst
    by_cases hend : n + 1 = m
    · have tm : (m : Int) ≤ (n : Int) + 1 := by omega
      gi_wp2
      refine ⟨HST.out.1, rfl, ?_, ?_⟩
      · rw [HNN.out]; exact HST.out.2.2
      · rw [HNN.out]; exact hend
    · have tm : ¬ (m : Int) ≤ (n : Int) + 1 := by omega
      gi_wp2
      refine ⟨HST.out.1, HST.out.2.1, ?_, ?_⟩
      · show EaI w B rb cl bm rx bi m J vt vh T H (pre ++ [(⟨xb, xt, .int .i64 y⟩ : Stand)]).length _
        rw [HNN.out]; exact HST.out.2.2
      · rw [HNN.out]; omega
  case done =>
    rintro D xs W hD hS ⟨i1, hxm⟩ hK
    subst hS
    obtain ⟨at_, ct, evt⟩ := i1.r.rt.form
    rw [hlen] at evt
    have cI : W.cell? ⟨bi, 0, none⟩ = some (.int .i64 (xs.length : Int)) := by simp [World.cell?, i1.xbi]
    have cM : W.cell? ⟨bm, 0, none⟩ = some (.int .i64 (m : Int)) := by simp [World.cell?, i1.xbm]
    have cP : W.cell? ⟨cl, 0, none⟩ = some (.pointer (some ⟨rb, 0, none⟩)) := by simp [World.cell?, i1.xcl]
    have cR0 : W.cell? ⟨rb, 0, none⟩ = some (.slice at_ xs.length ct) := by rw [← evt]; simp [World.cell?, i1.r.box]
    have cX : W.cell? ⟨rx, 0, none⟩ = some (.bool false) := by simp [World.cell?, i1.xres]
    have fX : W.frozen? ⟨rx, 0, none⟩ = false := by simp [World.frozen?, i1.xres]
    have HI1 := hideR i1
    have HK := hideR hK
    clear i1 hK
    have tne : ((xs.length : Int) == (m : Int)) = false := by simp; omega
    go_wp2_with fail
    refine wp_onward ?_
    have sq : (fun X : World => X.cell? ⟨bi, 0, none⟩ = some (.int .i64 (xs.length : Int)) ∧ X.cell? ⟨bm, 0, none⟩ = some (.int .i64 (m : Int)) ∧ X.cell? ⟨cl, 0, none⟩ = some (.pointer (some ⟨rb, 0, none⟩)) ∧ X.cell? ⟨rb, 0, none⟩ = some (.slice at_ xs.length ct)) W.drew := ⟨cI, cM, cP, cR0⟩
    refine wp_region_held_drew (S := fun X => X.cell? ⟨bi, 0, none⟩ = some (.int .i64 (xs.length : Int)) ∧ X.cell? ⟨bm, 0, none⟩ = some (.int .i64 (m : Int)) ∧ X.cell? ⟨cl, 0, none⟩ = some (.pointer (some ⟨rb, 0, none⟩)) ∧ X.cell? ⟨rb, 0, none⟩ = some (.slice at_ xs.length ct)) (by kernel_rfl) sq (fun _ => ?_)
    refine H_take (i := 0) (v := .int .i64 (xs.length : Int)) (some 47) rfl rfl (by kernel_rfl) (by kernel_rfl) (by kernel_rfl) (fun _ _ _ h => h) rfl (fun X hX => ?_) sq ?_
    · simp [go_sem, hX.1]
    simp only [Act.put, List.setIfInBounds_toArray, List.set_cons_zero, List.set_cons_succ]
    refine H_take (i := 1) (v := .int .i64 (m : Int)) (some 48) rfl rfl (by kernel_rfl) (by kernel_rfl) (by kernel_rfl) (fun _ _ _ h => h) rfl (fun X hX => ?_) sq ?_
    · simp [go_sem, hX.2.1]
    simp only [Act.put, List.setIfInBounds_toArray, List.set_cons_zero, List.set_cons_succ]
    refine H_take (i := 2) (v := .bool false) (some 49) rfl rfl (by kernel_rfl) (by kernel_rfl) (by kernel_rfl) (fun _ _ _ h => h) rfl (fun X hX => ?_) sq ?_
    · simp [go_sem]; omega
    simp only [Act.put, List.setIfInBounds_toArray, List.set_cons_zero, List.set_cons_succ]
    refine H_take (i := 3) (v := .bool false) (some 50) rfl rfl (by kernel_rfl) (by kernel_rfl) (by kernel_rfl) (fun _ _ _ h => h) rfl (fun X hX => ?_) sq ?_
    · simp [go_sem]
    simp only [Act.put, List.setIfInBounds_toArray, List.set_cons_zero, List.set_cons_succ]
    refine H_take (i := 4) (v := .int .i64 (xs.length : Int)) (some 51) rfl rfl (by kernel_rfl) (by kernel_rfl) (by kernel_rfl) (fun _ _ _ h => h) rfl (fun X hX => ?_) sq ?_
    · simp [go_sem, hX.1]
    simp only [Act.put, List.setIfInBounds_toArray, List.set_cons_zero, List.set_cons_succ]
    refine H_take (i := 5) (v := .pointer (some ⟨rb, 0, none⟩)) (some 52) rfl rfl (by kernel_rfl) (by kernel_rfl) (by kernel_rfl) (fun _ _ _ h => h) rfl (fun X hX => ?_) sq ?_
    · simp [go_sem, hX.2.2.1]
    simp only [Act.put, List.setIfInBounds_toArray, List.set_cons_zero, List.set_cons_succ]
    refine H_take (i := 6) (v := .pointer (some ⟨rb, 0, none⟩)) (some 53) rfl rfl (by kernel_rfl) (by kernel_rfl) (by kernel_rfl) (fun _ _ _ h => h) rfl (fun X hX => ?_) sq ?_
    · simp [go_sem]
    simp only [Act.put, List.setIfInBounds_toArray, List.set_cons_zero, List.set_cons_succ]
    refine H_take (i := 7) (v := .pointer (some ⟨rb, 0, none⟩)) (some 54) rfl rfl (by kernel_rfl) (by kernel_rfl) (by kernel_rfl) (fun _ _ _ h => h) rfl (fun X hX => ?_) sq ?_
    · simp [go_sem]
    simp only [Act.put, List.setIfInBounds_toArray, List.set_cons_zero, List.set_cons_succ]
    refine H_take (i := 8) (v := .slice at_ xs.length ct) (some 55) rfl rfl (by kernel_rfl) (by kernel_rfl) (by kernel_rfl) (fun _ _ _ h => h) rfl (fun X hX => ?_) sq ?_
    · simp [go_sem, hX.2.2.2]
    simp only [Act.put, List.setIfInBounds_toArray, List.set_cons_zero, List.set_cons_succ]
    refine H_take (i := 9) (v := .int .i64 (xs.length : Int)) (some 56) rfl rfl (by kernel_rfl) (by kernel_rfl) (by kernel_rfl) (fun _ _ _ h => h) rfl (fun X hX => ?_) sq ?_
    · go_simp
    simp only [Act.put, List.setIfInBounds_toArray, List.set_cons_zero, List.set_cons_succ]
    refine H_take (i := 10) (v := .bool true) (some 57) rfl rfl (by kernel_rfl) (by kernel_rfl) (by kernel_rfl) (fun _ _ _ h => h) rfl (fun X hX => ?_) sq ?_
    · simp [go_sem]
    simp only [Act.put, List.setIfInBounds_toArray, List.set_cons_zero, List.set_cons_succ]
    refine H_take (i := 11) (v := .bool true) (some 58) rfl rfl (by kernel_rfl) (by kernel_rfl) (by kernel_rfl) (fun _ _ _ h => h) rfl (fun X hX => ?_) sq ?_
    · simp [go_sem]
    simp only [Act.put, List.setIfInBounds_toArray, List.set_cons_zero, List.set_cons_succ]
    have sq2 : (fun X : World => X.cell? ⟨bi, 0, none⟩ = some (.int .i64 (xs.length : Int)) ∧ X.cell? ⟨bm, 0, none⟩ = some (.int .i64 (m : Int)) ∧ X.cell? ⟨cl, 0, none⟩ = some (.pointer (some ⟨rb, 0, none⟩)) ∧ X.cell? ⟨rb, 0, none⟩ = some (.slice at_ xs.length ct)) (W.drew.setCell ⟨rx, 0, none⟩ (.bool true)) := ⟨(keep_cellQ HI1.out.xres cI (by simp)), (keep_cellQ HI1.out.xres cM (by simp)), (keep_cellQ HI1.out.xres cP (by simp)), (keep_cellQ HI1.out.xres cR0 (by simp))⟩
    refine H_skip (i := 12) (w' := W.drew.setCell ⟨rx, 0, none⟩ (.bool true)) rfl rfl (by kernel_rfl) rfl (by have h1 : W.drew.cell? ⟨rx, 0, none⟩ = some (.bool false) := cX; have h2 : W.drew.frozen? ⟨rx, 0, none⟩ = false := fX; simp [go_sem, h1, h2]) sq2 ?_
    refine wpAnyH_done (by kernel_rfl) ?_ _
    go_wp2_with fail
    have HR5 := HI1.out.xres
    have hset := set_cells HR5 0 (.bool true)
    have hDne : D ≠ rx := fun e => by have := HK.out; rw [e, HR5] at this; simp at this
    have hK' : (W.setCell ⟨rx, 0, none⟩ (.bool true)).drew.heap[D]? = some (.deferred (some [])) := (set_other W _ _ _ _ hDne).trans HK.out
    refine ⟨by simp, .inl ⟨_, _, rfl, run_takeDeferred hK', ?_⟩⟩
    have hc5 : ((W.setCell ⟨rx, 0, none⟩ (.bool true)).drew.putObj D (.deferred none)).cell? ⟨rx, 0, none⟩ = some (.bool true) := by
      have h9 : ((W.setCell ⟨rx, 0, none⟩ (.bool true)).drew.putObj D (.deferred none)).heap[rx]? = (W.setCell ⟨rx, 0, none⟩ (.bool true)).drew.heap[rx]? := World.putObj_heap_other (fun e => hDne e.symm)
      have h8 : (W.setCell ⟨rx, 0, none⟩ (.bool true)).drew.heap[rx]? = _ := hset.1
      simp [World.cell?, h9, h8]
    have hBs : Below w.heap.size w (W.setCell ⟨rx, 0, none⟩ (.bool true)).drew := (HI1.out.bel.grown hset.2 HI1.out.bel.size (fun k e => by have := Option.some.inj e; have := HI1.out.lo; omega)).drew
    exact ⟨.bool true, by simp [results, Try.f35, go_sem, hc5], rfl, hBs.grown (grownBy_putObj' _ D (.deferred none)) hBs.size (fun k e => by cases e; have := bw4.size; omega)⟩
  case stop =>
    rintro D c pre W hD hSp ⟨rfl, i1, hpm⟩ hK
    obtain ⟨at_, ct, evt⟩ := i1.r.rt.form
    rw [hlen] at evt
    have cI : W.cell? ⟨bi, 0, none⟩ = some (.int .i64 (pre.length : Int)) := by simp [World.cell?, i1.xbi]
    have cM : W.cell? ⟨bm, 0, none⟩ = some (.int .i64 (m : Int)) := by simp [World.cell?, i1.xbm]
    have cP : W.cell? ⟨cl, 0, none⟩ = some (.pointer (some ⟨rb, 0, none⟩)) := by simp [World.cell?, i1.xcl]
    have cR0 : W.cell? ⟨rb, 0, none⟩ = some (.slice at_ R.length ct) := by rw [← evt]; simp [World.cell?, i1.r.box]
    have cX : W.cell? ⟨rx, 0, none⟩ = some (.bool false) := by simp [World.cell?, i1.xres]
    have fX : W.frozen? ⟨rx, 0, none⟩ = false := by simp [World.frozen?, i1.xres]
    have HI1 := hideR i1
    have HK := hideR hK
    clear i1 hK
    have teq : ((pre.length : Int) == (m : Int)) = true := by simp; omega
    refine wpIn_wide.2 ?_
    go_wp2_with fail
    refine wp_onward ?_
    have sq : (fun X : World => X.cell? ⟨bi, 0, none⟩ = some (.int .i64 (pre.length : Int)) ∧ X.cell? ⟨bm, 0, none⟩ = some (.int .i64 (m : Int)) ∧ X.cell? ⟨cl, 0, none⟩ = some (.pointer (some ⟨rb, 0, none⟩)) ∧ X.cell? ⟨rb, 0, none⟩ = some (.slice at_ R.length ct)) W.drew := ⟨cI, cM, cP, cR0⟩
    refine wp_region_held_drew (S := fun X => X.cell? ⟨bi, 0, none⟩ = some (.int .i64 (pre.length : Int)) ∧ X.cell? ⟨bm, 0, none⟩ = some (.int .i64 (m : Int)) ∧ X.cell? ⟨cl, 0, none⟩ = some (.pointer (some ⟨rb, 0, none⟩)) ∧ X.cell? ⟨rb, 0, none⟩ = some (.slice at_ R.length ct)) (by kernel_rfl) sq (fun _ => ?_)
    refine H_take (i := 0) (v := .int .i64 (pre.length : Int)) (some 47) rfl rfl (by kernel_rfl) (by kernel_rfl) (by kernel_rfl) (fun _ _ _ h => h) rfl (fun X hX => ?_) sq ?_
    · simp [go_sem, hX.1]
    simp only [Act.put, List.setIfInBounds_toArray, List.set_cons_zero, List.set_cons_succ]
    refine H_take (i := 1) (v := .int .i64 (m : Int)) (some 48) rfl rfl (by kernel_rfl) (by kernel_rfl) (by kernel_rfl) (fun _ _ _ h => h) rfl (fun X hX => ?_) sq ?_
    · simp [go_sem, hX.2.1]
    simp only [Act.put, List.setIfInBounds_toArray, List.set_cons_zero, List.set_cons_succ]
    refine H_take (i := 2) (v := .bool true) (some 49) rfl rfl (by kernel_rfl) (by kernel_rfl) (by kernel_rfl) (fun _ _ _ h => h) rfl (fun X hX => ?_) sq ?_
    · simp [go_sem]; omega
    simp only [Act.put, List.setIfInBounds_toArray, List.set_cons_zero, List.set_cons_succ]
    refine H_take (i := 3) (v := .bool true) (some 50) rfl rfl (by kernel_rfl) (by kernel_rfl) (by kernel_rfl) (fun _ _ _ h => h) rfl (fun X hX => ?_) sq ?_
    · simp [go_sem]
    simp only [Act.put, List.setIfInBounds_toArray, List.set_cons_zero, List.set_cons_succ]
    refine H_pass (i := 4) (some 51) rfl rfl (by kernel_rfl) (by kernel_rfl) (by kernel_rfl) (fun _ _ _ h => h) rfl sq ?_
    simp only [Act.put, List.setIfInBounds_toArray, List.set_cons_zero, List.set_cons_succ]
    refine H_pass (i := 5) (some 52) rfl rfl (by kernel_rfl) (by kernel_rfl) (by kernel_rfl) (fun _ _ _ h => h) rfl sq ?_
    simp only [Act.put, List.setIfInBounds_toArray, List.set_cons_zero, List.set_cons_succ]
    refine H_pass (i := 6) (some 53) rfl rfl (by kernel_rfl) (by kernel_rfl) (by kernel_rfl) (fun _ _ _ h => h) rfl sq ?_
    simp only [Act.put, List.setIfInBounds_toArray, List.set_cons_zero, List.set_cons_succ]
    refine H_pass (i := 7) (some 54) rfl rfl (by kernel_rfl) (by kernel_rfl) (by kernel_rfl) (fun _ _ _ h => h) rfl sq ?_
    simp only [Act.put, List.setIfInBounds_toArray, List.set_cons_zero, List.set_cons_succ]
    refine H_pass (i := 8) (some 55) rfl rfl (by kernel_rfl) (by kernel_rfl) (by kernel_rfl) (fun _ _ _ h => h) rfl sq ?_
    simp only [Act.put, List.setIfInBounds_toArray, List.set_cons_zero, List.set_cons_succ]
    refine H_pass (i := 9) (some 56) rfl rfl (by kernel_rfl) (by kernel_rfl) (by kernel_rfl) (fun _ _ _ h => h) rfl sq ?_
    simp only [Act.put, List.setIfInBounds_toArray, List.set_cons_zero, List.set_cons_succ]
    refine H_pass (i := 10) (some 57) rfl rfl (by kernel_rfl) (by kernel_rfl) (by kernel_rfl) (fun _ _ _ h => h) rfl sq ?_
    simp only [Act.put, List.setIfInBounds_toArray, List.set_cons_zero, List.set_cons_succ]
    refine H_take (i := 11) (v := .bool true) (some 58) rfl rfl (by kernel_rfl) (by kernel_rfl) (by kernel_rfl) (fun _ _ _ h => h) rfl (fun X hX => ?_) sq ?_
    · simp [go_sem]
    simp only [Act.put, List.setIfInBounds_toArray, List.set_cons_zero, List.set_cons_succ]
    have sq2 : (fun X : World => X.cell? ⟨bi, 0, none⟩ = some (.int .i64 (pre.length : Int)) ∧ X.cell? ⟨bm, 0, none⟩ = some (.int .i64 (m : Int)) ∧ X.cell? ⟨cl, 0, none⟩ = some (.pointer (some ⟨rb, 0, none⟩)) ∧ X.cell? ⟨rb, 0, none⟩ = some (.slice at_ R.length ct)) (W.drew.setCell ⟨rx, 0, none⟩ (.bool true)) := ⟨(keep_cellQ HI1.out.xres cI (by simp)), (keep_cellQ HI1.out.xres cM (by simp)), (keep_cellQ HI1.out.xres cP (by simp)), (keep_cellQ HI1.out.xres cR0 (by simp))⟩
    refine H_skip (i := 12) (w' := W.drew.setCell ⟨rx, 0, none⟩ (.bool true)) rfl rfl (by kernel_rfl) rfl (by have h1 : W.drew.cell? ⟨rx, 0, none⟩ = some (.bool false) := cX; have h2 : W.drew.frozen? ⟨rx, 0, none⟩ = false := fX; simp [go_sem, h1, h2]) sq2 ?_
    refine wpAnyH_done (by kernel_rfl) ?_ _
    go_wp2_with fail
    have HR5 := HI1.out.xres
    have hset := set_cells HR5 0 (.bool true)
    have hDne : D ≠ rx := fun e => by have := HK.out; rw [e, HR5] at this; simp at this
    have hK' : (W.setCell ⟨rx, 0, none⟩ (.bool true)).drew.heap[D]? = some (.deferred (some [])) := (set_other W _ _ _ _ hDne).trans HK.out
    refine ⟨by simp, .inl ⟨_, _, rfl, run_takeDeferred hK', ?_⟩⟩
    have hc5 : ((W.setCell ⟨rx, 0, none⟩ (.bool true)).drew.putObj D (.deferred none)).cell? ⟨rx, 0, none⟩ = some (.bool true) := by
      have h9 : ((W.setCell ⟨rx, 0, none⟩ (.bool true)).drew.putObj D (.deferred none)).heap[rx]? = (W.setCell ⟨rx, 0, none⟩ (.bool true)).drew.heap[rx]? := World.putObj_heap_other (fun e => hDne e.symm)
      have h8 : (W.setCell ⟨rx, 0, none⟩ (.bool true)).drew.heap[rx]? = _ := hset.1
      simp [World.cell?, h9, h8]
    have hBs : Below w.heap.size w (W.setCell ⟨rx, 0, none⟩ (.bool true)).drew := (HI1.out.bel.grown hset.2 HI1.out.bel.size (fun k e => by have := Option.some.inj e; have := HI1.out.lo; omega)).drew
    exact ⟨.bool true, by simp [results, Try.f35, go_sem, hc5], rfl, hBs.grown (grownBy_putObj' _ D (.deferred none)) hBs.size (fun k e => by cases e; have := bw4.size; omega)⟩
end Go.Proofs.Ytccpaapbgdpghaa
