/-
  The walk of whole. (Written by genwh.py.)
-/
import Derived.Test.YtccpaapbgdpghaaRefClone
import Derived.Test.YtccpaapbgdpghaaAll1I
import Derived.Test.YtccpaapbgdpghaaPartI
import Derived.Test.YtccpaapbgdpghaaRound
import Derived.Deep.RegionHeldLaw
namespace Go.Proofs.Ytccpaapbgdpghaa
open Go.RowKit

/-- A queue of the program's and the document's, which are alike. -/
structure Alike (R : List Stand) (T H : List Int) : Prop where
  tk : R.map (fun r => r.tk) = T
  vs : R.map (fun r => r.v) = H.map (Value.int .i64)
theorem Alike.lenT {R : List Stand} {T H : List Int} (h : Alike R T H) : T.length = R.length := by rw [← h.tk, List.length_map]
theorem Alike.lenH {R : List Stand} {T H : List Int} (h : Alike R T H) : H.length = R.length := by have := congrArg List.length h.vs; simpa using this.symm
theorem Alike.at {R : List Stand} {T H : List Int} (h : Alike R T H) {i : Nat} {x : Stand} (hx : R[i]? = some x) : T[i]? = some x.tk ∧ ∃ y, H[i]? = some y ∧ x.v = .int .i64 y := by
  refine ⟨by rw [← h.tk, List.getElem?_map, hx]; rfl, ?_⟩
  have hl := (List.getElem?_eq_some_iff.1 hx).1
  obtain ⟨y, hy⟩ : ∃ y, H[i]? = some y := ⟨_, List.getElem?_eq_getElem (by rw [h.lenH]; exact hl)⟩
  refine ⟨y, hy, ?_⟩
  have := congrArg (fun l : List Value => l[i]?) h.vs
  simp only [List.getElem?_map, hx, hy, Option.map_some, Option.some.injEq] at this
  exact this
theorem Alike.ints {R : List Stand} {T H : List Int} (h : Alike R T H) : ∀ r ∈ R, ∃ x : Int, r.v = .int .i64 x := fun r hr => by
  obtain ⟨i, hi⟩ := List.getElem?_of_mem hr
  obtain ⟨_, y, _, e⟩ := h.at hi
  exact ⟨y, e⟩
theorem not_cellsQ {W : World} {k : Nat} {c : Array Value} {t : TypeId} {B : Nat} {row : Option Nat} (hc : W.heap[k]? = some (.cells c t (0, 0))) (hr : ∀ r, row = some r → B ≤ r ∧ ∃ o : Obj, W.heap[r]? = some o ∧ o.isCells = false) : ¬ row = some k := fun e => by
  obtain ⟨_, o, h2, h3⟩ := hr k e
  rw [hc] at h2
  obtain rfl := Option.some.inj h2
  cases h3
theorem Nums.monoQ {W : World} {B B' : Nat} {v : Value} {l : List Int} (h : Nums W B v l) (hB : B' ≤ B) : Nums W B' v l := by
  refine ⟨h.1, ?_⟩
  rcases h.2 with h0 | ⟨g, cap, cur, hv, hb, rest⟩
  · exact .inl h0
  · exact .inr ⟨g, cap, cur, hv, Nat.le_trans hB hb, rest⟩
theorem keep_cellQ {W : World} {k : Nat} {t : TypeId} (h : W.heap[k]? = some (.cells #[.bool false] t (0, 0))) {b i : Nat} {v u : Value} (hv : W.cell? ⟨b, i, none⟩ = some v) (hne : v ≠ .bool false) : (W.setCell ⟨k, 0, none⟩ u).drew.cell? ⟨b, i, none⟩ = some v := by
  have hb : b ≠ k := fun e => by
    subst e
    simp only [World.cell?, h] at hv
    cases i with
    | zero => simp at hv; exact hne hv.symm
    | succ i => simp at hv
  exact (World.cell?_of_block (w := W) (w' := (W.setCell ⟨k, 0, none⟩ u).drew) (a := ⟨b, i, none⟩) (set_other W k 0 u b hb)).trans hv
/-- What holds between the rounds. -/
structure WhI (w : World) (rc cl bi : Nat) (J : Int) (vt vh : Value) (T H : List Int) (n : Nat) (W : World) : Prop where
  r : RefAt w.heap.size W rc J vt vh T H
  xcl : W.heap[cl]? = some (.cells #[.pointer (some ⟨rc, 0, none⟩)] 31 (0, 0))
  xbi : W.heap[bi]? = some (.cells #[.int .i64 (n : Int)] 3 (0, 0))
  xres : W.heap[w.heap.size]? = some (.cells #[.bool false] 4 (0, 0))
  bel : Below w.heap.size w W
  lo : (∀ k, RMine rc vt vh k → k < bi) ∧ w.heap.size < bi ∧ w.heap.size < rc
theorem WhI.own {w W W' : World} {rc cl bi n B : Nat} {J : Int} {vt vh : Value} {T H : List Int} {row : Option Nat} (h : WhI w rc cl bi J vt vh T H n W) (hB : w.heap.size ≤ B) (hg : W.grownBy W' row) (hr : ∀ r, row = some r → B ≤ r ∧ ∃ o : Obj, W.heap[r]? = some o ∧ o.isCells = false) : WhI w rc cl bi J vt vh T H n W' :=
  ⟨h.r.kept (kept_row hg) (fun k hM => by
    rcases hM with rfl | e | e
    · exact not_cellsQ h.r.box hr
    · obtain ⟨c, hc, _⟩ := h.r.rt.block e
      exact not_cellsQ hc hr
    · obtain ⟨c, hc, _⟩ := h.r.rh.block e
      exact not_cellsQ hc hr), cells_own h.xcl hg hr, cells_own h.xbi hg hr, cells_own h.xres hg hr, h.bel.grown hg h.bel.size (fun k e => Nat.le_trans hB (hr k e).1), h.lo⟩
theorem WhI.step {w W W' : World} {rc cl bi n : Nat} {J : Int} {vt vh : Value} {T H : List Int} (h : WhI w rc cl bi J vt vh T H n W) (hk : Kept (fun k => k = bi) W W') (hx : W'.heap[bi]? = some (.cells #[.int .i64 ((n : Int) + 1)] 3 (0, 0))) : WhI w rc cl bi J vt vh T H (n + 1) W' :=
  ⟨h.r.kept hk (fun k hM e => by have := h.lo.1 k hM; omega), (hk.block cl (Array.getElem?_eq_some_iff.1 h.xcl).1 (fun e => by have := h.xcl; rw [e, h.xbi] at this; simp at this)).trans h.xcl, by rw [hx]; simp, (hk.block _ (Array.getElem?_eq_some_iff.1 h.xres).1 (fun e => by have := h.lo.2.1; omega)).trans h.xres, h.bel.trans (hk.below h.bel.size (fun k hlt e => by have := h.lo.2.1; omega)), h.lo⟩
attribute [local go_sem] Oper.semAt_some wide_fn
set_option maxHeartbeats 8000000 in
set_option maxRecDepth 1000000 in
theorem whole_any (B : Nat) (w : World) (qb mb cb rb : Nat) (given J : Int) (R : List Stand) (vt vh : Value) (T H : List Int) (hq : QueueAtI w qb mb given R) (hbx : boxedI w cb qb) (hr : RefAt B w rb J vt vh T H) (ha : Alike R T H) (hR : R.length ≤ 1073741823) :
    Calls Try.prog 7 #[.func (.func 26) #[] #[.pointer (some ⟨cb, 0, none⟩)], .pointer (some ⟨rb, 0, none⟩)] w fun e w' => e = .returned (.bool true) ∧ Below w.heap.size w w' := by
  have HQ := hideR hq
  have HBX := hideR hbx
  have HRR := hideR hr
  have HA := hideR ha
  obtain ⟨W1, hW1⟩ : ∃ W1, W1 = w.alloc (.cells #[.bool false] 4) := ⟨_, rfl⟩
  have B1 : Below w.heap.size w W1 := by rw [hW1]; exact (Below.refl _ w).alloc (Nat.le_refl _) _
  have x1 : W1.heap[w.heap.size]? = some (.cells #[.bool false] 4 (0, 0)) := by rw [hW1]; exact heap_alloc_new w _
  have z1 : W1.heap.size = w.heap.size + 1 := by rw [hW1]; simp
  have CL := hideR (refCloneQ B W1 rb J vt vh T H (hr.below B1) (by rw [ha.lenT]; omega) (by rw [ha.lenH]; omega))
  have H1 := hideR (And.intro B1 (And.intro x1 z1))
  clear hq hbx hr ha B1 x1 z1
  refine (callsIn_wide (n := 3)).1 ?_
  refine callsIn_of_wp_marks Try.func7 rfl trivial ?_ rfl
  simp only [Try.ntmps7, List.size_toArray, List.length_cons, List.length_nil, Nat.reduceAdd, Nat.reduceSub, Array.replicate_succ, Array.replicate_zero, List.push_toArray, List.append_toArray, List.nil_append, List.cons_append]
  refine wpIn_wide.2 ?_
  go_wp2_with fail
  rw [← hW1]
  clear hW1
  refine CL.out.mono ?_
  rintro e W2 ⟨b2, rfl, vt2, vh2, r2⟩
  have R2 := hideR (And.intro b2 r2)
  clear b2 r2
  go_wp2_with fail
  obtain ⟨b2, r2⟩ := R2.out
  obtain ⟨rc, hrc⟩ : ∃ rc, rc = W1.heap.size := ⟨_, rfl⟩
  rw [← hrc] at r2 ⊢
  obtain ⟨cl, hcl⟩ : ∃ cl, cl = W2.heap.size := ⟨_, rfl⟩
  obtain ⟨bi, hbi⟩ : ∃ bi, bi = W2.heap.size + 1 := ⟨_, rfl⟩
  obtain ⟨W4, hW4⟩ : ∃ W4, W4 = (W2.alloc (.cells #[.pointer (some ⟨rc, 0, none⟩)] 31)).alloc (.cells #[.int .i64 0] 3) := ⟨_, rfl⟩
  have b4 : Below W2.heap.size W2 W4 := by rw [hW4]; exact ((Below.refl _ W2).alloc (Nat.le_refl _) _).alloc (by simp) _
  have xcl : W4.heap[cl]? = some (.cells #[.pointer (some ⟨rc, 0, none⟩)] 31 (0, 0)) := by
    rw [hW4, hcl]
    exact (heap_alloc_old (W2.alloc (.cells #[.pointer (some ⟨rc, 0, none⟩)] 31)) _ (by simp)).trans (heap_alloc_new W2 _)
  have xbi : W4.heap[bi]? = some (.cells #[.int .i64 0] 3 (0, 0)) := by
    rw [hW4, hbi]
    have := heap_alloc_new (W2.alloc (.cells #[.pointer (some ⟨rc, 0, none⟩)] 31)) (.cells #[.int .i64 0] 3)
    rw [World.size_alloc] at this
    exact this
  have hz2 := b2.size
  obtain ⟨B1, x1, z1⟩ := H1.out
  have i4 : WhI w rc cl bi J vt2 vh2 T H 0 W4 := by
    have r4 := r2.below b4
    refine ⟨⟨r4.box, Nums.monoQ r4.rt (by omega), Nums.monoQ r4.rh (by omega), r4.ap, by omega⟩, xcl, xbi, (b4.block _ (by omega)).trans ((b2.block _ (by omega)).trans x1), B1.trans ((b2.trans (b4.mono hz2)).mono B1.size), fun k hk => by have := r2.lt hk; omega, by omega, by omega⟩
  have HI := hideR i4
  have bw4 : Below w.heap.size w W4 := i4.bel
  have HBI := hideR (And.intro hcl (And.intro hbi hrc))
  clear b2 r2 b4 xcl xbi B1 x1 z1 i4 R2
  rw [← hW4, ← hbi, ← hcl]
  clear hW4 hcl hbi hrc
  have hlen := HA.out.lenT
  refine (wpIn_wide (n := 3)).1 ?_
  refine wpIn_told rfl (by omega) (gf := 26) (lb := #[.pointer (some ⟨cb, 0, none⟩)]) rfl trivial (enters_of Try.func26 (by kernel_rfl) rfl)
    (all1_toldI 2 cb qb mb _ R w HQ.out HBX.out (by omega) HA.out.ints) (fun h k => h.trans k) (fun W l o o' _ hl ho _ => KpI.put W l o o' hl ho) bw4 (fun _ => rfl)
    (fun pre W => WhI w rc cl bi J vt2 vh2 T H pre.length W)
    (fun _ _ _ => False)
    (fun pre W W' row hs hgr hr => hs.own bw4.size hgr hr)
    (fun _ _ _ _ _ h _ _ => h.elim)
    (fun pre x A _ _ _ _ h _ _ => h)
    HI.out
    ?a1 ?assign ?body ?done ?stop
  case assign =>
    intro l x W K hK
    gi_wp2
    exact hK
  case body =>
    rintro id pre ⟨xb, xt, xv⟩ A W hid _ _ _ _ i1 hx hlt
    obtain ⟨hT, y, hH, hxv⟩ := HA.out.at hx
    simp only [] at hxv hT
    subst hxv
    obtain ⟨n, hn'⟩ : ∃ n, n = pre.length := ⟨_, rfl⟩
    rw [← hn'] at i1 hlt hT hH
    have HN : HidR ((pre ++ [(⟨xb, xt, .int .i64 y⟩ : Stand)]).length = n + 1) := ⟨by rw [List.length_append, ← hn']; rfl⟩
    obtain ⟨at_, ct, evt⟩ := i1.r.rt.form
    obtain ⟨ah, ch, evh⟩ := i1.r.rh.form
    have hTl : T.length = R.length := HA.out.lenT
    have hHl : H.length = R.length := HA.out.lenH
    rw [hTl] at evt
    rw [hHl] at evh
    have rt := i1.r.rt
    have rh := i1.r.rh
    rw [evt] at rt
    rw [evh] at rh
    obtain ⟨gt, et, y1⟩ := rt.cell hT
    obtain ⟨gh, eh, y2⟩ := rh.cell hH
    subst et eh
    have t3 : ¬ (R.length : Int) ≤ (n : Int) := by omega
    have t6 : decide (R.length ≤ n) = false := decide_eq_false (by omega)
    have t4 : (n : Int) < (R.length : Int) := by omega
    have cI : W.cell? ⟨bi, 0, none⟩ = some (.int .i64 (n : Int)) := by simp [World.cell?, i1.xbi]
    have fI : W.frozen? ⟨bi, 0, none⟩ = false := by simp [World.frozen?, i1.xbi]
    have cP : W.cell? ⟨cl, 0, none⟩ = some (.pointer (some ⟨rc, 0, none⟩)) := by simp [World.cell?, i1.xcl]
    have cR0 : W.cell? ⟨rc, 0, none⟩ = some (.slice (some ⟨gt, 0, none⟩) R.length ct) := by rw [← evt]; simp [World.cell?, i1.r.box]
    have cR1 : W.cell? ⟨rc, 1, none⟩ = some (.slice (some ⟨gh, 0, none⟩) R.length ch) := by rw [← evh]; simp [World.cell?, i1.r.box]
    have HJ := hideR i1
    clear i1 hx hid hn' hlt rt rh evt evh hT hH hTl hHl
    gi_wp2
    refine wpIn_quiet_round (F := Fence.wide) rfl (by kernel_rfl) (by kernel_rfl) (by kernel_rfl) ?_
    repeat (gi_big_quiet_step (fail))
    refine wpQuietIn_nil ?_
    rintro _ ⟨nq, rfl⟩
    gi_wp2
    have i2 := HJ.out.xbi
    have hk : Kept (fun k => k = bi) W ((W.drewN nq).setCell ⟨bi, 0, none⟩ (.int .i64 ((n : Int) + 1))) := ⟨rfl, rfl, rfl, by simp, fun k _ hk => set_other (W.drewN nq) _ _ _ _ hk⟩
    refine ⟨⟨by simp, fun k o _ ho hc => (hk.block k (Array.getElem?_eq_some_iff.1 ho).1 (fun e => ?_)).trans ho⟩, KpI.ofKept hk (fun k c t hc ht e => ?_), ?_⟩
    · rw [e, i2] at ho
      obtain rfl := Option.some.inj ho
      cases hc
    · rw [e, i2] at hc
      simp at hc
      rcases ht with h | h <;> rw [h] at hc <;> simp at hc
    · show WhI w rc cl bi J vt2 vh2 T H (pre ++ [(⟨xb, xt, .int .i64 y⟩ : Stand)]).length _
      rw [HN.out]
      refine HJ.out.step hk ?_
      have h0 : (W.drewN nq).heap[bi]? = some (.cells #[.int .i64 (n : Int)] 3 (0, 0)) := i2
      rw [(set_cells h0 0 _).1]
      simp
  case done =>
    rintro D xs W hD hS i1 hK
    subst hS
    obtain ⟨at_, ct, evt⟩ := i1.r.rt.form
    rw [hlen] at evt
    have cI : W.cell? ⟨bi, 0, none⟩ = some (.int .i64 (xs.length : Int)) := by simp [World.cell?, i1.xbi]
    have cP : W.cell? ⟨cl, 0, none⟩ = some (.pointer (some ⟨rc, 0, none⟩)) := by simp [World.cell?, i1.xcl]
    have cR0 : W.cell? ⟨rc, 0, none⟩ = some (.slice at_ xs.length ct) := by rw [← evt]; simp [World.cell?, i1.r.box]
    have cX : W.cell? ⟨w.heap.size, 0, none⟩ = some (.bool false) := by simp [World.cell?, i1.xres]
    have fX : W.frozen? ⟨w.heap.size, 0, none⟩ = false := by simp [World.frozen?, i1.xres]
    have HI1 := hideR i1
    have HK := hideR hK
    clear i1 hK
    go_wp2_with fail
    refine wp_onward ?_
    go_region_held (fun w' => w'.cell? ⟨bi, 0, none⟩ = some (.int .i64 (xs.length : Int)) ∧ w'.cell? ⟨cl, 0, none⟩ = some (.pointer (some ⟨rc, 0, none⟩)) ∧ w'.cell? ⟨rc, 0, none⟩ = some (.slice at_ xs.length ct)) (first | assumption | exact ⟨cI, cP, cR0⟩ | exact ⟨(keep_cellQ HI1.out.xres cI (by simp)), (keep_cellQ HI1.out.xres cP (by simp)), (keep_cellQ HI1.out.xres cR0 (by simp))⟩) (fail)
    go_wp2_with fail
    have HR5 := HI1.out.xres
    have hset := set_cells HR5 0 (.bool true)
    have hDne : D ≠ w.heap.size := fun e => by have := HK.out; rw [e, HR5] at this; simp at this
    have hK' : (W.setCell ⟨w.heap.size, 0, none⟩ (.bool true)).drew.heap[D]? = some (.deferred (some [])) := (set_other W _ _ _ _ hDne).trans HK.out
    refine ⟨by simp, .inl ⟨_, _, rfl, run_takeDeferred hK', ?_⟩⟩
    have hc5 : ((W.setCell ⟨w.heap.size, 0, none⟩ (.bool true)).drew.putObj D (.deferred none)).cell? ⟨w.heap.size, 0, none⟩ = some (.bool true) := by
      have h9 : ((W.setCell ⟨w.heap.size, 0, none⟩ (.bool true)).drew.putObj D (.deferred none)).heap[w.heap.size]? = (W.setCell ⟨w.heap.size, 0, none⟩ (.bool true)).drew.heap[w.heap.size]? := World.putObj_heap_other (fun e => hDne e.symm)
      have h8 : (W.setCell ⟨w.heap.size, 0, none⟩ (.bool true)).drew.heap[w.heap.size]? = _ := hset.1
      simp [World.cell?, h9, h8]
    have hBs : Below w.heap.size w (W.setCell ⟨w.heap.size, 0, none⟩ (.bool true)).drew := (HI1.out.bel.grown hset.2 HI1.out.bel.size (fun k e => by have := Option.some.inj e; omega)).drew
    exact ⟨.bool true, by simp [results, Try.f7, go_sem, hc5], rfl, hBs.grown (grownBy_putObj' _ D (.deferred none)) hBs.size (fun k e => by cases e; have := bw4.size; omega)⟩
  case stop =>
    rintro D c pre W hD _ h
    exact h.elim
end Go.Proofs.Ytccpaapbgdpghaa
