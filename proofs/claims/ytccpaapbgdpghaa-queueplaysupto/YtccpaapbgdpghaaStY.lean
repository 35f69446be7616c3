/-
  St4, St5, St6.
-/
import Derived.Test.YtccpaapbgdpghaaStepQ
import Derived.Test.YtccpaapbgdpghaaFromI
import Derived.Deep.CutBlock
import Derived.Test.YtccpaapbgdpghaaBoth
import Derived.Test.YtccpaapbgdpghaaGoX
namespace Go.Proofs.Ytccpaapbgdpghaa
open Go.RowKit

set_option maxHeartbeats 8000000 in
set_option maxRecDepth 1000000 in
theorem step4 (w0 w : World) (db N : Nat) (on n x : Int) (h0 : DkN w0 db N w) (hN : N ≤ 1048576) (hon : -9223372036854775808 ≤ on ∧ on ≤ 9223372036854775807) (hn : -9223372036854775808 ≤ n ∧ n ≤ 9223372036854775807) (hx : -9223372036854775808 ≤ x ∧ x ≤ 9223372036854775807) :
    Calls Try.prog 6 #[.pointer (some ⟨db, 0, none⟩), .agg #[.int .i64 4, .int .i64 on, .int .i64 n, .int .i64 x]] w fun e w' => e = .returned (.bool true) ∧ DkN w0 db (N + 1) w' := by
  obtain ⟨P, L, vl, K, vk, h, hL, hK⟩ := h0
  have hL0 : 0 < L.length := by cases L with | nil => exact absurd rfl hL | cons y L => simp
  obtain ⟨W1, hW1⟩ : ∃ W1, W1 = w.alloc (.cells #[.int .i64 4, .int .i64 on, .int .i64 n, .int .i64 x] 39) := ⟨_, rfl⟩
  have b1 : Below w.heap.size w W1 := by rw [hW1]; exact (Below.refl _ w).alloc (Nat.le_refl _) _
  obtain ⟨bo, hbo⟩ : ∃ bo, bo = w.heap.size := ⟨_, rfl⟩
  have xo1 : W1.heap[bo]? = some (.cells #[.int .i64 4, .int .i64 on, .int .i64 n, .int .i64 x] 39 (0, 0)) := by rw [hW1, hbo]; exact heap_alloc_new w _
  have h1 := h.later b1
  obtain ⟨al, cl, hvl⟩ := h1.rl.form
  rw [List.length_map] at hvl
  subst hvl
  obtain ⟨gk, off, rfl, hgk, _⟩ := h1.rl.range (j := 0) (x := lval (L[0]'hL0)) (by rw [List.getElem?_map, List.getElem?_eq_getElem hL0]; rfl)
  have H1 := hideR h1
  have HBO := hideR (And.intro hW1 hbo)
  have HG := hideR hgk
  have HXO := hideR xo1
  have HKL := hideR (And.intro hL hK)
  have HB := hideR (And.intro hon (And.intro hn hx))
  have hL4 := h1.cl
  clear h h1 hW1 hbo hgk xo1 b1 hL hK hon hn hx
  go_enter Try.func6, Try.ntmps6
  go_upto_region 1 with fail
  rw [← HBO.out.1, ← HBO.out.2]
  go_cut [5] from 12 to 25 (fun s5 wx => s5 = .pointer (some ⟨W1.heap.size, 0, none⟩) ∧ Picked W1 P W1.heap.size wx)
  case first =>
    have hd : DkAt w0 W1.drew db P L (.slice (some ⟨gk, off, none⟩) L.length cl) K vk N := H1.out.later ⟨rfl, rfl, rfl, Nat.le_refl _, fun _ _ => rfl⟩
    have sq : (fun X : World => X.heap[db]? = some (.cells #[.slice (some ⟨gk, off, none⟩) L.length cl, vk] 28 (0, 0)) ∧ X.heap[bo]? = some (.cells #[.int .i64 4, .int .i64 on, .int .i64 n, .int .i64 x] 39 (0, 0)) ∧ X.heap[gk]? = W1.drew.heap[gk]?) W1.drew := ⟨hd.box, HXO.out, rfl⟩
    have HD := hideR hd
    clear hd
    refine wp_region_held_drew (S := (fun X : World => X.heap[db]? = some (.cells #[.slice (some ⟨gk, off, none⟩) L.length cl, vk] 28 (0, 0)) ∧ X.heap[bo]? = some (.cells #[.int .i64 4, .int .i64 on, .int .i64 n, .int .i64 x] 39 (0, 0)) ∧ X.heap[gk]? = W1.drew.heap[gk]?)) mixed sq (fun _ => ?_)
    refine H_take (i := 0) (v := .pointer (some ⟨db, 0, none⟩)) (some 12) rfl rfl (by kernel_rfl) (by kernel_rfl) (by kernel_rfl) (fun _ _ _ h => h) rfl (fun X hX => ?_) sq ?_
    · simp [go_sem]
    simp only [Act.put, List.setIfInBounds_toArray, List.set_cons_zero, List.set_cons_succ]
    refine H_take (i := 1) (v := .pointer (some ⟨db, 0, none⟩)) (some 13) rfl rfl (by kernel_rfl) (by kernel_rfl) (by kernel_rfl) (fun _ _ _ h => h) rfl (fun X hX => ?_) sq ?_
    · simp [go_sem]
    simp only [Act.put, List.setIfInBounds_toArray, List.set_cons_zero, List.set_cons_succ]
    refine H_take (i := 2) (v := .pointer (some ⟨db, 0, none⟩)) (some 14) rfl rfl (by kernel_rfl) (by kernel_rfl) (by kernel_rfl) (fun _ _ _ h => h) rfl (fun X hX => ?_) sq ?_
    · simp [go_sem]
    simp only [Act.put, List.setIfInBounds_toArray, List.set_cons_zero, List.set_cons_succ]
    refine H_take (i := 3) (v := .slice (some ⟨gk, off, none⟩) L.length cl) (some 15) rfl rfl (by kernel_rfl) (by kernel_rfl) (by kernel_rfl) (fun _ _ _ h => h) rfl (fun X hX => ?_) sq ?_
    · exact run_load1 rfl rfl Try.isAgg25 (by simp only [World.cell?, hX.1]; simp)
    simp only [Act.put, List.setIfInBounds_toArray, List.set_cons_zero, List.set_cons_succ]
    refine H_take (i := 4) (v := .pointer (some ⟨bo, 1, none⟩)) (some 16) rfl rfl (by kernel_rfl) (by kernel_rfl) (by kernel_rfl) (fun _ _ _ h => h) rfl (fun X hX => ?_) sq ?_
    · simp [go_sem]
    simp only [Act.put, List.setIfInBounds_toArray, List.set_cons_zero, List.set_cons_succ]
    refine H_take (i := 5) (v := .int .i64 on) (some 17) rfl rfl (by kernel_rfl) (by kernel_rfl) (by kernel_rfl) (fun _ _ _ h => h) rfl (fun X hX => ?_) sq ?_
    · simp [go_sem, World.cell?, hX.2.1]
    simp only [Act.put, List.setIfInBounds_toArray, List.set_cons_zero, List.set_cons_succ]
    refine H_take (i := 6) (v := .pointer (some ⟨db, 0, none⟩)) (some 18) rfl rfl (by kernel_rfl) (by kernel_rfl) (by kernel_rfl) (fun _ _ _ h => h) rfl (fun X hX => ?_) sq ?_
    · simp [go_sem]
    simp only [Act.put, List.setIfInBounds_toArray, List.set_cons_zero, List.set_cons_succ]
    refine H_take (i := 7) (v := .pointer (some ⟨db, 0, none⟩)) (some 19) rfl rfl (by kernel_rfl) (by kernel_rfl) (by kernel_rfl) (fun _ _ _ h => h) rfl (fun X hX => ?_) sq ?_
    · simp [go_sem]
    simp only [Act.put, List.setIfInBounds_toArray, List.set_cons_zero, List.set_cons_succ]
    refine H_take (i := 8) (v := .pointer (some ⟨db, 0, none⟩)) (some 20) rfl rfl (by kernel_rfl) (by kernel_rfl) (by kernel_rfl) (fun _ _ _ h => h) rfl (fun X hX => ?_) sq ?_
    · simp [go_sem]
    simp only [Act.put, List.setIfInBounds_toArray, List.set_cons_zero, List.set_cons_succ]
    refine H_take (i := 9) (v := .slice (some ⟨gk, off, none⟩) L.length cl) (some 21) rfl rfl (by kernel_rfl) (by kernel_rfl) (by kernel_rfl) (fun _ _ _ h => h) rfl (fun X hX => ?_) sq ?_
    · exact run_load1 rfl rfl Try.isAgg25 (by simp only [World.cell?, hX.1]; simp)
    simp only [Act.put, List.setIfInBounds_toArray, List.set_cons_zero, List.set_cons_succ]
    refine H_take (i := 10) (v := .int .i64 (L.length : Int)) (some 22) rfl rfl (by kernel_rfl) (by kernel_rfl) (by kernel_rfl) (fun _ _ _ h => h) rfl (fun X hX => ?_) sq ?_
    · simp [go_sem]
    simp only [Act.put, List.setIfInBounds_toArray, List.set_cons_zero, List.set_cons_succ]
    refine wpAnyH_all (rs := [11, 14]) (by kernel_rfl) (by decide) (fun j hj => ?_)
    have hj2 : j = 11 ∨ j = 14 := by simpa using hj
    rcases hj2 with rfl | rfl
    · refine D_call (f := 16) (args := #[.int .i64 on, .int .i64 (L.length : Int)]) (some 23) rfl rfl rfl (by simp [go_sem]) ((pick_any W1.drew on L.length HB.out.1 hL0 (by omega)).mono ?_)
      rintro e W' ⟨⟨r, hr, rfl⟩, rfl⟩
      refine ⟨_, rfl, sq, ?_⟩
      simp only [Act.put, List.setIfInBounds_toArray, List.set_cons_zero, List.set_cons_succ]
      obtain ⟨y, hy⟩ : ∃ y, L[r]? = some y := ⟨_, List.getElem?_eq_getElem hr⟩
      obtain ⟨gk', off', eg, _, _, _, hall⟩ := HD.out.rl.range (j := r) (x := lval y) (by simp [hy])
      simp only [Option.some.injEq, Addr.mk.injEq, and_true] at eg
      obtain ⟨rfl, rfl⟩ := eg
      have ri : (r : Int) < (L.length : Int) := by omega
      refine H_take (i := 12) (v := .pointer (some ⟨gk, off + 2 * r, none⟩)) (some 24) rfl rfl (by kernel_rfl) (by kernel_rfl) (by kernel_rfl) (fun _ _ _ h => h) rfl (fun X hX => ?_) sq ?_
      · simp [go_sem, ri]
      simp only [Act.put, List.setIfInBounds_toArray, List.set_cons_zero, List.set_cons_succ]
      refine H_take (i := 13) (v := .agg #[.pointer (some ⟨y.1, 0, none⟩), .pointer (some ⟨y.2.1, 0, none⟩)]) (some 25) rfl rfl (by kernel_rfl) (by kernel_rfl) (by kernel_rfl) (fun _ _ _ h => h) rfl (fun X hX => ?_) sq ?_
      · exact run_loadMid rfl rfl (hall X hX.2.2).1 Try.underlying36 rfl rfl
      simp only [Act.put, List.setIfInBounds_toArray, List.set_cons_zero, List.set_cons_succ]
      have bA : Below W1.drew.heap.size W1.drew (W1.drew.alloc (.cells #[.pointer none, .pointer none] 36)) := (Below.refl _ W1.drew).alloc (Nat.le_refl _) _
      have sqA : (fun X : World => X.heap[db]? = some (.cells #[.slice (some ⟨gk, off, none⟩) L.length cl, vk] 28 (0, 0)) ∧ X.heap[bo]? = some (.cells #[.int .i64 4, .int .i64 on, .int .i64 n, .int .i64 x] 39 (0, 0)) ∧ X.heap[gk]? = W1.drew.heap[gk]?) (W1.drew.alloc (.cells #[.pointer none, .pointer none] 36)) := ⟨(bA.block _ (Array.getElem?_eq_some_iff.1 sq.1).1).trans sq.1, (bA.block _ (Array.getElem?_eq_some_iff.1 sq.2.1).1).trans sq.2.1, bA.block gk HG.out⟩
      clear bA
      refine H_value (i := 14) (v := .pointer (some ⟨W1.heap.size, 0, none⟩)) (w' := (W1.drew.alloc (.cells #[.pointer none, .pointer none] 36))) (some 5) rfl rfl (by kernel_rfl) rfl (run_allocP rfl) sqA ?_
      simp only [Act.put, List.setIfInBounds_toArray, List.set_cons_zero, List.set_cons_succ]
      obtain ⟨bN, xN⟩ := setRow_newQ W1.drew #[.pointer none, .pointer none] #[.pointer (some ⟨y.1, 0, none⟩), .pointer (some ⟨y.2.1, 0, none⟩)] 36
      have sqN : (fun X : World => X.heap[db]? = some (.cells #[.slice (some ⟨gk, off, none⟩) L.length cl, vk] 28 (0, 0)) ∧ X.heap[bo]? = some (.cells #[.int .i64 4, .int .i64 on, .int .i64 n, .int .i64 x] 39 (0, 0)) ∧ X.heap[gk]? = W1.drew.heap[gk]?) ((W1.drew.alloc (.cells #[.pointer none, .pointer none] 36)).setRow W1.heap.size #[.pointer (some ⟨y.1, 0, none⟩), .pointer (some ⟨y.2.1, 0, none⟩)]) := ⟨(bN.block _ (Array.getElem?_eq_some_iff.1 sq.1).1).trans sq.1, (bN.block _ (Array.getElem?_eq_some_iff.1 sq.2.1).1).trans sq.2.1, bN.block gk HG.out⟩
      refine H_skip (i := 15) (w' := (W1.drew.alloc (.cells #[.pointer none, .pointer none] 36)).setRow W1.heap.size #[.pointer (some ⟨y.1, 0, none⟩), .pointer (some ⟨y.2.1, 0, none⟩)]) rfl rfl (by kernel_rfl) rfl (run_storeRow rfl W1.heap.size #[.pointer (some ⟨y.1, 0, none⟩), .pointer (some ⟨y.2.1, 0, none⟩)] rfl rfl 36 #[.pointer none, .pointer none] (heap_alloc_new W1.drew _) rfl rfl (by simp [Value.oneCell'])) sqN ?_
      refine wpAnyH_done (by kernel_rfl) ?_ _
      have hpk : Picked W1 P W1.heap.size ((W1.drew.alloc (.cells #[.pointer none, .pointer none] 36)).setRow W1.heap.size #[.pointer (some ⟨y.1, 0, none⟩), .pointer (some ⟨y.2.1, 0, none⟩)]) := Picked.mk' ⟨bN.1, bN.2, bN.3, bN.4, bN.5⟩ (H1.out.il y (List.mem_of_getElem? hy)) xN
      clear sqN xN bN hall ri hy hr sq
      go_wp2_with fail
      go_meet
      exact ⟨rfl, hpk⟩
    · have bA : Below W1.drew.heap.size W1.drew (W1.drew.alloc (.cells #[.pointer none, .pointer none] 36)) := (Below.refl _ W1.drew).alloc (Nat.le_refl _) _
      have sqA : (fun X : World => X.heap[db]? = some (.cells #[.slice (some ⟨gk, off, none⟩) L.length cl, vk] 28 (0, 0)) ∧ X.heap[bo]? = some (.cells #[.int .i64 4, .int .i64 on, .int .i64 n, .int .i64 x] 39 (0, 0)) ∧ X.heap[gk]? = W1.drew.heap[gk]?) (W1.drew.alloc (.cells #[.pointer none, .pointer none] 36)) := ⟨(bA.block _ (Array.getElem?_eq_some_iff.1 sq.1).1).trans sq.1, (bA.block _ (Array.getElem?_eq_some_iff.1 sq.2.1).1).trans sq.2.1, bA.block gk HG.out⟩
      clear bA
      refine D_value (v := .pointer (some ⟨W1.heap.size, 0, none⟩)) (w' := (W1.drew.alloc (.cells #[.pointer none, .pointer none] 36))) (some 5) rfl rfl rfl (run_allocP rfl) ⟨sqA, ?_⟩
      simp only [Act.put, List.setIfInBounds_toArray, List.set_cons_zero, List.set_cons_succ]
      refine H_call (i := 11) (f := 16) (args := #[.int .i64 on, .int .i64 (L.length : Int)]) (some 23) rfl rfl (by kernel_rfl) rfl (by simp [go_sem]) ((pick_any (W1.drew.alloc (.cells #[.pointer none, .pointer none] 36)) on L.length HB.out.1 hL0 (by omega)).mono ?_)
      rintro e W' ⟨⟨r, hr, rfl⟩, hw'⟩
      subst hw'
      refine ⟨_, rfl, sqA, ?_⟩
      simp only [Act.put, List.setIfInBounds_toArray, List.set_cons_zero, List.set_cons_succ]
      obtain ⟨y, hy⟩ : ∃ y, L[r]? = some y := ⟨_, List.getElem?_eq_getElem hr⟩
      obtain ⟨gk', off', eg, _, _, _, hall⟩ := HD.out.rl.range (j := r) (x := lval y) (by simp [hy])
      simp only [Option.some.injEq, Addr.mk.injEq, and_true] at eg
      obtain ⟨rfl, rfl⟩ := eg
      have ri : (r : Int) < (L.length : Int) := by omega
      refine H_take (i := 12) (v := .pointer (some ⟨gk, off + 2 * r, none⟩)) (some 24) rfl rfl (by kernel_rfl) (by kernel_rfl) (by kernel_rfl) (fun _ _ _ h => h) rfl (fun X hX => ?_) sqA ?_
      · simp [go_sem, ri]
      simp only [Act.put, List.setIfInBounds_toArray, List.set_cons_zero, List.set_cons_succ]
      refine H_take (i := 13) (v := .agg #[.pointer (some ⟨y.1, 0, none⟩), .pointer (some ⟨y.2.1, 0, none⟩)]) (some 25) rfl rfl (by kernel_rfl) (by kernel_rfl) (by kernel_rfl) (fun _ _ _ h => h) rfl (fun X hX => ?_) sqA ?_
      · exact run_loadMid rfl rfl (hall X hX.2.2).1 Try.underlying36 rfl rfl
      simp only [Act.put, List.setIfInBounds_toArray, List.set_cons_zero, List.set_cons_succ]
      obtain ⟨bN, xN⟩ := setRow_newQ W1.drew #[.pointer none, .pointer none] #[.pointer (some ⟨y.1, 0, none⟩), .pointer (some ⟨y.2.1, 0, none⟩)] 36
      have sqN : (fun X : World => X.heap[db]? = some (.cells #[.slice (some ⟨gk, off, none⟩) L.length cl, vk] 28 (0, 0)) ∧ X.heap[bo]? = some (.cells #[.int .i64 4, .int .i64 on, .int .i64 n, .int .i64 x] 39 (0, 0)) ∧ X.heap[gk]? = W1.drew.heap[gk]?) ((W1.drew.alloc (.cells #[.pointer none, .pointer none] 36)).setRow W1.heap.size #[.pointer (some ⟨y.1, 0, none⟩), .pointer (some ⟨y.2.1, 0, none⟩)]) := ⟨(bN.block _ (Array.getElem?_eq_some_iff.1 sq.1).1).trans sq.1, (bN.block _ (Array.getElem?_eq_some_iff.1 sq.2.1).1).trans sq.2.1, bN.block gk HG.out⟩
      refine H_skip (i := 15) (w' := (W1.drew.alloc (.cells #[.pointer none, .pointer none] 36)).setRow W1.heap.size #[.pointer (some ⟨y.1, 0, none⟩), .pointer (some ⟨y.2.1, 0, none⟩)]) rfl rfl (by kernel_rfl) rfl (run_storeRow rfl W1.heap.size #[.pointer (some ⟨y.1, 0, none⟩), .pointer (some ⟨y.2.1, 0, none⟩)] rfl rfl 36 #[.pointer none, .pointer none] (heap_alloc_new W1.drew _) rfl rfl (by simp [Value.oneCell'])) sqN ?_
      refine wpAnyH_done (by kernel_rfl) ?_ _
      have hpk : Picked W1 P W1.heap.size ((W1.drew.alloc (.cells #[.pointer none, .pointer none] 36)).setRow W1.heap.size #[.pointer (some ⟨y.1, 0, none⟩), .pointer (some ⟨y.2.1, 0, none⟩)]) := Picked.mk' ⟨bN.1, bN.2, bN.3, bN.4, bN.5⟩ (H1.out.il y (List.mem_of_getElem? hy)) xN
      clear sqN xN bN hall ri hy hr sq
      go_wp2_with fail
      go_meet
      exact ⟨rfl, hpk⟩
  case rest =>
    obtain ⟨rfl, hpk⟩ := hcut
    obtain ⟨b2, i, p, hi, xp⟩ := hpk
    obtain ⟨bp, hbp⟩ : ∃ bp, bp = W1.heap.size := ⟨_, rfl⟩
    rw [← hbp] at xp ⊢
    clear hbp
    have xo := (b2.block _ (Array.getElem?_eq_some_iff.1 HXO.out).1).trans HXO.out
    have d2 := H1.out.later b2
    have e2 := d2.prs.each i p hi
    have few := d2.prs.few i p hi
    have o0 : wc.cell? ⟨bo, 0, none⟩ = some (.int .i64 4) := by simp only [World.cell?, xo]; simp
    have o2 : wc.cell? ⟨bo, 2, none⟩ = some (.int .i64 n) := by simp only [World.cell?, xo]; simp
    have o3 : wc.cell? ⟨bo, 3, none⟩ = some (.int .i64 x) := by simp only [World.cell?, xo]; simp
    have p0 : wc.cell? ⟨bp, 0, none⟩ = some (.pointer (some ⟨p.qb, 0, none⟩)) := by simp only [World.cell?, xp]; simp
    have p1 : wc.cell? ⟨bp, 1, none⟩ = some (.pointer (some ⟨p.rb, 0, none⟩)) := by simp only [World.cell?, xp]; simp
    have D2 := hideR d2
    have E2 := hideR e2
    have HI := hideR hi
    have HF := hideR few
    have HXP := hideR (And.intro xp xo)
    clear d2 e2 hi few xp xo b2
    have hwn : (Lit.int .i64 n).wf = true := WalkArith.wf_i64 HB.out.2.1
    have few := HF.out
    have LA := hideR (leave_any w0.heap.size wc p.qb p.mb p.rb p.g p.g n p.R p.vt p.vh p.T p.H E2.out.q E2.out.r E2.out.al (by omega) D2.out.bel.size hwn)
    clear few hwn
    go_wp2_with fail
    refine LA.out.mono ?_
    rintro e W5 ⟨rfl, q5, vt5, vh5, r5, a5, k5, _, f5, _⟩
    have HT := hideR (Turned.mk (p := p) (p' := ⟨p.qb, p.mb, p.rb, p.g, _, vt5, vh5, _, _⟩) ⟨q5, r5, a5⟩ rfl rfl (k5.mono fun k _ e => e.imp mine_filter fun h => h) (fun k e => by
      rcases e with e | e
      · exact .inl (.inl (mine_filter e))
      · exact (f5 k e).imp .inr fun h => h) ⟨Nat.le_succ_of_le (List.length_filter_le _ _), by show p.g ≤ p.g + 1; omega⟩)
    clear q5 r5 a5 k5 f5
    go_wp2_with fail
    go_ret
    exact ⟨rfl, DkN.mk' (D2.out.turn HI.out HT.out) HKL.out.1 HKL.out.2⟩
end Go.Proofs.Ytccpaapbgdpghaa

namespace Go.Proofs.Ytccpaapbgdpghaa
open Go.RowKit

set_option maxHeartbeats 8000000 in
set_option maxRecDepth 1000000 in
theorem step5 (w0 w : World) (db N : Nat) (on n x : Int) (h0 : DkN w0 db N w) (_ : N ≤ 1048576) (hon : -9223372036854775808 ≤ on ∧ on ≤ 9223372036854775807) (hn : -9223372036854775808 ≤ n ∧ n ≤ 9223372036854775807) (hx : -9223372036854775808 ≤ x ∧ x ≤ 9223372036854775807) :
    Calls Try.prog 6 #[.pointer (some ⟨db, 0, none⟩), .agg #[.int .i64 5, .int .i64 on, .int .i64 n, .int .i64 x]] w fun e w' => e = .returned (.bool true) ∧ DkN w0 db (N + 1) w' := by
  obtain ⟨P, L, vl, K, vk, h, hL, hK⟩ := h0
  have hL0 : 0 < L.length := by cases L with | nil => exact absurd rfl hL | cons y L => simp
  obtain ⟨W1, hW1⟩ : ∃ W1, W1 = w.alloc (.cells #[.int .i64 5, .int .i64 on, .int .i64 n, .int .i64 x] 39) := ⟨_, rfl⟩
  have b1 : Below w.heap.size w W1 := by rw [hW1]; exact (Below.refl _ w).alloc (Nat.le_refl _) _
  obtain ⟨bo, hbo⟩ : ∃ bo, bo = w.heap.size := ⟨_, rfl⟩
  have xo1 : W1.heap[bo]? = some (.cells #[.int .i64 5, .int .i64 on, .int .i64 n, .int .i64 x] 39 (0, 0)) := by rw [hW1, hbo]; exact heap_alloc_new w _
  have h1 := h.later b1
  obtain ⟨al, cl, hvl⟩ := h1.rl.form
  rw [List.length_map] at hvl
  subst hvl
  obtain ⟨gk, off, rfl, hgk, _⟩ := h1.rl.range (j := 0) (x := lval (L[0]'hL0)) (by rw [List.getElem?_map, List.getElem?_eq_getElem hL0]; rfl)
  have H1 := hideR h1
  have HBO := hideR (And.intro hW1 hbo)
  have HG := hideR hgk
  have HXO := hideR xo1
  have HKL := hideR (And.intro hL hK)
  have HB := hideR (And.intro hon (And.intro hn hx))
  have hL4 := h1.cl
  clear h h1 hW1 hbo hgk xo1 b1 hL hK hon hn hx
  go_enter Try.func6, Try.ntmps6
  go_upto_region 1 with fail
  rw [← HBO.out.1, ← HBO.out.2]
  go_cut [5] from 12 to 25 (fun s5 wx => s5 = .pointer (some ⟨W1.heap.size, 0, none⟩) ∧ Picked W1 P W1.heap.size wx)
  case first =>
    have hd : DkAt w0 W1.drew db P L (.slice (some ⟨gk, off, none⟩) L.length cl) K vk N := H1.out.later ⟨rfl, rfl, rfl, Nat.le_refl _, fun _ _ => rfl⟩
    have sq : (fun X : World => X.heap[db]? = some (.cells #[.slice (some ⟨gk, off, none⟩) L.length cl, vk] 28 (0, 0)) ∧ X.heap[bo]? = some (.cells #[.int .i64 5, .int .i64 on, .int .i64 n, .int .i64 x] 39 (0, 0)) ∧ X.heap[gk]? = W1.drew.heap[gk]?) W1.drew := ⟨hd.box, HXO.out, rfl⟩
    have HD := hideR hd
    clear hd
    refine wp_region_held_drew (S := (fun X : World => X.heap[db]? = some (.cells #[.slice (some ⟨gk, off, none⟩) L.length cl, vk] 28 (0, 0)) ∧ X.heap[bo]? = some (.cells #[.int .i64 5, .int .i64 on, .int .i64 n, .int .i64 x] 39 (0, 0)) ∧ X.heap[gk]? = W1.drew.heap[gk]?)) mixed sq (fun _ => ?_)
    refine H_take (i := 0) (v := .pointer (some ⟨db, 0, none⟩)) (some 12) rfl rfl (by kernel_rfl) (by kernel_rfl) (by kernel_rfl) (fun _ _ _ h => h) rfl (fun X hX => ?_) sq ?_
    · simp [go_sem]
    simp only [Act.put, List.setIfInBounds_toArray, List.set_cons_zero, List.set_cons_succ]
    refine H_take (i := 1) (v := .pointer (some ⟨db, 0, none⟩)) (some 13) rfl rfl (by kernel_rfl) (by kernel_rfl) (by kernel_rfl) (fun _ _ _ h => h) rfl (fun X hX => ?_) sq ?_
    · simp [go_sem]
    simp only [Act.put, List.setIfInBounds_toArray, List.set_cons_zero, List.set_cons_succ]
    refine H_take (i := 2) (v := .pointer (some ⟨db, 0, none⟩)) (some 14) rfl rfl (by kernel_rfl) (by kernel_rfl) (by kernel_rfl) (fun _ _ _ h => h) rfl (fun X hX => ?_) sq ?_
    · simp [go_sem]
    simp only [Act.put, List.setIfInBounds_toArray, List.set_cons_zero, List.set_cons_succ]
    refine H_take (i := 3) (v := .slice (some ⟨gk, off, none⟩) L.length cl) (some 15) rfl rfl (by kernel_rfl) (by kernel_rfl) (by kernel_rfl) (fun _ _ _ h => h) rfl (fun X hX => ?_) sq ?_
    · exact run_load1 rfl rfl Try.isAgg25 (by simp only [World.cell?, hX.1]; simp)
    simp only [Act.put, List.setIfInBounds_toArray, List.set_cons_zero, List.set_cons_succ]
    refine H_take (i := 4) (v := .pointer (some ⟨bo, 1, none⟩)) (some 16) rfl rfl (by kernel_rfl) (by kernel_rfl) (by kernel_rfl) (fun _ _ _ h => h) rfl (fun X hX => ?_) sq ?_
    · simp [go_sem]
    simp only [Act.put, List.setIfInBounds_toArray, List.set_cons_zero, List.set_cons_succ]
    refine H_take (i := 5) (v := .int .i64 on) (some 17) rfl rfl (by kernel_rfl) (by kernel_rfl) (by kernel_rfl) (fun _ _ _ h => h) rfl (fun X hX => ?_) sq ?_
    · simp [go_sem, World.cell?, hX.2.1]
    simp only [Act.put, List.setIfInBounds_toArray, List.set_cons_zero, List.set_cons_succ]
    refine H_take (i := 6) (v := .pointer (some ⟨db, 0, none⟩)) (some 18) rfl rfl (by kernel_rfl) (by kernel_rfl) (by kernel_rfl) (fun _ _ _ h => h) rfl (fun X hX => ?_) sq ?_
    · simp [go_sem]
    simp only [Act.put, List.setIfInBounds_toArray, List.set_cons_zero, List.set_cons_succ]
    refine H_take (i := 7) (v := .pointer (some ⟨db, 0, none⟩)) (some 19) rfl rfl (by kernel_rfl) (by kernel_rfl) (by kernel_rfl) (fun _ _ _ h => h) rfl (fun X hX => ?_) sq ?_
    · simp [go_sem]
    simp only [Act.put, List.setIfInBounds_toArray, List.set_cons_zero, List.set_cons_succ]
    refine H_take (i := 8) (v := .pointer (some ⟨db, 0, none⟩)) (some 20) rfl rfl (by kernel_rfl) (by kernel_rfl) (by kernel_rfl) (fun _ _ _ h => h) rfl (fun X hX => ?_) sq ?_
    · simp [go_sem]
    simp only [Act.put, List.setIfInBounds_toArray, List.set_cons_zero, List.set_cons_succ]
    refine H_take (i := 9) (v := .slice (some ⟨gk, off, none⟩) L.length cl) (some 21) rfl rfl (by kernel_rfl) (by kernel_rfl) (by kernel_rfl) (fun _ _ _ h => h) rfl (fun X hX => ?_) sq ?_
    · exact run_load1 rfl rfl Try.isAgg25 (by simp only [World.cell?, hX.1]; simp)
    simp only [Act.put, List.setIfInBounds_toArray, List.set_cons_zero, List.set_cons_succ]
    refine H_take (i := 10) (v := .int .i64 (L.length : Int)) (some 22) rfl rfl (by kernel_rfl) (by kernel_rfl) (by kernel_rfl) (fun _ _ _ h => h) rfl (fun X hX => ?_) sq ?_
    · simp [go_sem]
    simp only [Act.put, List.setIfInBounds_toArray, List.set_cons_zero, List.set_cons_succ]
    refine wpAnyH_all (rs := [11, 14]) (by kernel_rfl) (by decide) (fun j hj => ?_)
    have hj2 : j = 11 ∨ j = 14 := by simpa using hj
    rcases hj2 with rfl | rfl
    · refine D_call (f := 16) (args := #[.int .i64 on, .int .i64 (L.length : Int)]) (some 23) rfl rfl rfl (by simp [go_sem]) ((pick_any W1.drew on L.length HB.out.1 hL0 (by omega)).mono ?_)
      rintro e W' ⟨⟨r, hr, rfl⟩, rfl⟩
      refine ⟨_, rfl, sq, ?_⟩
      simp only [Act.put, List.setIfInBounds_toArray, List.set_cons_zero, List.set_cons_succ]
      obtain ⟨y, hy⟩ : ∃ y, L[r]? = some y := ⟨_, List.getElem?_eq_getElem hr⟩
      obtain ⟨gk', off', eg, _, _, _, hall⟩ := HD.out.rl.range (j := r) (x := lval y) (by simp [hy])
      simp only [Option.some.injEq, Addr.mk.injEq, and_true] at eg
      obtain ⟨rfl, rfl⟩ := eg
      have ri : (r : Int) < (L.length : Int) := by omega
      refine H_take (i := 12) (v := .pointer (some ⟨gk, off + 2 * r, none⟩)) (some 24) rfl rfl (by kernel_rfl) (by kernel_rfl) (by kernel_rfl) (fun _ _ _ h => h) rfl (fun X hX => ?_) sq ?_
      · simp [go_sem, ri]
      simp only [Act.put, List.setIfInBounds_toArray, List.set_cons_zero, List.set_cons_succ]
      refine H_take (i := 13) (v := .agg #[.pointer (some ⟨y.1, 0, none⟩), .pointer (some ⟨y.2.1, 0, none⟩)]) (some 25) rfl rfl (by kernel_rfl) (by kernel_rfl) (by kernel_rfl) (fun _ _ _ h => h) rfl (fun X hX => ?_) sq ?_
      · exact run_loadMid rfl rfl (hall X hX.2.2).1 Try.underlying36 rfl rfl
      simp only [Act.put, List.setIfInBounds_toArray, List.set_cons_zero, List.set_cons_succ]
      have bA : Below W1.drew.heap.size W1.drew (W1.drew.alloc (.cells #[.pointer none, .pointer none] 36)) := (Below.refl _ W1.drew).alloc (Nat.le_refl _) _
      have sqA : (fun X : World => X.heap[db]? = some (.cells #[.slice (some ⟨gk, off, none⟩) L.length cl, vk] 28 (0, 0)) ∧ X.heap[bo]? = some (.cells #[.int .i64 5, .int .i64 on, .int .i64 n, .int .i64 x] 39 (0, 0)) ∧ X.heap[gk]? = W1.drew.heap[gk]?) (W1.drew.alloc (.cells #[.pointer none, .pointer none] 36)) := ⟨(bA.block _ (Array.getElem?_eq_some_iff.1 sq.1).1).trans sq.1, (bA.block _ (Array.getElem?_eq_some_iff.1 sq.2.1).1).trans sq.2.1, bA.block gk HG.out⟩
      clear bA
      refine H_value (i := 14) (v := .pointer (some ⟨W1.heap.size, 0, none⟩)) (w' := (W1.drew.alloc (.cells #[.pointer none, .pointer none] 36))) (some 5) rfl rfl (by kernel_rfl) rfl (run_allocP rfl) sqA ?_
      simp only [Act.put, List.setIfInBounds_toArray, List.set_cons_zero, List.set_cons_succ]
      obtain ⟨bN, xN⟩ := setRow_newQ W1.drew #[.pointer none, .pointer none] #[.pointer (some ⟨y.1, 0, none⟩), .pointer (some ⟨y.2.1, 0, none⟩)] 36
      have sqN : (fun X : World => X.heap[db]? = some (.cells #[.slice (some ⟨gk, off, none⟩) L.length cl, vk] 28 (0, 0)) ∧ X.heap[bo]? = some (.cells #[.int .i64 5, .int .i64 on, .int .i64 n, .int .i64 x] 39 (0, 0)) ∧ X.heap[gk]? = W1.drew.heap[gk]?) ((W1.drew.alloc (.cells #[.pointer none, .pointer none] 36)).setRow W1.heap.size #[.pointer (some ⟨y.1, 0, none⟩), .pointer (some ⟨y.2.1, 0, none⟩)]) := ⟨(bN.block _ (Array.getElem?_eq_some_iff.1 sq.1).1).trans sq.1, (bN.block _ (Array.getElem?_eq_some_iff.1 sq.2.1).1).trans sq.2.1, bN.block gk HG.out⟩
      refine H_skip (i := 15) (w' := (W1.drew.alloc (.cells #[.pointer none, .pointer none] 36)).setRow W1.heap.size #[.pointer (some ⟨y.1, 0, none⟩), .pointer (some ⟨y.2.1, 0, none⟩)]) rfl rfl (by kernel_rfl) rfl (run_storeRow rfl W1.heap.size #[.pointer (some ⟨y.1, 0, none⟩), .pointer (some ⟨y.2.1, 0, none⟩)] rfl rfl 36 #[.pointer none, .pointer none] (heap_alloc_new W1.drew _) rfl rfl (by simp [Value.oneCell'])) sqN ?_
      refine wpAnyH_done (by kernel_rfl) ?_ _
      have hpk : Picked W1 P W1.heap.size ((W1.drew.alloc (.cells #[.pointer none, .pointer none] 36)).setRow W1.heap.size #[.pointer (some ⟨y.1, 0, none⟩), .pointer (some ⟨y.2.1, 0, none⟩)]) := Picked.mk' ⟨bN.1, bN.2, bN.3, bN.4, bN.5⟩ (H1.out.il y (List.mem_of_getElem? hy)) xN
      clear sqN xN bN hall ri hy hr sq
      go_wp2_with fail
      go_meet
      exact ⟨rfl, hpk⟩
    · have bA : Below W1.drew.heap.size W1.drew (W1.drew.alloc (.cells #[.pointer none, .pointer none] 36)) := (Below.refl _ W1.drew).alloc (Nat.le_refl _) _
      have sqA : (fun X : World => X.heap[db]? = some (.cells #[.slice (some ⟨gk, off, none⟩) L.length cl, vk] 28 (0, 0)) ∧ X.heap[bo]? = some (.cells #[.int .i64 5, .int .i64 on, .int .i64 n, .int .i64 x] 39 (0, 0)) ∧ X.heap[gk]? = W1.drew.heap[gk]?) (W1.drew.alloc (.cells #[.pointer none, .pointer none] 36)) := ⟨(bA.block _ (Array.getElem?_eq_some_iff.1 sq.1).1).trans sq.1, (bA.block _ (Array.getElem?_eq_some_iff.1 sq.2.1).1).trans sq.2.1, bA.block gk HG.out⟩
      clear bA
      refine D_value (v := .pointer (some ⟨W1.heap.size, 0, none⟩)) (w' := (W1.drew.alloc (.cells #[.pointer none, .pointer none] 36))) (some 5) rfl rfl rfl (run_allocP rfl) ⟨sqA, ?_⟩
      simp only [Act.put, List.setIfInBounds_toArray, List.set_cons_zero, List.set_cons_succ]
      refine H_call (i := 11) (f := 16) (args := #[.int .i64 on, .int .i64 (L.length : Int)]) (some 23) rfl rfl (by kernel_rfl) rfl (by simp [go_sem]) ((pick_any (W1.drew.alloc (.cells #[.pointer none, .pointer none] 36)) on L.length HB.out.1 hL0 (by omega)).mono ?_)
      rintro e W' ⟨⟨r, hr, rfl⟩, hw'⟩
      subst hw'
      refine ⟨_, rfl, sqA, ?_⟩
      simp only [Act.put, List.setIfInBounds_toArray, List.set_cons_zero, List.set_cons_succ]
      obtain ⟨y, hy⟩ : ∃ y, L[r]? = some y := ⟨_, List.getElem?_eq_getElem hr⟩
      obtain ⟨gk', off', eg, _, _, _, hall⟩ := HD.out.rl.range (j := r) (x := lval y) (by simp [hy])
      simp only [Option.some.injEq, Addr.mk.injEq, and_true] at eg
      obtain ⟨rfl, rfl⟩ := eg
      have ri : (r : Int) < (L.length : Int) := by omega
      refine H_take (i := 12) (v := .pointer (some ⟨gk, off + 2 * r, none⟩)) (some 24) rfl rfl (by kernel_rfl) (by kernel_rfl) (by kernel_rfl) (fun _ _ _ h => h) rfl (fun X hX => ?_) sqA ?_
      · simp [go_sem, ri]
      simp only [Act.put, List.setIfInBounds_toArray, List.set_cons_zero, List.set_cons_succ]
      refine H_take (i := 13) (v := .agg #[.pointer (some ⟨y.1, 0, none⟩), .pointer (some ⟨y.2.1, 0, none⟩)]) (some 25) rfl rfl (by kernel_rfl) (by kernel_rfl) (by kernel_rfl) (fun _ _ _ h => h) rfl (fun X hX => ?_) sqA ?_
      · exact run_loadMid rfl rfl (hall X hX.2.2).1 Try.underlying36 rfl rfl
      simp only [Act.put, List.setIfInBounds_toArray, List.set_cons_zero, List.set_cons_succ]
      obtain ⟨bN, xN⟩ := setRow_newQ W1.drew #[.pointer none, .pointer none] #[.pointer (some ⟨y.1, 0, none⟩), .pointer (some ⟨y.2.1, 0, none⟩)] 36
      have sqN : (fun X : World => X.heap[db]? = some (.cells #[.slice (some ⟨gk, off, none⟩) L.length cl, vk] 28 (0, 0)) ∧ X.heap[bo]? = some (.cells #[.int .i64 5, .int .i64 on, .int .i64 n, .int .i64 x] 39 (0, 0)) ∧ X.heap[gk]? = W1.drew.heap[gk]?) ((W1.drew.alloc (.cells #[.pointer none, .pointer none] 36)).setRow W1.heap.size #[.pointer (some ⟨y.1, 0, none⟩), .pointer (some ⟨y.2.1, 0, none⟩)]) := ⟨(bN.block _ (Array.getElem?_eq_some_iff.1 sq.1).1).trans sq.1, (bN.block _ (Array.getElem?_eq_some_iff.1 sq.2.1).1).trans sq.2.1, bN.block gk HG.out⟩
      refine H_skip (i := 15) (w' := (W1.drew.alloc (.cells #[.pointer none, .pointer none] 36)).setRow W1.heap.size #[.pointer (some ⟨y.1, 0, none⟩), .pointer (some ⟨y.2.1, 0, none⟩)]) rfl rfl (by kernel_rfl) rfl (run_storeRow rfl W1.heap.size #[.pointer (some ⟨y.1, 0, none⟩), .pointer (some ⟨y.2.1, 0, none⟩)] rfl rfl 36 #[.pointer none, .pointer none] (heap_alloc_new W1.drew _) rfl rfl (by simp [Value.oneCell'])) sqN ?_
      refine wpAnyH_done (by kernel_rfl) ?_ _
      have hpk : Picked W1 P W1.heap.size ((W1.drew.alloc (.cells #[.pointer none, .pointer none] 36)).setRow W1.heap.size #[.pointer (some ⟨y.1, 0, none⟩), .pointer (some ⟨y.2.1, 0, none⟩)]) := Picked.mk' ⟨bN.1, bN.2, bN.3, bN.4, bN.5⟩ (H1.out.il y (List.mem_of_getElem? hy)) xN
      clear sqN xN bN hall ri hy hr sq
      go_wp2_with fail
      go_meet
      exact ⟨rfl, hpk⟩
  case rest =>
    obtain ⟨rfl, hpk⟩ := hcut
    obtain ⟨b2, i, p, hi, xp⟩ := hpk
    obtain ⟨bp, hbp⟩ : ∃ bp, bp = W1.heap.size := ⟨_, rfl⟩
    rw [← hbp] at xp ⊢
    clear hbp
    have xo := (b2.block _ (Array.getElem?_eq_some_iff.1 HXO.out).1).trans HXO.out
    have d2 := H1.out.later b2
    have e2 := d2.prs.each i p hi
    have few := d2.prs.few i p hi
    have o0 : wc.cell? ⟨bo, 0, none⟩ = some (.int .i64 5) := by simp only [World.cell?, xo]; simp
    have o2 : wc.cell? ⟨bo, 2, none⟩ = some (.int .i64 n) := by simp only [World.cell?, xo]; simp
    have o3 : wc.cell? ⟨bo, 3, none⟩ = some (.int .i64 x) := by simp only [World.cell?, xo]; simp
    have p0 : wc.cell? ⟨bp, 0, none⟩ = some (.pointer (some ⟨p.qb, 0, none⟩)) := by simp only [World.cell?, xp]; simp
    have p1 : wc.cell? ⟨bp, 1, none⟩ = some (.pointer (some ⟨p.rb, 0, none⟩)) := by simp only [World.cell?, xp]; simp
    have D2 := hideR d2
    have E2 := hideR e2
    have HI := hideR hi
    have HF := hideR few
    have HXP := hideR (And.intro xp xo)
    clear d2 e2 hi few xp xo b2
    have sq : (fun X : World => X.heap[bp]? = some (.cells #[.pointer (some ⟨p.qb, 0, none⟩), .pointer (some ⟨p.rb, 0, none⟩)] 36 (0, 0)) ∧ X.heap[bo]? = some (.cells #[.int .i64 5, .int .i64 on, .int .i64 n, .int .i64 x] 39 (0, 0)) ∧ X.heap[p.rb]? = some (.cells #[p.vt, p.vh, .int .i64 p.g] 34 (0, 0))) wc.drew := ⟨HXP.out.1, HXP.out.2, E2.out.r.box⟩
    obtain ⟨at2, ct2, evt⟩ := E2.out.r.rt.form
    rw [E2.out.al.lenT] at evt
    have LQ := hideR (lenI wc.drew p.qb p.mb p.g p.R (E2.out.below (W' := wc.drew) ⟨rfl, rfl, rfl, Nat.le_refl _, fun _ _ => rfl⟩).q)
    go_upto_region 19 with fail
    clear o0 o2 o3 p0 p1
    refine wp_region_held_drew (S := (fun X : World => X.heap[bp]? = some (.cells #[.pointer (some ⟨p.qb, 0, none⟩), .pointer (some ⟨p.rb, 0, none⟩)] 36 (0, 0)) ∧ X.heap[bo]? = some (.cells #[.int .i64 5, .int .i64 on, .int .i64 n, .int .i64 x] 39 (0, 0)) ∧ X.heap[p.rb]? = some (.cells #[p.vt, p.vh, .int .i64 p.g] 34 (0, 0)))) mixed sq (fun _ => ?_)
    refine H_take (i := 0) (v := .pointer (some ⟨bp, 0, none⟩)) (some 134) rfl rfl (by kernel_rfl) (by kernel_rfl) (by kernel_rfl) (fun _ _ _ h => h) rfl (fun X hX => ?_) sq ?_
    · simp [go_sem]
    simp only [Act.put, List.setIfInBounds_toArray, List.set_cons_zero, List.set_cons_succ]
    refine H_take (i := 1) (v := .pointer (some ⟨p.qb, 0, none⟩)) (some 135) rfl rfl (by kernel_rfl) (by kernel_rfl) (by kernel_rfl) (fun _ _ _ h => h) rfl (fun X hX => ?_) sq ?_
    · simp [go_sem, World.cell?, hX.1]
    simp only [Act.put, List.setIfInBounds_toArray, List.set_cons_zero, List.set_cons_succ]
    refine H_take (i := 3) (v := .pointer (some ⟨bp, 1, none⟩)) (some 137) rfl rfl (by kernel_rfl) (by kernel_rfl) (by kernel_rfl) (fun _ _ _ h => h) rfl (fun X hX => ?_) sq ?_
    · simp [go_sem]
    simp only [Act.put, List.setIfInBounds_toArray, List.set_cons_zero, List.set_cons_succ]
    refine H_take (i := 4) (v := .pointer (some ⟨p.rb, 0, none⟩)) (some 138) rfl rfl (by kernel_rfl) (by kernel_rfl) (by kernel_rfl) (fun _ _ _ h => h) rfl (fun X hX => ?_) sq ?_
    · simp [go_sem, World.cell?, hX.1]
    simp only [Act.put, List.setIfInBounds_toArray, List.set_cons_zero, List.set_cons_succ]
    refine H_take (i := 5) (v := .pointer (some ⟨p.rb, 0, none⟩)) (some 139) rfl rfl (by kernel_rfl) (by kernel_rfl) (by kernel_rfl) (fun _ _ _ h => h) rfl (fun X hX => ?_) sq ?_
    · simp [go_sem]
    simp only [Act.put, List.setIfInBounds_toArray, List.set_cons_zero, List.set_cons_succ]
    refine H_take (i := 6) (v := .pointer (some ⟨p.rb, 0, none⟩)) (some 140) rfl rfl (by kernel_rfl) (by kernel_rfl) (by kernel_rfl) (fun _ _ _ h => h) rfl (fun X hX => ?_) sq ?_
    · simp [go_sem]
    simp only [Act.put, List.setIfInBounds_toArray, List.set_cons_zero, List.set_cons_succ]
    refine H_take (i := 7) (v := .slice at2 p.R.length ct2) (some 141) rfl rfl (by kernel_rfl) (by kernel_rfl) (by kernel_rfl) (fun _ _ _ h => h) rfl (fun X hX => ?_) sq ?_
    · rw [← evt]; exact run_load1 rfl rfl Try.isAgg32 (by simp only [World.cell?, hX.2.2]; simp)
    simp only [Act.put, List.setIfInBounds_toArray, List.set_cons_zero, List.set_cons_succ]
    refine H_take (i := 8) (v := .int .i64 (p.R.length : Int)) (some 142) rfl rfl (by kernel_rfl) (by kernel_rfl) (by kernel_rfl) (fun _ _ _ h => h) rfl (fun X hX => ?_) sq ?_
    · simp [go_sem]
    simp only [Act.put, List.setIfInBounds_toArray, List.set_cons_zero, List.set_cons_succ]
    refine H_call (i := 2) (f := 9) (args := #[.pointer (some ⟨p.qb, 0, none⟩)]) (some 136) rfl rfl (by kernel_rfl) rfl (by simp [go_sem]) (LQ.out.mono ?_)
    rintro e U4 ⟨rfl, hU⟩
    subst hU
    refine ⟨_, rfl, sq, ?_⟩
    simp only [Act.put, List.setIfInBounds_toArray, List.set_cons_zero, List.set_cons_succ]
    refine H_take (i := 9) (v := .bool true) (some 143) rfl rfl (by kernel_rfl) (by kernel_rfl) (by kernel_rfl) (fun _ _ _ h => h) rfl (fun X hX => ?_) sq ?_
    · simp [go_sem]
    simp only [Act.put, List.setIfInBounds_toArray, List.set_cons_zero, List.set_cons_succ]
    refine H_take (i := 10) (v := .bool true) (some 4) rfl rfl (by kernel_rfl) (by kernel_rfl) (by kernel_rfl) (fun _ _ _ h => h) rfl (fun X hX => ?_) sq ?_
    · simp [go_sem]
    simp only [Act.put, List.setIfInBounds_toArray, List.set_cons_zero, List.set_cons_succ]
    refine wpAnyH_done (by kernel_rfl) ?_ _
    go_wp2_with fail
    go_ret
    exact ⟨rfl, DkN.mk' ((D2.out.later (drawnQ wc)).mono (Nat.le_succ N)) HKL.out.1 HKL.out.2⟩
end Go.Proofs.Ytccpaapbgdpghaa

namespace Go.Proofs.Ytccpaapbgdpghaa
open Go.RowKit

set_option maxHeartbeats 8000000 in
set_option maxRecDepth 1000000 in
theorem step6 (w0 w : World) (db N : Nat) (on n x : Int) (h0 : DkN w0 db N w) (hN : N ≤ 1048576) (hon : -9223372036854775808 ≤ on ∧ on ≤ 9223372036854775807) (hn : -9223372036854775808 ≤ n ∧ n ≤ 9223372036854775807) (hx : -9223372036854775808 ≤ x ∧ x ≤ 9223372036854775807) :
    Calls Try.prog 6 #[.pointer (some ⟨db, 0, none⟩), .agg #[.int .i64 6, .int .i64 on, .int .i64 n, .int .i64 x]] w fun e w' => e = .returned (.bool true) ∧ DkN w0 db (N + 1) w' := by
  obtain ⟨P, L, vl, K, vk, h, hL, hK⟩ := h0
  have hL0 : 0 < L.length := by cases L with | nil => exact absurd rfl hL | cons y L => simp
  obtain ⟨W1, hW1⟩ : ∃ W1, W1 = w.alloc (.cells #[.int .i64 6, .int .i64 on, .int .i64 n, .int .i64 x] 39) := ⟨_, rfl⟩
  have b1 : Below w.heap.size w W1 := by rw [hW1]; exact (Below.refl _ w).alloc (Nat.le_refl _) _
  obtain ⟨bo, hbo⟩ : ∃ bo, bo = w.heap.size := ⟨_, rfl⟩
  have xo1 : W1.heap[bo]? = some (.cells #[.int .i64 6, .int .i64 on, .int .i64 n, .int .i64 x] 39 (0, 0)) := by rw [hW1, hbo]; exact heap_alloc_new w _
  have h1 := h.later b1
  obtain ⟨al, cl, hvl⟩ := h1.rl.form
  rw [List.length_map] at hvl
  subst hvl
  obtain ⟨gk, off, rfl, hgk, _⟩ := h1.rl.range (j := 0) (x := lval (L[0]'hL0)) (by rw [List.getElem?_map, List.getElem?_eq_getElem hL0]; rfl)
  have H1 := hideR h1
  have HBO := hideR (And.intro hW1 hbo)
  have HG := hideR hgk
  have HXO := hideR xo1
  have HKL := hideR (And.intro hL hK)
  have HB := hideR (And.intro hon (And.intro hn hx))
  have hL4 := h1.cl
  clear h h1 hW1 hbo hgk xo1 b1 hL hK hon hn hx
  go_enter Try.func6, Try.ntmps6
  go_upto_region 1 with fail
  rw [← HBO.out.1, ← HBO.out.2]
  go_cut [5] from 12 to 25 (fun s5 wx => s5 = .pointer (some ⟨W1.heap.size, 0, none⟩) ∧ Picked W1 P W1.heap.size wx)
  case first =>
    have hd : DkAt w0 W1.drew db P L (.slice (some ⟨gk, off, none⟩) L.length cl) K vk N := H1.out.later ⟨rfl, rfl, rfl, Nat.le_refl _, fun _ _ => rfl⟩
    have sq : (fun X : World => X.heap[db]? = some (.cells #[.slice (some ⟨gk, off, none⟩) L.length cl, vk] 28 (0, 0)) ∧ X.heap[bo]? = some (.cells #[.int .i64 6, .int .i64 on, .int .i64 n, .int .i64 x] 39 (0, 0)) ∧ X.heap[gk]? = W1.drew.heap[gk]?) W1.drew := ⟨hd.box, HXO.out, rfl⟩
    have HD := hideR hd
    clear hd
    refine wp_region_held_drew (S := (fun X : World => X.heap[db]? = some (.cells #[.slice (some ⟨gk, off, none⟩) L.length cl, vk] 28 (0, 0)) ∧ X.heap[bo]? = some (.cells #[.int .i64 6, .int .i64 on, .int .i64 n, .int .i64 x] 39 (0, 0)) ∧ X.heap[gk]? = W1.drew.heap[gk]?)) mixed sq (fun _ => ?_)
    refine H_take (i := 0) (v := .pointer (some ⟨db, 0, none⟩)) (some 12) rfl rfl (by kernel_rfl) (by kernel_rfl) (by kernel_rfl) (fun _ _ _ h => h) rfl (fun X hX => ?_) sq ?_
    · simp [go_sem]
    simp only [Act.put, List.setIfInBounds_toArray, List.set_cons_zero, List.set_cons_succ]
    refine H_take (i := 1) (v := .pointer (some ⟨db, 0, none⟩)) (some 13) rfl rfl (by kernel_rfl) (by kernel_rfl) (by kernel_rfl) (fun _ _ _ h => h) rfl (fun X hX => ?_) sq ?_
    · simp [go_sem]
    simp only [Act.put, List.setIfInBounds_toArray, List.set_cons_zero, List.set_cons_succ]
    refine H_take (i := 2) (v := .pointer (some ⟨db, 0, none⟩)) (some 14) rfl rfl (by kernel_rfl) (by kernel_rfl) (by kernel_rfl) (fun _ _ _ h => h) rfl (fun X hX => ?_) sq ?_
    · simp [go_sem]
    simp only [Act.put, List.setIfInBounds_toArray, List.set_cons_zero, List.set_cons_succ]
    refine H_take (i := 3) (v := .slice (some ⟨gk, off, none⟩) L.length cl) (some 15) rfl rfl (by kernel_rfl) (by kernel_rfl) (by kernel_rfl) (fun _ _ _ h => h) rfl (fun X hX => ?_) sq ?_
    · exact run_load1 rfl rfl Try.isAgg25 (by simp only [World.cell?, hX.1]; simp)
    simp only [Act.put, List.setIfInBounds_toArray, List.set_cons_zero, List.set_cons_succ]
    refine H_take (i := 4) (v := .pointer (some ⟨bo, 1, none⟩)) (some 16) rfl rfl (by kernel_rfl) (by kernel_rfl) (by kernel_rfl) (fun _ _ _ h => h) rfl (fun X hX => ?_) sq ?_
    · simp [go_sem]
    simp only [Act.put, List.setIfInBounds_toArray, List.set_cons_zero, List.set_cons_succ]
    refine H_take (i := 5) (v := .int .i64 on) (some 17) rfl rfl (by kernel_rfl) (by kernel_rfl) (by kernel_rfl) (fun _ _ _ h => h) rfl (fun X hX => ?_) sq ?_
    · simp [go_sem, World.cell?, hX.2.1]
    simp only [Act.put, List.setIfInBounds_toArray, List.set_cons_zero, List.set_cons_succ]
    refine H_take (i := 6) (v := .pointer (some ⟨db, 0, none⟩)) (some 18) rfl rfl (by kernel_rfl) (by kernel_rfl) (by kernel_rfl) (fun _ _ _ h => h) rfl (fun X hX => ?_) sq ?_
    · simp [go_sem]
    simp only [Act.put, List.setIfInBounds_toArray, List.set_cons_zero, List.set_cons_succ]
    refine H_take (i := 7) (v := .pointer (some ⟨db, 0, none⟩)) (some 19) rfl rfl (by kernel_rfl) (by kernel_rfl) (by kernel_rfl) (fun _ _ _ h => h) rfl (fun X hX => ?_) sq ?_
    · simp [go_sem]
    simp only [Act.put, List.setIfInBounds_toArray, List.set_cons_zero, List.set_cons_succ]
    refine H_take (i := 8) (v := .pointer (some ⟨db, 0, none⟩)) (some 20) rfl rfl (by kernel_rfl) (by kernel_rfl) (by kernel_rfl) (fun _ _ _ h => h) rfl (fun X hX => ?_) sq ?_
    · simp [go_sem]
    simp only [Act.put, List.setIfInBounds_toArray, List.set_cons_zero, List.set_cons_succ]
    refine H_take (i := 9) (v := .slice (some ⟨gk, off, none⟩) L.length cl) (some 21) rfl rfl (by kernel_rfl) (by kernel_rfl) (by kernel_rfl) (fun _ _ _ h => h) rfl (fun X hX => ?_) sq ?_
    · exact run_load1 rfl rfl Try.isAgg25 (by simp only [World.cell?, hX.1]; simp)
    simp only [Act.put, List.setIfInBounds_toArray, List.set_cons_zero, List.set_cons_succ]
    refine H_take (i := 10) (v := .int .i64 (L.length : Int)) (some 22) rfl rfl (by kernel_rfl) (by kernel_rfl) (by kernel_rfl) (fun _ _ _ h => h) rfl (fun X hX => ?_) sq ?_
    · simp [go_sem]
    simp only [Act.put, List.setIfInBounds_toArray, List.set_cons_zero, List.set_cons_succ]
    refine wpAnyH_all (rs := [11, 14]) (by kernel_rfl) (by decide) (fun j hj => ?_)
    have hj2 : j = 11 ∨ j = 14 := by simpa using hj
    rcases hj2 with rfl | rfl
    · refine D_call (f := 16) (args := #[.int .i64 on, .int .i64 (L.length : Int)]) (some 23) rfl rfl rfl (by simp [go_sem]) ((pick_any W1.drew on L.length HB.out.1 hL0 (by omega)).mono ?_)
      rintro e W' ⟨⟨r, hr, rfl⟩, rfl⟩
      refine ⟨_, rfl, sq, ?_⟩
      simp only [Act.put, List.setIfInBounds_toArray, List.set_cons_zero, List.set_cons_succ]
      obtain ⟨y, hy⟩ : ∃ y, L[r]? = some y := ⟨_, List.getElem?_eq_getElem hr⟩
      obtain ⟨gk', off', eg, _, _, _, hall⟩ := HD.out.rl.range (j := r) (x := lval y) (by simp [hy])
      simp only [Option.some.injEq, Addr.mk.injEq, and_true] at eg
      obtain ⟨rfl, rfl⟩ := eg
      have ri : (r : Int) < (L.length : Int) := by omega
      refine H_take (i := 12) (v := .pointer (some ⟨gk, off + 2 * r, none⟩)) (some 24) rfl rfl (by kernel_rfl) (by kernel_rfl) (by kernel_rfl) (fun _ _ _ h => h) rfl (fun X hX => ?_) sq ?_
      · simp [go_sem, ri]
      simp only [Act.put, List.setIfInBounds_toArray, List.set_cons_zero, List.set_cons_succ]
      refine H_take (i := 13) (v := .agg #[.pointer (some ⟨y.1, 0, none⟩), .pointer (some ⟨y.2.1, 0, none⟩)]) (some 25) rfl rfl (by kernel_rfl) (by kernel_rfl) (by kernel_rfl) (fun _ _ _ h => h) rfl (fun X hX => ?_) sq ?_
      · exact run_loadMid rfl rfl (hall X hX.2.2).1 Try.underlying36 rfl rfl
      simp only [Act.put, List.setIfInBounds_toArray, List.set_cons_zero, List.set_cons_succ]
      have bA : Below W1.drew.heap.size W1.drew (W1.drew.alloc (.cells #[.pointer none, .pointer none] 36)) := (Below.refl _ W1.drew).alloc (Nat.le_refl _) _
      have sqA : (fun X : World => X.heap[db]? = some (.cells #[.slice (some ⟨gk, off, none⟩) L.length cl, vk] 28 (0, 0)) ∧ X.heap[bo]? = some (.cells #[.int .i64 6, .int .i64 on, .int .i64 n, .int .i64 x] 39 (0, 0)) ∧ X.heap[gk]? = W1.drew.heap[gk]?) (W1.drew.alloc (.cells #[.pointer none, .pointer none] 36)) := ⟨(bA.block _ (Array.getElem?_eq_some_iff.1 sq.1).1).trans sq.1, (bA.block _ (Array.getElem?_eq_some_iff.1 sq.2.1).1).trans sq.2.1, bA.block gk HG.out⟩
      clear bA
      refine H_value (i := 14) (v := .pointer (some ⟨W1.heap.size, 0, none⟩)) (w' := (W1.drew.alloc (.cells #[.pointer none, .pointer none] 36))) (some 5) rfl rfl (by kernel_rfl) rfl (run_allocP rfl) sqA ?_
      simp only [Act.put, List.setIfInBounds_toArray, List.set_cons_zero, List.set_cons_succ]
      obtain ⟨bN, xN⟩ := setRow_newQ W1.drew #[.pointer none, .pointer none] #[.pointer (some ⟨y.1, 0, none⟩), .pointer (some ⟨y.2.1, 0, none⟩)] 36
      have sqN : (fun X : World => X.heap[db]? = some (.cells #[.slice (some ⟨gk, off, none⟩) L.length cl, vk] 28 (0, 0)) ∧ X.heap[bo]? = some (.cells #[.int .i64 6, .int .i64 on, .int .i64 n, .int .i64 x] 39 (0, 0)) ∧ X.heap[gk]? = W1.drew.heap[gk]?) ((W1.drew.alloc (.cells #[.pointer none, .pointer none] 36)).setRow W1.heap.size #[.pointer (some ⟨y.1, 0, none⟩), .pointer (some ⟨y.2.1, 0, none⟩)]) := ⟨(bN.block _ (Array.getElem?_eq_some_iff.1 sq.1).1).trans sq.1, (bN.block _ (Array.getElem?_eq_some_iff.1 sq.2.1).1).trans sq.2.1, bN.block gk HG.out⟩
      refine H_skip (i := 15) (w' := (W1.drew.alloc (.cells #[.pointer none, .pointer none] 36)).setRow W1.heap.size #[.pointer (some ⟨y.1, 0, none⟩), .pointer (some ⟨y.2.1, 0, none⟩)]) rfl rfl (by kernel_rfl) rfl (run_storeRow rfl W1.heap.size #[.pointer (some ⟨y.1, 0, none⟩), .pointer (some ⟨y.2.1, 0, none⟩)] rfl rfl 36 #[.pointer none, .pointer none] (heap_alloc_new W1.drew _) rfl rfl (by simp [Value.oneCell'])) sqN ?_
      refine wpAnyH_done (by kernel_rfl) ?_ _
      have hpk : Picked W1 P W1.heap.size ((W1.drew.alloc (.cells #[.pointer none, .pointer none] 36)).setRow W1.heap.size #[.pointer (some ⟨y.1, 0, none⟩), .pointer (some ⟨y.2.1, 0, none⟩)]) := Picked.mk' ⟨bN.1, bN.2, bN.3, bN.4, bN.5⟩ (H1.out.il y (List.mem_of_getElem? hy)) xN
      clear sqN xN bN hall ri hy hr sq
      go_wp2_with fail
      go_meet
      exact ⟨rfl, hpk⟩
    · have bA : Below W1.drew.heap.size W1.drew (W1.drew.alloc (.cells #[.pointer none, .pointer none] 36)) := (Below.refl _ W1.drew).alloc (Nat.le_refl _) _
      have sqA : (fun X : World => X.heap[db]? = some (.cells #[.slice (some ⟨gk, off, none⟩) L.length cl, vk] 28 (0, 0)) ∧ X.heap[bo]? = some (.cells #[.int .i64 6, .int .i64 on, .int .i64 n, .int .i64 x] 39 (0, 0)) ∧ X.heap[gk]? = W1.drew.heap[gk]?) (W1.drew.alloc (.cells #[.pointer none, .pointer none] 36)) := ⟨(bA.block _ (Array.getElem?_eq_some_iff.1 sq.1).1).trans sq.1, (bA.block _ (Array.getElem?_eq_some_iff.1 sq.2.1).1).trans sq.2.1, bA.block gk HG.out⟩
      clear bA
      refine D_value (v := .pointer (some ⟨W1.heap.size, 0, none⟩)) (w' := (W1.drew.alloc (.cells #[.pointer none, .pointer none] 36))) (some 5) rfl rfl rfl (run_allocP rfl) ⟨sqA, ?_⟩
      simp only [Act.put, List.setIfInBounds_toArray, List.set_cons_zero, List.set_cons_succ]
      refine H_call (i := 11) (f := 16) (args := #[.int .i64 on, .int .i64 (L.length : Int)]) (some 23) rfl rfl (by kernel_rfl) rfl (by simp [go_sem]) ((pick_any (W1.drew.alloc (.cells #[.pointer none, .pointer none] 36)) on L.length HB.out.1 hL0 (by omega)).mono ?_)
      rintro e W' ⟨⟨r, hr, rfl⟩, hw'⟩
      subst hw'
      refine ⟨_, rfl, sqA, ?_⟩
      simp only [Act.put, List.setIfInBounds_toArray, List.set_cons_zero, List.set_cons_succ]
      obtain ⟨y, hy⟩ : ∃ y, L[r]? = some y := ⟨_, List.getElem?_eq_getElem hr⟩
      obtain ⟨gk', off', eg, _, _, _, hall⟩ := HD.out.rl.range (j := r) (x := lval y) (by simp [hy])
      simp only [Option.some.injEq, Addr.mk.injEq, and_true] at eg
      obtain ⟨rfl, rfl⟩ := eg
      have ri : (r : Int) < (L.length : Int) := by omega
      refine H_take (i := 12) (v := .pointer (some ⟨gk, off + 2 * r, none⟩)) (some 24) rfl rfl (by kernel_rfl) (by kernel_rfl) (by kernel_rfl) (fun _ _ _ h => h) rfl (fun X hX => ?_) sqA ?_
      · simp [go_sem, ri]
      simp only [Act.put, List.setIfInBounds_toArray, List.set_cons_zero, List.set_cons_succ]
      refine H_take (i := 13) (v := .agg #[.pointer (some ⟨y.1, 0, none⟩), .pointer (some ⟨y.2.1, 0, none⟩)]) (some 25) rfl rfl (by kernel_rfl) (by kernel_rfl) (by kernel_rfl) (fun _ _ _ h => h) rfl (fun X hX => ?_) sqA ?_
      · exact run_loadMid rfl rfl (hall X hX.2.2).1 Try.underlying36 rfl rfl
      simp only [Act.put, List.setIfInBounds_toArray, List.set_cons_zero, List.set_cons_succ]
      obtain ⟨bN, xN⟩ := setRow_newQ W1.drew #[.pointer none, .pointer none] #[.pointer (some ⟨y.1, 0, none⟩), .pointer (some ⟨y.2.1, 0, none⟩)] 36
      have sqN : (fun X : World => X.heap[db]? = some (.cells #[.slice (some ⟨gk, off, none⟩) L.length cl, vk] 28 (0, 0)) ∧ X.heap[bo]? = some (.cells #[.int .i64 6, .int .i64 on, .int .i64 n, .int .i64 x] 39 (0, 0)) ∧ X.heap[gk]? = W1.drew.heap[gk]?) ((W1.drew.alloc (.cells #[.pointer none, .pointer none] 36)).setRow W1.heap.size #[.pointer (some ⟨y.1, 0, none⟩), .pointer (some ⟨y.2.1, 0, none⟩)]) := ⟨(bN.block _ (Array.getElem?_eq_some_iff.1 sq.1).1).trans sq.1, (bN.block _ (Array.getElem?_eq_some_iff.1 sq.2.1).1).trans sq.2.1, bN.block gk HG.out⟩
      refine H_skip (i := 15) (w' := (W1.drew.alloc (.cells #[.pointer none, .pointer none] 36)).setRow W1.heap.size #[.pointer (some ⟨y.1, 0, none⟩), .pointer (some ⟨y.2.1, 0, none⟩)]) rfl rfl (by kernel_rfl) rfl (run_storeRow rfl W1.heap.size #[.pointer (some ⟨y.1, 0, none⟩), .pointer (some ⟨y.2.1, 0, none⟩)] rfl rfl 36 #[.pointer none, .pointer none] (heap_alloc_new W1.drew _) rfl rfl (by simp [Value.oneCell'])) sqN ?_
      refine wpAnyH_done (by kernel_rfl) ?_ _
      have hpk : Picked W1 P W1.heap.size ((W1.drew.alloc (.cells #[.pointer none, .pointer none] 36)).setRow W1.heap.size #[.pointer (some ⟨y.1, 0, none⟩), .pointer (some ⟨y.2.1, 0, none⟩)]) := Picked.mk' ⟨bN.1, bN.2, bN.3, bN.4, bN.5⟩ (H1.out.il y (List.mem_of_getElem? hy)) xN
      clear sqN xN bN hall ri hy hr sq
      go_wp2_with fail
      go_meet
      exact ⟨rfl, hpk⟩
  case rest =>
    obtain ⟨rfl, hpk⟩ := hcut
    obtain ⟨b2, i, p, hi, xp⟩ := hpk
    obtain ⟨bp, hbp⟩ : ∃ bp, bp = W1.heap.size := ⟨_, rfl⟩
    rw [← hbp] at xp ⊢
    clear hbp
    have xo := (b2.block _ (Array.getElem?_eq_some_iff.1 HXO.out).1).trans HXO.out
    have d2 := H1.out.later b2
    have e2 := d2.prs.each i p hi
    have few := d2.prs.few i p hi
    have o0 : wc.cell? ⟨bo, 0, none⟩ = some (.int .i64 6) := by simp only [World.cell?, xo]; simp
    have o2 : wc.cell? ⟨bo, 2, none⟩ = some (.int .i64 n) := by simp only [World.cell?, xo]; simp
    have o3 : wc.cell? ⟨bo, 3, none⟩ = some (.int .i64 x) := by simp only [World.cell?, xo]; simp
    have p0 : wc.cell? ⟨bp, 0, none⟩ = some (.pointer (some ⟨p.qb, 0, none⟩)) := by simp only [World.cell?, xp]; simp
    have p1 : wc.cell? ⟨bp, 1, none⟩ = some (.pointer (some ⟨p.rb, 0, none⟩)) := by simp only [World.cell?, xp]; simp
    have D2 := hideR d2
    have E2 := hideR e2
    have HI := hideR hi
    have HF := hideR few
    have HXP := hideR (And.intro xp xo)
    clear d2 e2 hi few xp xo b2
    have GO := hideR (goes6 w0 wc db N i on n x P L K (.slice (some ⟨gk, off, none⟩) L.length cl) vk p D2.out HKL.out.1 HKL.out.2 HI.out hN HB.out.2.1 HB.out.2.2)
    have o1 : wc.cell? ⟨bo, 1, none⟩ = some (.int .i64 on) := by have xo := HXP.out.2; simp only [World.cell?, xo]; simp
    go_wp2_with fail
    refine GO.out.mono ?_
    rintro e W5 ⟨rfl, d5⟩
    have D5 := hideR d5
    clear d5
    go_wp2_with fail
    go_ret
    exact ⟨rfl, D5.out⟩
end Go.Proofs.Ytccpaapbgdpghaa
