/-
  St1, St2, St3.
-/
import Derived.Test.YtccpaapbgdpghaaStepQ
import Derived.Test.YtccpaapbgdpghaaFromI
import Derived.Deep.CutBlock
import Derived.Test.YtccpaapbgdpghaaBoth
namespace Go.Proofs.Ytccpaapbgdpghaa
open Go.RowKit

set_option maxHeartbeats 8000000 in
set_option maxRecDepth 1000000 in
theorem step1 (w0 w : World) (db N : Nat) (on n x : Int) (h0 : DkN w0 db N w) (hN : N ≤ 1048576) (hon : -9223372036854775808 ≤ on ∧ on ≤ 9223372036854775807) (hn : -9223372036854775808 ≤ n ∧ n ≤ 9223372036854775807) (hx : -9223372036854775808 ≤ x ∧ x ≤ 9223372036854775807) :
    Calls Try.prog 6 #[.pointer (some ⟨db, 0, none⟩), .agg #[.int .i64 1, .int .i64 on, .int .i64 n, .int .i64 x]] w fun e w' => e = .returned (.bool true) ∧ DkN w0 db (N + 1) w' := by
  obtain ⟨P, L, vl, K, vk, h, hL, hK⟩ := h0
  have hL0 : 0 < L.length := by cases L with | nil => exact absurd rfl hL | cons y L => simp
  obtain ⟨W1, hW1⟩ : ∃ W1, W1 = w.alloc (.cells #[.int .i64 1, .int .i64 on, .int .i64 n, .int .i64 x] 39) := ⟨_, rfl⟩
  have b1 : Below w.heap.size w W1 := by rw [hW1]; exact (Below.refl _ w).alloc (Nat.le_refl _) _
  obtain ⟨bo, hbo⟩ : ∃ bo, bo = w.heap.size := ⟨_, rfl⟩
  have xo1 : W1.heap[bo]? = some (.cells #[.int .i64 1, .int .i64 on, .int .i64 n, .int .i64 x] 39 (0, 0)) := by rw [hW1, hbo]; exact heap_alloc_new w _
  have h1 := h.later b1
  obtain ⟨al, cl, hvl⟩ := h1.rl.form
  rw [List.length_map] at hvl
  subst hvl
  obtain ⟨gk, off, rfl, hgk, _⟩ := h1.rl.range (j := 0) (x := lval (L[0]'hL0)) (by rw [List.getElem?_map, List.getElem?_eq_getElem hL0]; rfl)
  have H1 := hideR h1
  have HBO := hideR (And.intro hW1 hbo)
  have HG := hideR hgk
  have HXO := hideR xo1
  have HKL := hideR (And.intro hL hK)
  have HB := hideR (And.intro hon (And.intro hn hx))
  have hL4 := h1.cl
  clear h h1 hW1 hbo hgk xo1 b1 hL hK hon hn hx
  go_enter Try.func6, Try.ntmps6
  go_upto_region 1 with fail
  rw [← HBO.out.1, ← HBO.out.2]
  go_cut [5] from 12 to 25 (fun s5 wx => s5 = .pointer (some ⟨W1.heap.size, 0, none⟩) ∧ Picked W1 P W1.heap.size wx)
  case first =>
    have hd : DkAt w0 W1.drew db P L (.slice (some ⟨gk, off, none⟩) L.length cl) K vk N := H1.out.later ⟨rfl, rfl, rfl, Nat.le_refl _, fun _ _ => rfl⟩
    have sq : (fun X : World => X.heap[db]? = some (.cells #[.slice (some ⟨gk, off, none⟩) L.length cl, vk] 28 (0, 0)) ∧ X.heap[bo]? = some (.cells #[.int .i64 1, .int .i64 on, .int .i64 n, .int .i64 x] 39 (0, 0)) ∧ X.heap[gk]? = W1.drew.heap[gk]?) W1.drew := ⟨hd.box, HXO.out, rfl⟩
    have HD := hideR hd
    clear hd
    refine wp_region_held_drew (S := (fun X : World => X.heap[db]? = some (.cells #[.slice (some ⟨gk, off, none⟩) L.length cl, vk] 28 (0, 0)) ∧ X.heap[bo]? = some (.cells #[.int .i64 1, .int .i64 on, .int .i64 n, .int .i64 x] 39 (0, 0)) ∧ X.heap[gk]? = W1.drew.heap[gk]?)) mixed sq (fun _ => ?_)
    refine H_take (i := 0) (v := .pointer (some ⟨db, 0, none⟩)) (some 12) rfl rfl (by kernel_rfl) (by kernel_rfl) (by kernel_rfl) (fun _ _ _ h => h) rfl (fun X hX => ?_) sq ?_
    · simp [go_sem]
    simp only [Act.put, List.setIfInBounds_toArray, List.set_cons_zero, List.set_cons_succ]
    refine H_take (i := 1) (v := .pointer (some ⟨db, 0, none⟩)) (some 13) rfl rfl (by kernel_rfl) (by kernel_rfl) (by kernel_rfl) (fun _ _ _ h => h) rfl (fun X hX => ?_) sq ?_
    · simp [go_sem]
    simp only [Act.put, List.setIfInBounds_toArray, List.set_cons_zero, List.set_cons_succ]
    refine H_take (i := 2) (v := .pointer (some ⟨db, 0, none⟩)) (some 14) rfl rfl (by kernel_rfl) (by kernel_rfl) (by kernel_rfl) (fun _ _ _ h => h) rfl (fun X hX => ?_) sq ?_
    · simp [go_sem]
    simp only [Act.put, List.setIfInBounds_toArray, List.set_cons_zero, List.set_cons_succ]
    refine H_take (i := 3) (v := .slice (some ⟨gk, off, none⟩) L.length cl) (some 15) rfl rfl (by kernel_rfl) (by kernel_rfl) (by kernel_rfl) (fun _ _ _ h => h) rfl (fun X hX => ?_) sq ?_
    · exact run_load1 rfl rfl Try.isAgg25 (by simp only [World.cell?, hX.1]; simp)
    simp only [Act.put, List.setIfInBounds_toArray, List.set_cons_zero, List.set_cons_succ]
    refine H_take (i := 4) (v := .pointer (some ⟨bo, 1, none⟩)) (some 16) rfl rfl (by kernel_rfl) (by kernel_rfl) (by kernel_rfl) (fun _ _ _ h => h) rfl (fun X hX => ?_) sq ?_
    · simp [go_sem]
    simp only [Act.put, List.setIfInBounds_toArray, List.set_cons_zero, List.set_cons_succ]
    refine H_take (i := 5) (v := .int .i64 on) (some 17) rfl rfl (by kernel_rfl) (by kernel_rfl) (by kernel_rfl) (fun _ _ _ h => h) rfl (fun X hX => ?_) sq ?_
    · simp [go_sem, World.cell?, hX.2.1]
    simp only [Act.put, List.setIfInBounds_toArray, List.set_cons_zero, List.set_cons_succ]
    refine H_take (i := 6) (v := .pointer (some ⟨db, 0, none⟩)) (some 18) rfl rfl (by kernel_rfl) (by kernel_rfl) (by kernel_rfl) (fun _ _ _ h => h) rfl (fun X hX => ?_) sq ?_
    · simp [go_sem]
    simp only [Act.put, List.setIfInBounds_toArray, List.set_cons_zero, List.set_cons_succ]
    refine H_take (i := 7) (v := .pointer (some ⟨db, 0, none⟩)) (some 19) rfl rfl (by kernel_rfl) (by kernel_rfl) (by kernel_rfl) (fun _ _ _ h => h) rfl (fun X hX => ?_) sq ?_
    · simp [go_sem]
    simp only [Act.put, List.setIfInBounds_toArray, List.set_cons_zero, List.set_cons_succ]
    refine H_take (i := 8) (v := .pointer (some ⟨db, 0, none⟩)) (some 20) rfl rfl (by kernel_rfl) (by kernel_rfl) (by kernel_rfl) (fun _ _ _ h => h) rfl (fun X hX => ?_) sq ?_
    · simp [go_sem]
    simp only [Act.put, List.setIfInBounds_toArray, List.set_cons_zero, List.set_cons_succ]
    refine H_take (i := 9) (v := .slice (some ⟨gk, off, none⟩) L.length cl) (some 21) rfl rfl (by kernel_rfl) (by kernel_rfl) (by kernel_rfl) (fun _ _ _ h => h) rfl (fun X hX => ?_) sq ?_
    · exact run_load1 rfl rfl Try.isAgg25 (by simp only [World.cell?, hX.1]; simp)
    simp only [Act.put, List.setIfInBounds_toArray, List.set_cons_zero, List.set_cons_succ]
    refine H_take (i := 10) (v := .int .i64 (L.length : Int)) (some 22) rfl rfl (by kernel_rfl) (by kernel_rfl) (by kernel_rfl) (fun _ _ _ h => h) rfl (fun X hX => ?_) sq ?_
    · simp [go_sem]
    simp only [Act.put, List.setIfInBounds_toArray, List.set_cons_zero, List.set_cons_succ]
    refine wpAnyH_all (rs := [11, 14]) (by kernel_rfl) (by decide) (fun j hj => ?_)
    have hj2 : j = 11 ∨ j = 14 := by simpa using hj
    rcases hj2 with rfl | rfl
    · refine D_call (f := 16) (args := #[.int .i64 on, .int .i64 (L.length : Int)]) (some 23) rfl rfl rfl (by simp [go_sem]) ((pick_any W1.drew on L.length HB.out.1 hL0 (by omega)).mono ?_)
      rintro e W' ⟨⟨r, hr, rfl⟩, rfl⟩
      refine ⟨_, rfl, sq, ?_⟩
      simp only [Act.put, List.setIfInBounds_toArray, List.set_cons_zero, List.set_cons_succ]
      obtain ⟨y, hy⟩ : ∃ y, L[r]? = some y := ⟨_, List.getElem?_eq_getElem hr⟩
      obtain ⟨gk', off', eg, _, _, _, hall⟩ := HD.out.rl.range (j := r) (x := lval y) (by simp [hy])
      simp only [Option.some.injEq, Addr.mk.injEq, and_true] at eg
      obtain ⟨rfl, rfl⟩ := eg
      have ri : (r : Int) < (L.length : Int) := by omega
      refine H_take (i := 12) (v := .pointer (some ⟨gk, off + 2 * r, none⟩)) (some 24) rfl rfl (by kernel_rfl) (by kernel_rfl) (by kernel_rfl) (fun _ _ _ h => h) rfl (fun X hX => ?_) sq ?_
      · simp [go_sem, ri]
      simp only [Act.put, List.setIfInBounds_toArray, List.set_cons_zero, List.set_cons_succ]
      refine H_take (i := 13) (v := .agg #[.pointer (some ⟨y.1, 0, none⟩), .pointer (some ⟨y.2.1, 0, none⟩)]) (some 25) rfl rfl (by kernel_rfl) (by kernel_rfl) (by kernel_rfl) (fun _ _ _ h => h) rfl (fun X hX => ?_) sq ?_
      · exact run_loadMid rfl rfl (hall X hX.2.2).1 Try.underlying36 rfl rfl
      simp only [Act.put, List.setIfInBounds_toArray, List.set_cons_zero, List.set_cons_succ]
      have bA : Below W1.drew.heap.size W1.drew (W1.drew.alloc (.cells #[.pointer none, .pointer none] 36)) := (Below.refl _ W1.drew).alloc (Nat.le_refl _) _
      have sqA : (fun X : World => X.heap[db]? = some (.cells #[.slice (some ⟨gk, off, none⟩) L.length cl, vk] 28 (0, 0)) ∧ X.heap[bo]? = some (.cells #[.int .i64 1, .int .i64 on, .int .i64 n, .int .i64 x] 39 (0, 0)) ∧ X.heap[gk]? = W1.drew.heap[gk]?) (W1.drew.alloc (.cells #[.pointer none, .pointer none] 36)) := ⟨(bA.block _ (Array.getElem?_eq_some_iff.1 sq.1).1).trans sq.1, (bA.block _ (Array.getElem?_eq_some_iff.1 sq.2.1).1).trans sq.2.1, bA.block gk HG.out⟩
      clear bA
      refine H_value (i := 14) (v := .pointer (some ⟨W1.heap.size, 0, none⟩)) (w' := (W1.drew.alloc (.cells #[.pointer none, .pointer none] 36))) (some 5) rfl rfl (by kernel_rfl) rfl (run_allocP rfl) sqA ?_
      simp only [Act.put, List.setIfInBounds_toArray, List.set_cons_zero, List.set_cons_succ]
      obtain ⟨bN, xN⟩ := setRow_newQ W1.drew #[.pointer none, .pointer none] #[.pointer (some ⟨y.1, 0, none⟩), .pointer (some ⟨y.2.1, 0, none⟩)] 36
      have sqN : (fun X : World => X.heap[db]? = some (.cells #[.slice (some ⟨gk, off, none⟩) L.length cl, vk] 28 (0, 0)) ∧ X.heap[bo]? = some (.cells #[.int .i64 1, .int .i64 on, .int .i64 n, .int .i64 x] 39 (0, 0)) ∧ X.heap[gk]? = W1.drew.heap[gk]?) ((W1.drew.alloc (.cells #[.pointer none, .pointer none] 36)).setRow W1.heap.size #[.pointer (some ⟨y.1, 0, none⟩), .pointer (some ⟨y.2.1, 0, none⟩)]) := ⟨(bN.block _ (Array.getElem?_eq_some_iff.1 sq.1).1).trans sq.1, (bN.block _ (Array.getElem?_eq_some_iff.1 sq.2.1).1).trans sq.2.1, bN.block gk HG.out⟩
      refine H_skip (i := 15) (w' := (W1.drew.alloc (.cells #[.pointer none, .pointer none] 36)).setRow W1.heap.size #[.pointer (some ⟨y.1, 0, none⟩), .pointer (some ⟨y.2.1, 0, none⟩)]) rfl rfl (by kernel_rfl) rfl (run_storeRow rfl W1.heap.size #[.pointer (some ⟨y.1, 0, none⟩), .pointer (some ⟨y.2.1, 0, none⟩)] rfl rfl 36 #[.pointer none, .pointer none] (heap_alloc_new W1.drew _) rfl rfl (by simp [Value.oneCell'])) sqN ?_
      refine wpAnyH_done (by kernel_rfl) ?_ _
      have hpk : Picked W1 P W1.heap.size ((W1.drew.alloc (.cells #[.pointer none, .pointer none] 36)).setRow W1.heap.size #[.pointer (some ⟨y.1, 0, none⟩), .pointer (some ⟨y.2.1, 0, none⟩)]) := Picked.mk' ⟨bN.1, bN.2, bN.3, bN.4, bN.5⟩ (H1.out.il y (List.mem_of_getElem? hy)) xN
      clear sqN xN bN hall ri hy hr sq
      go_wp2_with fail
      go_meet
      exact ⟨rfl, hpk⟩
    · have bA : Below W1.drew.heap.size W1.drew (W1.drew.alloc (.cells #[.pointer none, .pointer none] 36)) := (Below.refl _ W1.drew).alloc (Nat.le_refl _) _
      have sqA : (fun X : World => X.heap[db]? = some (.cells #[.slice (some ⟨gk, off, none⟩) L.length cl, vk] 28 (0, 0)) ∧ X.heap[bo]? = some (.cells #[.int .i64 1, .int .i64 on, .int .i64 n, .int .i64 x] 39 (0, 0)) ∧ X.heap[gk]? = W1.drew.heap[gk]?) (W1.drew.alloc (.cells #[.pointer none, .pointer none] 36)) := ⟨(bA.block _ (Array.getElem?_eq_some_iff.1 sq.1).1).trans sq.1, (bA.block _ (Array.getElem?_eq_some_iff.1 sq.2.1).1).trans sq.2.1, bA.block gk HG.out⟩
      clear bA
      refine D_value (v := .pointer (some ⟨W1.heap.size, 0, none⟩)) (w' := (W1.drew.alloc (.cells #[.pointer none, .pointer none] 36))) (some 5) rfl rfl rfl (run_allocP rfl) ⟨sqA, ?_⟩
      simp only [Act.put, List.setIfInBounds_toArray, List.set_cons_zero, List.set_cons_succ]
      refine H_call (i := 11) (f := 16) (args := #[.int .i64 on, .int .i64 (L.length : Int)]) (some 23) rfl rfl (by kernel_rfl) rfl (by simp [go_sem]) ((pick_any (W1.drew.alloc (.cells #[.pointer none, .pointer none] 36)) on L.length HB.out.1 hL0 (by omega)).mono ?_)
      rintro e W' ⟨⟨r, hr, rfl⟩, hw'⟩
      subst hw'
      refine ⟨_, rfl, sqA, ?_⟩
      simp only [Act.put, List.setIfInBounds_toArray, List.set_cons_zero, List.set_cons_succ]
      obtain ⟨y, hy⟩ : ∃ y, L[r]? = some y := ⟨_, List.getElem?_eq_getElem hr⟩
      obtain ⟨gk', off', eg, _, _, _, hall⟩ := HD.out.rl.range (j := r) (x := lval y) (by simp [hy])
      simp only [Option.some.injEq, Addr.mk.injEq, and_true] at eg
      obtain ⟨rfl, rfl⟩ := eg
      have ri : (r : Int) < (L.length : Int) := by omega
      refine H_take (i := 12) (v := .pointer (some ⟨gk, off + 2 * r, none⟩)) (some 24) rfl rfl (by kernel_rfl) (by kernel_rfl) (by kernel_rfl) (fun _ _ _ h => h) rfl (fun X hX => ?_) sqA ?_
      · simp [go_sem, ri]
      simp only [Act.put, List.setIfInBounds_toArray, List.set_cons_zero, List.set_cons_succ]
      refine H_take (i := 13) (v := .agg #[.pointer (some ⟨y.1, 0, none⟩), .pointer (some ⟨y.2.1, 0, none⟩)]) (some 25) rfl rfl (by kernel_rfl) (by kernel_rfl) (by kernel_rfl) (fun _ _ _ h => h) rfl (fun X hX => ?_) sqA ?_
      · exact run_loadMid rfl rfl (hall X hX.2.2).1 Try.underlying36 rfl rfl
      simp only [Act.put, List.setIfInBounds_toArray, List.set_cons_zero, List.set_cons_succ]
      obtain ⟨bN, xN⟩ := setRow_newQ W1.drew #[.pointer none, .pointer none] #[.pointer (some ⟨y.1, 0, none⟩), .pointer (some ⟨y.2.1, 0, none⟩)] 36
      have sqN : (fun X : World => X.heap[db]? = some (.cells #[.slice (some ⟨gk, off, none⟩) L.length cl, vk] 28 (0, 0)) ∧ X.heap[bo]? = some (.cells #[.int .i64 1, .int .i64 on, .int .i64 n, .int .i64 x] 39 (0, 0)) ∧ X.heap[gk]? = W1.drew.heap[gk]?) ((W1.drew.alloc (.cells #[.pointer none, .pointer none] 36)).setRow W1.heap.size #[.pointer (some ⟨y.1, 0, none⟩), .pointer (some ⟨y.2.1, 0, none⟩)]) := ⟨(bN.block _ (Array.getElem?_eq_some_iff.1 sq.1).1).trans sq.1, (bN.block _ (Array.getElem?_eq_some_iff.1 sq.2.1).1).trans sq.2.1, bN.block gk HG.out⟩
      refine H_skip (i := 15) (w' := (W1.drew.alloc (.cells #[.pointer none, .pointer none] 36)).setRow W1.heap.size #[.pointer (some ⟨y.1, 0, none⟩), .pointer (some ⟨y.2.1, 0, none⟩)]) rfl rfl (by kernel_rfl) rfl (run_storeRow rfl W1.heap.size #[.pointer (some ⟨y.1, 0, none⟩), .pointer (some ⟨y.2.1, 0, none⟩)] rfl rfl 36 #[.pointer none, .pointer none] (heap_alloc_new W1.drew _) rfl rfl (by simp [Value.oneCell'])) sqN ?_
      refine wpAnyH_done (by kernel_rfl) ?_ _
      have hpk : Picked W1 P W1.heap.size ((W1.drew.alloc (.cells #[.pointer none, .pointer none] 36)).setRow W1.heap.size #[.pointer (some ⟨y.1, 0, none⟩), .pointer (some ⟨y.2.1, 0, none⟩)]) := Picked.mk' ⟨bN.1, bN.2, bN.3, bN.4, bN.5⟩ (H1.out.il y (List.mem_of_getElem? hy)) xN
      clear sqN xN bN hall ri hy hr sq
      go_wp2_with fail
      go_meet
      exact ⟨rfl, hpk⟩
  case rest =>
    obtain ⟨rfl, hpk⟩ := hcut
    obtain ⟨b2, i, p, hi, xp⟩ := hpk
    obtain ⟨bp, hbp⟩ : ∃ bp, bp = W1.heap.size := ⟨_, rfl⟩
    rw [← hbp] at xp ⊢
    clear hbp
    have xo := (b2.block _ (Array.getElem?_eq_some_iff.1 HXO.out).1).trans HXO.out
    have d2 := H1.out.later b2
    have e2 := d2.prs.each i p hi
    have few := d2.prs.few i p hi
    have o0 : wc.cell? ⟨bo, 0, none⟩ = some (.int .i64 1) := by simp only [World.cell?, xo]; simp
    have o2 : wc.cell? ⟨bo, 2, none⟩ = some (.int .i64 n) := by simp only [World.cell?, xo]; simp
    have o3 : wc.cell? ⟨bo, 3, none⟩ = some (.int .i64 x) := by simp only [World.cell?, xo]; simp
    have p0 : wc.cell? ⟨bp, 0, none⟩ = some (.pointer (some ⟨p.qb, 0, none⟩)) := by simp only [World.cell?, xp]; simp
    have p1 : wc.cell? ⟨bp, 1, none⟩ = some (.pointer (some ⟨p.rb, 0, none⟩)) := by simp only [World.cell?, xp]; simp
    have D2 := hideR d2
    have E2 := hideR e2
    have HI := hideR hi
    have HF := hideR few
    have HXP := hideR (And.intro xp xo)
    clear d2 e2 hi few xp xo b2
    have few := HF.out
    have sq : (fun X : World => X.heap[bp]? = some (.cells #[.pointer (some ⟨p.qb, 0, none⟩), .pointer (some ⟨p.rb, 0, none⟩)] 36 (0, 0)) ∧ X.heap[bo]? = some (.cells #[.int .i64 1, .int .i64 on, .int .i64 n, .int .i64 x] 39 (0, 0))) wc.drew := ⟨HXP.out.1, HXP.out.2⟩
    have e3 := E2.out.below (W' := wc.drew) ⟨rfl, rfl, rfl, Nat.le_refl _, fun _ _ => rfl⟩
    have E3 := hideR e3
    have JJ := hideR (joinI wc.drew p.qb p.mb p.g (.int .i64 x) p.R e3.q (by omega) (by unfold maxLen; omega) ⟨x, rfl⟩)
    clear e3 few
    go_upto_region 4 with fail
    clear o0 o2 o3 p0 p1
    refine wp_region_held_drew (S := (fun X : World => X.heap[bp]? = some (.cells #[.pointer (some ⟨p.qb, 0, none⟩), .pointer (some ⟨p.rb, 0, none⟩)] 36 (0, 0)) ∧ X.heap[bo]? = some (.cells #[.int .i64 1, .int .i64 on, .int .i64 n, .int .i64 x] 39 (0, 0)))) mixed sq (fun _ => ?_)
    refine H_take (i := 0) (v := .pointer (some ⟨bp, 0, none⟩)) (some 30) rfl rfl (by kernel_rfl) (by kernel_rfl) (by kernel_rfl) (fun _ _ _ h => h) rfl (fun X hX => ?_) sq ?_
    · simp [go_sem]
    simp only [Act.put, List.setIfInBounds_toArray, List.set_cons_zero, List.set_cons_succ]
    refine H_take (i := 1) (v := .pointer (some ⟨p.qb, 0, none⟩)) (some 31) rfl rfl (by kernel_rfl) (by kernel_rfl) (by kernel_rfl) (fun _ _ _ h => h) rfl (fun X hX => ?_) sq ?_
    · simp [go_sem, World.cell?, hX.1]
    simp only [Act.put, List.setIfInBounds_toArray, List.set_cons_zero, List.set_cons_succ]
    refine H_take (i := 2) (v := .pointer (some ⟨bo, 3, none⟩)) (some 32) rfl rfl (by kernel_rfl) (by kernel_rfl) (by kernel_rfl) (fun _ _ _ h => h) rfl (fun X hX => ?_) sq ?_
    · simp [go_sem]
    simp only [Act.put, List.setIfInBounds_toArray, List.set_cons_zero, List.set_cons_succ]
    refine H_take (i := 3) (v := .int .i64 x) (some 33) rfl rfl (by kernel_rfl) (by kernel_rfl) (by kernel_rfl) (fun _ _ _ h => h) rfl (fun X hX => ?_) sq ?_
    · simp [go_sem, World.cell?, hX.2]
    simp only [Act.put, List.setIfInBounds_toArray, List.set_cons_zero, List.set_cons_succ]
    refine H_take (i := 5) (v := .pointer (some ⟨bp, 1, none⟩)) (some 35) rfl rfl (by kernel_rfl) (by kernel_rfl) (by kernel_rfl) (fun _ _ _ h => h) rfl (fun X hX => ?_) sq ?_
    · simp [go_sem]
    simp only [Act.put, List.setIfInBounds_toArray, List.set_cons_zero, List.set_cons_succ]
    refine H_take (i := 6) (v := .pointer (some ⟨p.rb, 0, none⟩)) (some 36) rfl rfl (by kernel_rfl) (by kernel_rfl) (by kernel_rfl) (fun _ _ _ h => h) rfl (fun X hX => ?_) sq ?_
    · simp [go_sem, World.cell?, hX.1]
    simp only [Act.put, List.setIfInBounds_toArray, List.set_cons_zero, List.set_cons_succ]
    refine H_take (i := 7) (v := .pointer (some ⟨bo, 3, none⟩)) (some 37) rfl rfl (by kernel_rfl) (by kernel_rfl) (by kernel_rfl) (fun _ _ _ h => h) rfl (fun X hX => ?_) sq ?_
    · simp [go_sem]
    simp only [Act.put, List.setIfInBounds_toArray, List.set_cons_zero, List.set_cons_succ]
    refine H_take (i := 8) (v := .int .i64 x) (some 38) rfl rfl (by kernel_rfl) (by kernel_rfl) (by kernel_rfl) (fun _ _ _ h => h) rfl (fun X hX => ?_) sq ?_
    · simp [go_sem, World.cell?, hX.2]
    simp only [Act.put, List.setIfInBounds_toArray, List.set_cons_zero, List.set_cons_succ]
    refine H_call (i := 4) (f := 17) (args := #[.pointer (some ⟨p.qb, 0, none⟩), .int .i64 x]) (some 34) rfl rfl (by kernel_rfl) rfl (by simp [go_sem]) (JJ.out.mono ?_)
    rintro e U4 ⟨rfl, q6, k6⟩
    have r6 := E3.out.r.kept k6 (fun k hM e => apart_QR E3.out.q.part E3.out.r hM e)
    have hbp : ∀ (g : Nat) c t, wc.drew.heap[g]? = some (.cells c t (0, 0)) → (t = 36 ∨ t = 39) → ¬ p.mine g := fun g c t hc ht => by rcases ht with rfl | rfl <;> exact E3.out.not hc (by decide) (by decide) (by decide) (by decide)
    have HBP := hideR hbp
    have sq6 : (fun X : World => X.heap[bp]? = some (.cells #[.pointer (some ⟨p.qb, 0, none⟩), .pointer (some ⟨p.rb, 0, none⟩)] 36 (0, 0)) ∧ X.heap[bo]? = some (.cells #[.int .i64 1, .int .i64 on, .int .i64 n, .int .i64 x] 39 (0, 0))) U4 := ⟨(k6.block _ (Array.getElem?_eq_some_iff.1 sq.1).1 (fun e => hbp _ _ _ sq.1 (.inl rfl) (.inl e))).trans sq.1, (k6.block _ (Array.getElem?_eq_some_iff.1 sq.2).1 (fun e => hbp _ _ _ sq.2 (.inr rfl) (.inl e))).trans sq.2⟩
    have few := HF.out
    have RJ := hideR (refJoinF w0.heap.size U4 p.rb p.g x p.vt p.vh p.T p.H r6 (by rw [E3.out.al.lenT]; omega) (by rw [E3.out.al.lenH]; omega) ⟨by have := E3.out.q.pos; omega, by omega⟩ (Nat.le_trans D2.out.bel.size k6.size))
    have H6 := hideR (And.intro q6 (And.intro k6 r6))
    clear q6 k6 r6 hbp few
    refine ⟨_, rfl, sq6, ?_⟩
    simp only [Act.put, List.setIfInBounds_toArray, List.set_cons_zero, List.set_cons_succ]
    refine H_call (i := 9) (f := 18) (args := #[.pointer (some ⟨p.rb, 0, none⟩), .int .i64 x]) (some 39) rfl rfl (by kernel_rfl) rfl (by simp [go_sem]) (RJ.out.mono ?_)
    rintro e U5 ⟨rfl, vt6, vh6, r7, k7, f7⟩
    obtain ⟨q6, k6, r6⟩ := H6.out
    have ht : Turned w0.heap.size wc.drew p ⟨p.qb, p.mb, p.rb, p.g + 1, p.R ++ [⟨wc.drew.heap.size, p.g + 1, .int .i64 x⟩], vt6, vh6, p.T ++ [p.g + 1], p.H ++ [x]⟩ U5 := by
      refine ⟨⟨q6.keptQ k7 (fun k hM e => apart_QR q6.part r6 e hM), r7, ?_, ?_⟩, rfl, rfl, (k6.mono fun k _ e => .inl e).trans (k7.mono fun k _ e => .inr e), fun k e => ?_, by simp, Int.le_refl _⟩
      · rw [List.map_append, E3.out.al.tk]; rfl
      · rw [List.map_append, List.map_append, E3.out.al.vs]; rfl
      · rcases e with e | e
        · rcases e with e | e | ⟨r, hr, e⟩
          · exact .inl (.inl (.inl e))
          · exact .inl (.inl (.inr (.inl e)))
          · rcases List.mem_append.1 hr with hr | hr
            · exact .inl (.inl (.inr (.inr ⟨r, hr, e⟩)))
            · simp at hr
              subst hr
              exact .inr (Nat.le_of_eq e)
        · rcases f7 k e with e | e
          · exact .inl (.inr e)
          · exact .inr (Nat.le_trans k6.size e)
    have sq7 : (fun X : World => X.heap[bp]? = some (.cells #[.pointer (some ⟨p.qb, 0, none⟩), .pointer (some ⟨p.rb, 0, none⟩)] 36 (0, 0)) ∧ X.heap[bo]? = some (.cells #[.int .i64 1, .int .i64 on, .int .i64 n, .int .i64 x] 39 (0, 0))) U5 := ⟨(ht.kp.block _ (Array.getElem?_eq_some_iff.1 sq.1).1 (HBP.out _ _ _ sq.1 (.inl rfl))).trans sq.1, (ht.kp.block _ (Array.getElem?_eq_some_iff.1 sq.2).1 (HBP.out _ _ _ sq.2 (.inr rfl))).trans sq.2⟩
    have HT := hideR (ht.behind (w := wc) ⟨rfl, rfl, rfl, Nat.le_refl _, fun _ _ => rfl⟩)
    clear q6 k6 r6 r7 k7 f7 ht
    refine ⟨_, rfl, sq7, ?_⟩
    simp only [Act.put, List.setIfInBounds_toArray, List.set_cons_zero, List.set_cons_succ]
    refine H_take (i := 10) (v := .bool true) (some 40) rfl rfl (by kernel_rfl) (by kernel_rfl) (by kernel_rfl) (fun _ _ _ h => h) rfl (fun X hX => ?_) sq7 ?_
    · simp [go_sem]
    simp only [Act.put, List.setIfInBounds_toArray, List.set_cons_zero, List.set_cons_succ]
    refine H_take (i := 11) (v := .bool true) (some 4) rfl rfl (by kernel_rfl) (by kernel_rfl) (by kernel_rfl) (fun _ _ _ h => h) rfl (fun X hX => ?_) sq7 ?_
    · simp [go_sem]
    simp only [Act.put, List.setIfInBounds_toArray, List.set_cons_zero, List.set_cons_succ]
    refine wpAnyH_done (by kernel_rfl) ?_ _
    go_wp2_with fail
    go_ret
    exact ⟨rfl, DkN.mk' (D2.out.turn HI.out HT.out) HKL.out.1 HKL.out.2⟩
end Go.Proofs.Ytccpaapbgdpghaa

namespace Go.Proofs.Ytccpaapbgdpghaa
open Go.RowKit

set_option maxHeartbeats 8000000 in
set_option maxRecDepth 1000000 in
theorem step2 (w0 w : World) (db N : Nat) (on n x : Int) (h0 : DkN w0 db N w) (_ : N ≤ 1048576) (hon : -9223372036854775808 ≤ on ∧ on ≤ 9223372036854775807) (hn : -9223372036854775808 ≤ n ∧ n ≤ 9223372036854775807) (hx : -9223372036854775808 ≤ x ∧ x ≤ 9223372036854775807) :
    Calls Try.prog 6 #[.pointer (some ⟨db, 0, none⟩), .agg #[.int .i64 2, .int .i64 on, .int .i64 n, .int .i64 x]] w fun e w' => e = .returned (.bool true) ∧ DkN w0 db (N + 1) w' := by
  obtain ⟨P, L, vl, K, vk, h, hL, hK⟩ := h0
  have hL0 : 0 < L.length := by cases L with | nil => exact absurd rfl hL | cons y L => simp
  obtain ⟨W1, hW1⟩ : ∃ W1, W1 = w.alloc (.cells #[.int .i64 2, .int .i64 on, .int .i64 n, .int .i64 x] 39) := ⟨_, rfl⟩
  have b1 : Below w.heap.size w W1 := by rw [hW1]; exact (Below.refl _ w).alloc (Nat.le_refl _) _
  obtain ⟨bo, hbo⟩ : ∃ bo, bo = w.heap.size := ⟨_, rfl⟩
  have xo1 : W1.heap[bo]? = some (.cells #[.int .i64 2, .int .i64 on, .int .i64 n, .int .i64 x] 39 (0, 0)) := by rw [hW1, hbo]; exact heap_alloc_new w _
  have h1 := h.later b1
  obtain ⟨al, cl, hvl⟩ := h1.rl.form
  rw [List.length_map] at hvl
  subst hvl
  obtain ⟨gk, off, rfl, hgk, _⟩ := h1.rl.range (j := 0) (x := lval (L[0]'hL0)) (by rw [List.getElem?_map, List.getElem?_eq_getElem hL0]; rfl)
  have H1 := hideR h1
  have HBO := hideR (And.intro hW1 hbo)
  have HG := hideR hgk
  have HXO := hideR xo1
  have HKL := hideR (And.intro hL hK)
  have HB := hideR (And.intro hon (And.intro hn hx))
  have hL4 := h1.cl
  clear h h1 hW1 hbo hgk xo1 b1 hL hK hon hn hx
  go_enter Try.func6, Try.ntmps6
  go_upto_region 1 with fail
  rw [← HBO.out.1, ← HBO.out.2]
  go_cut [5] from 12 to 25 (fun s5 wx => s5 = .pointer (some ⟨W1.heap.size, 0, none⟩) ∧ Picked W1 P W1.heap.size wx)
  case first =>
    have hd : DkAt w0 W1.drew db P L (.slice (some ⟨gk, off, none⟩) L.length cl) K vk N := H1.out.later ⟨rfl, rfl, rfl, Nat.le_refl _, fun _ _ => rfl⟩
    have sq : (fun X : World => X.heap[db]? = some (.cells #[.slice (some ⟨gk, off, none⟩) L.length cl, vk] 28 (0, 0)) ∧ X.heap[bo]? = some (.cells #[.int .i64 2, .int .i64 on, .int .i64 n, .int .i64 x] 39 (0, 0)) ∧ X.heap[gk]? = W1.drew.heap[gk]?) W1.drew := ⟨hd.box, HXO.out, rfl⟩
    have HD := hideR hd
    clear hd
    refine wp_region_held_drew (S := (fun X : World => X.heap[db]? = some (.cells #[.slice (some ⟨gk, off, none⟩) L.length cl, vk] 28 (0, 0)) ∧ X.heap[bo]? = some (.cells #[.int .i64 2, .int .i64 on, .int .i64 n, .int .i64 x] 39 (0, 0)) ∧ X.heap[gk]? = W1.drew.heap[gk]?)) mixed sq (fun _ => ?_)
    refine H_take (i := 0) (v := .pointer (some ⟨db, 0, none⟩)) (some 12) rfl rfl (by kernel_rfl) (by kernel_rfl) (by kernel_rfl) (fun _ _ _ h => h) rfl (fun X hX => ?_) sq ?_
    · simp [go_sem]
    simp only [Act.put, List.setIfInBounds_toArray, List.set_cons_zero, List.set_cons_succ]
    refine H_take (i := 1) (v := .pointer (some ⟨db, 0, none⟩)) (some 13) rfl rfl (by kernel_rfl) (by kernel_rfl) (by kernel_rfl) (fun _ _ _ h => h) rfl (fun X hX => ?_) sq ?_
    · simp [go_sem]
    simp only [Act.put, List.setIfInBounds_toArray, List.set_cons_zero, List.set_cons_succ]
    refine H_take (i := 2) (v := .pointer (some ⟨db, 0, none⟩)) (some 14) rfl rfl (by kernel_rfl) (by kernel_rfl) (by kernel_rfl) (fun _ _ _ h => h) rfl (fun X hX => ?_) sq ?_
    · simp [go_sem]
    simp only [Act.put, List.setIfInBounds_toArray, List.set_cons_zero, List.set_cons_succ]
    refine H_take (i := 3) (v := .slice (some ⟨gk, off, none⟩) L.length cl) (some 15) rfl rfl (by kernel_rfl) (by kernel_rfl) (by kernel_rfl) (fun _ _ _ h => h) rfl (fun X hX => ?_) sq ?_
    · exact run_load1 rfl rfl Try.isAgg25 (by simp only [World.cell?, hX.1]; simp)
    simp only [Act.put, List.setIfInBounds_toArray, List.set_cons_zero, List.set_cons_succ]
    refine H_take (i := 4) (v := .pointer (some ⟨bo, 1, none⟩)) (some 16) rfl rfl (by kernel_rfl) (by kernel_rfl) (by kernel_rfl) (fun _ _ _ h => h) rfl (fun X hX => ?_) sq ?_
    · simp [go_sem]
    simp only [Act.put, List.setIfInBounds_toArray, List.set_cons_zero, List.set_cons_succ]
    refine H_take (i := 5) (v := .int .i64 on) (some 17) rfl rfl (by kernel_rfl) (by kernel_rfl) (by kernel_rfl) (fun _ _ _ h => h) rfl (fun X hX => ?_) sq ?_
    · simp [go_sem, World.cell?, hX.2.1]
    simp only [Act.put, List.setIfInBounds_toArray, List.set_cons_zero, List.set_cons_succ]
    refine H_take (i := 6) (v := .pointer (some ⟨db, 0, none⟩)) (some 18) rfl rfl (by kernel_rfl) (by kernel_rfl) (by kernel_rfl) (fun _ _ _ h => h) rfl (fun X hX => ?_) sq ?_
    · simp [go_sem]
    simp only [Act.put, List.setIfInBounds_toArray, List.set_cons_zero, List.set_cons_succ]
    refine H_take (i := 7) (v := .pointer (some ⟨db, 0, none⟩)) (some 19) rfl rfl (by kernel_rfl) (by kernel_rfl) (by kernel_rfl) (fun _ _ _ h => h) rfl (fun X hX => ?_) sq ?_
    · simp [go_sem]
    simp only [Act.put, List.setIfInBounds_toArray, List.set_cons_zero, List.set_cons_succ]
    refine H_take (i := 8) (v := .pointer (some ⟨db, 0, none⟩)) (some 20) rfl rfl (by kernel_rfl) (by kernel_rfl) (by kernel_rfl) (fun _ _ _ h => h) rfl (fun X hX => ?_) sq ?_
    · simp [go_sem]
    simp only [Act.put, List.setIfInBounds_toArray, List.set_cons_zero, List.set_cons_succ]
    refine H_take (i := 9) (v := .slice (some ⟨gk, off, none⟩) L.length cl) (some 21) rfl rfl (by kernel_rfl) (by kernel_rfl) (by kernel_rfl) (fun _ _ _ h => h) rfl (fun X hX => ?_) sq ?_
    · exact run_load1 rfl rfl Try.isAgg25 (by simp only [World.cell?, hX.1]; simp)
    simp only [Act.put, List.setIfInBounds_toArray, List.set_cons_zero, List.set_cons_succ]
    refine H_take (i := 10) (v := .int .i64 (L.length : Int)) (some 22) rfl rfl (by kernel_rfl) (by kernel_rfl) (by kernel_rfl) (fun _ _ _ h => h) rfl (fun X hX => ?_) sq ?_
    · simp [go_sem]
    simp only [Act.put, List.setIfInBounds_toArray, List.set_cons_zero, List.set_cons_succ]
    refine wpAnyH_all (rs := [11, 14]) (by kernel_rfl) (by decide) (fun j hj => ?_)
    have hj2 : j = 11 ∨ j = 14 := by simpa using hj
    rcases hj2 with rfl | rfl
    · refine D_call (f := 16) (args := #[.int .i64 on, .int .i64 (L.length : Int)]) (some 23) rfl rfl rfl (by simp [go_sem]) ((pick_any W1.drew on L.length HB.out.1 hL0 (by omega)).mono ?_)
      rintro e W' ⟨⟨r, hr, rfl⟩, rfl⟩
      refine ⟨_, rfl, sq, ?_⟩
      simp only [Act.put, List.setIfInBounds_toArray, List.set_cons_zero, List.set_cons_succ]
      obtain ⟨y, hy⟩ : ∃ y, L[r]? = some y := ⟨_, List.getElem?_eq_getElem hr⟩
      obtain ⟨gk', off', eg, _, _, _, hall⟩ := HD.out.rl.range (j := r) (x := lval y) (by simp [hy])
      simp only [Option.some.injEq, Addr.mk.injEq, and_true] at eg
      obtain ⟨rfl, rfl⟩ := eg
      have ri : (r : Int) < (L.length : Int) := by omega
      refine H_take (i := 12) (v := .pointer (some ⟨gk, off + 2 * r, none⟩)) (some 24) rfl rfl (by kernel_rfl) (by kernel_rfl) (by kernel_rfl) (fun _ _ _ h => h) rfl (fun X hX => ?_) sq ?_
      · simp [go_sem, ri]
      simp only [Act.put, List.setIfInBounds_toArray, List.set_cons_zero, List.set_cons_succ]
      refine H_take (i := 13) (v := .agg #[.pointer (some ⟨y.1, 0, none⟩), .pointer (some ⟨y.2.1, 0, none⟩)]) (some 25) rfl rfl (by kernel_rfl) (by kernel_rfl) (by kernel_rfl) (fun _ _ _ h => h) rfl (fun X hX => ?_) sq ?_
      · exact run_loadMid rfl rfl (hall X hX.2.2).1 Try.underlying36 rfl rfl
      simp only [Act.put, List.setIfInBounds_toArray, List.set_cons_zero, List.set_cons_succ]
      have bA : Below W1.drew.heap.size W1.drew (W1.drew.alloc (.cells #[.pointer none, .pointer none] 36)) := (Below.refl _ W1.drew).alloc (Nat.le_refl _) _
      have sqA : (fun X : World => X.heap[db]? = some (.cells #[.slice (some ⟨gk, off, none⟩) L.length cl, vk] 28 (0, 0)) ∧ X.heap[bo]? = some (.cells #[.int .i64 2, .int .i64 on, .int .i64 n, .int .i64 x] 39 (0, 0)) ∧ X.heap[gk]? = W1.drew.heap[gk]?) (W1.drew.alloc (.cells #[.pointer none, .pointer none] 36)) := ⟨(bA.block _ (Array.getElem?_eq_some_iff.1 sq.1).1).trans sq.1, (bA.block _ (Array.getElem?_eq_some_iff.1 sq.2.1).1).trans sq.2.1, bA.block gk HG.out⟩
      clear bA
      refine H_value (i := 14) (v := .pointer (some ⟨W1.heap.size, 0, none⟩)) (w' := (W1.drew.alloc (.cells #[.pointer none, .pointer none] 36))) (some 5) rfl rfl (by kernel_rfl) rfl (run_allocP rfl) sqA ?_
      simp only [Act.put, List.setIfInBounds_toArray, List.set_cons_zero, List.set_cons_succ]
      obtain ⟨bN, xN⟩ := setRow_newQ W1.drew #[.pointer none, .pointer none] #[.pointer (some ⟨y.1, 0, none⟩), .pointer (some ⟨y.2.1, 0, none⟩)] 36
      have sqN : (fun X : World => X.heap[db]? = some (.cells #[.slice (some ⟨gk, off, none⟩) L.length cl, vk] 28 (0, 0)) ∧ X.heap[bo]? = some (.cells #[.int .i64 2, .int .i64 on, .int .i64 n, .int .i64 x] 39 (0, 0)) ∧ X.heap[gk]? = W1.drew.heap[gk]?) ((W1.drew.alloc (.cells #[.pointer none, .pointer none] 36)).setRow W1.heap.size #[.pointer (some ⟨y.1, 0, none⟩), .pointer (some ⟨y.2.1, 0, none⟩)]) := ⟨(bN.block _ (Array.getElem?_eq_some_iff.1 sq.1).1).trans sq.1, (bN.block _ (Array.getElem?_eq_some_iff.1 sq.2.1).1).trans sq.2.1, bN.block gk HG.out⟩
      refine H_skip (i := 15) (w' := (W1.drew.alloc (.cells #[.pointer none, .pointer none] 36)).setRow W1.heap.size #[.pointer (some ⟨y.1, 0, none⟩), .pointer (some ⟨y.2.1, 0, none⟩)]) rfl rfl (by kernel_rfl) rfl (run_storeRow rfl W1.heap.size #[.pointer (some ⟨y.1, 0, none⟩), .pointer (some ⟨y.2.1, 0, none⟩)] rfl rfl 36 #[.pointer none, .pointer none] (heap_alloc_new W1.drew _) rfl rfl (by simp [Value.oneCell'])) sqN ?_
      refine wpAnyH_done (by kernel_rfl) ?_ _
      have hpk : Picked W1 P W1.heap.size ((W1.drew.alloc (.cells #[.pointer none, .pointer none] 36)).setRow W1.heap.size #[.pointer (some ⟨y.1, 0, none⟩), .pointer (some ⟨y.2.1, 0, none⟩)]) := Picked.mk' ⟨bN.1, bN.2, bN.3, bN.4, bN.5⟩ (H1.out.il y (List.mem_of_getElem? hy)) xN
      clear sqN xN bN hall ri hy hr sq
      go_wp2_with fail
      go_meet
      exact ⟨rfl, hpk⟩
    · have bA : Below W1.drew.heap.size W1.drew (W1.drew.alloc (.cells #[.pointer none, .pointer none] 36)) := (Below.refl _ W1.drew).alloc (Nat.le_refl _) _
      have sqA : (fun X : World => X.heap[db]? = some (.cells #[.slice (some ⟨gk, off, none⟩) L.length cl, vk] 28 (0, 0)) ∧ X.heap[bo]? = some (.cells #[.int .i64 2, .int .i64 on, .int .i64 n, .int .i64 x] 39 (0, 0)) ∧ X.heap[gk]? = W1.drew.heap[gk]?) (W1.drew.alloc (.cells #[.pointer none, .pointer none] 36)) := ⟨(bA.block _ (Array.getElem?_eq_some_iff.1 sq.1).1).trans sq.1, (bA.block _ (Array.getElem?_eq_some_iff.1 sq.2.1).1).trans sq.2.1, bA.block gk HG.out⟩
      clear bA
      refine D_value (v := .pointer (some ⟨W1.heap.size, 0, none⟩)) (w' := (W1.drew.alloc (.cells #[.pointer none, .pointer none] 36))) (some 5) rfl rfl rfl (run_allocP rfl) ⟨sqA, ?_⟩
      simp only [Act.put, List.setIfInBounds_toArray, List.set_cons_zero, List.set_cons_succ]
      refine H_call (i := 11) (f := 16) (args := #[.int .i64 on, .int .i64 (L.length : Int)]) (some 23) rfl rfl (by kernel_rfl) rfl (by simp [go_sem]) ((pick_any (W1.drew.alloc (.cells #[.pointer none, .pointer none] 36)) on L.length HB.out.1 hL0 (by omega)).mono ?_)
      rintro e W' ⟨⟨r, hr, rfl⟩, hw'⟩
      subst hw'
      refine ⟨_, rfl, sqA, ?_⟩
      simp only [Act.put, List.setIfInBounds_toArray, List.set_cons_zero, List.set_cons_succ]
      obtain ⟨y, hy⟩ : ∃ y, L[r]? = some y := ⟨_, List.getElem?_eq_getElem hr⟩
      obtain ⟨gk', off', eg, _, _, _, hall⟩ := HD.out.rl.range (j := r) (x := lval y) (by simp [hy])
      simp only [Option.some.injEq, Addr.mk.injEq, and_true] at eg
      obtain ⟨rfl, rfl⟩ := eg
      have ri : (r : Int) < (L.length : Int) := by omega
      refine H_take (i := 12) (v := .pointer (some ⟨gk, off + 2 * r, none⟩)) (some 24) rfl rfl (by kernel_rfl) (by kernel_rfl) (by kernel_rfl) (fun _ _ _ h => h) rfl (fun X hX => ?_) sqA ?_
      · simp [go_sem, ri]
      simp only [Act.put, List.setIfInBounds_toArray, List.set_cons_zero, List.set_cons_succ]
      refine H_take (i := 13) (v := .agg #[.pointer (some ⟨y.1, 0, none⟩), .pointer (some ⟨y.2.1, 0, none⟩)]) (some 25) rfl rfl (by kernel_rfl) (by kernel_rfl) (by kernel_rfl) (fun _ _ _ h => h) rfl (fun X hX => ?_) sqA ?_
      · exact run_loadMid rfl rfl (hall X hX.2.2).1 Try.underlying36 rfl rfl
      simp only [Act.put, List.setIfInBounds_toArray, List.set_cons_zero, List.set_cons_succ]
      obtain ⟨bN, xN⟩ := setRow_newQ W1.drew #[.pointer none, .pointer none] #[.pointer (some ⟨y.1, 0, none⟩), .pointer (some ⟨y.2.1, 0, none⟩)] 36
      have sqN : (fun X : World => X.heap[db]? = some (.cells #[.slice (some ⟨gk, off, none⟩) L.length cl, vk] 28 (0, 0)) ∧ X.heap[bo]? = some (.cells #[.int .i64 2, .int .i64 on, .int .i64 n, .int .i64 x] 39 (0, 0)) ∧ X.heap[gk]? = W1.drew.heap[gk]?) ((W1.drew.alloc (.cells #[.pointer none, .pointer none] 36)).setRow W1.heap.size #[.pointer (some ⟨y.1, 0, none⟩), .pointer (some ⟨y.2.1, 0, none⟩)]) := ⟨(bN.block _ (Array.getElem?_eq_some_iff.1 sq.1).1).trans sq.1, (bN.block _ (Array.getElem?_eq_some_iff.1 sq.2.1).1).trans sq.2.1, bN.block gk HG.out⟩
      refine H_skip (i := 15) (w' := (W1.drew.alloc (.cells #[.pointer none, .pointer none] 36)).setRow W1.heap.size #[.pointer (some ⟨y.1, 0, none⟩), .pointer (some ⟨y.2.1, 0, none⟩)]) rfl rfl (by kernel_rfl) rfl (run_storeRow rfl W1.heap.size #[.pointer (some ⟨y.1, 0, none⟩), .pointer (some ⟨y.2.1, 0, none⟩)] rfl rfl 36 #[.pointer none, .pointer none] (heap_alloc_new W1.drew _) rfl rfl (by simp [Value.oneCell'])) sqN ?_
      refine wpAnyH_done (by kernel_rfl) ?_ _
      have hpk : Picked W1 P W1.heap.size ((W1.drew.alloc (.cells #[.pointer none, .pointer none] 36)).setRow W1.heap.size #[.pointer (some ⟨y.1, 0, none⟩), .pointer (some ⟨y.2.1, 0, none⟩)]) := Picked.mk' ⟨bN.1, bN.2, bN.3, bN.4, bN.5⟩ (H1.out.il y (List.mem_of_getElem? hy)) xN
      clear sqN xN bN hall ri hy hr sq
      go_wp2_with fail
      go_meet
      exact ⟨rfl, hpk⟩
  case rest =>
    obtain ⟨rfl, hpk⟩ := hcut
    obtain ⟨b2, i, p, hi, xp⟩ := hpk
    obtain ⟨bp, hbp⟩ : ∃ bp, bp = W1.heap.size := ⟨_, rfl⟩
    rw [← hbp] at xp ⊢
    clear hbp
    have xo := (b2.block _ (Array.getElem?_eq_some_iff.1 HXO.out).1).trans HXO.out
    have d2 := H1.out.later b2
    have e2 := d2.prs.each i p hi
    have few := d2.prs.few i p hi
    have o0 : wc.cell? ⟨bo, 0, none⟩ = some (.int .i64 2) := by simp only [World.cell?, xo]; simp
    have o2 : wc.cell? ⟨bo, 2, none⟩ = some (.int .i64 n) := by simp only [World.cell?, xo]; simp
    have o3 : wc.cell? ⟨bo, 3, none⟩ = some (.int .i64 x) := by simp only [World.cell?, xo]; simp
    have p0 : wc.cell? ⟨bp, 0, none⟩ = some (.pointer (some ⟨p.qb, 0, none⟩)) := by simp only [World.cell?, xp]; simp
    have p1 : wc.cell? ⟨bp, 1, none⟩ = some (.pointer (some ⟨p.rb, 0, none⟩)) := by simp only [World.cell?, xp]; simp
    have D2 := hideR d2
    have E2 := hideR e2
    have HI := hideR hi
    have HF := hideR few
    have HXP := hideR (And.intro xp xo)
    clear d2 e2 hi few xp xo b2
    have FI := hideR (firstI wc p.qb p.mb p.g p.R E2.out.q E2.out.al.ints)
    obtain ⟨at2, ct2, evt⟩ := E2.out.r.rt.form
    obtain ⟨ah2, ch2, evh⟩ := E2.out.r.rh.form
    rw [E2.out.al.lenT] at evt
    rw [E2.out.al.lenH] at evh
    have HE := hideR (And.intro evt evh)
    clear evt evh
    go_upto_region 6 with fail
    clear o0 o2 o3 p1
    go_wp2_with fail
    refine FI.out.mono ?_
    rintro e W5 ⟨rfl, b5⟩
    have d5 := D2.out.later b5
    have e5 := E2.out.below b5
    have xp5 := (b5.block _ (Array.getElem?_eq_some_iff.1 HXP.out.1).1).trans HXP.out.1
    have p1 : W5.cell? ⟨bp, 1, none⟩ = some (.pointer (some ⟨p.rb, 0, none⟩)) := by simp only [World.cell?, xp5]; simp
    have xr := e5.r.box
    have r0 : W5.cell? ⟨p.rb, 0, none⟩ = some (.slice at2 p.R.length ct2) := by rw [← HE.out.1]; simp only [World.cell?, xr]; simp
    have r1 : W5.cell? ⟨p.rb, 1, none⟩ = some (.slice ah2 p.R.length ch2) := by rw [← HE.out.2]; simp only [World.cell?, xr]; simp
    have rt := e5.r.rt
    have rh := e5.r.rh
    rw [HE.out.1] at rt
    rw [HE.out.2] at rh
    have D5 := hideR d5
    have hal := e5.al
    clear d5 e5 b5 xp5 xr p0
    generalize hR : p.R = RR at hal r0 r1 rt rh ⊢
    have HR := hideR hR
    clear hR
    cases RR with
    | nil =>
      clear hal rt rh
      simp only [List.length_nil] at r0 r1
      show _
      unfold firstOfI
      go_wp2_with fail
      go_ret
      exact ⟨rfl, DkN.mk' (D5.out.mono (Nat.le_succ N)) HKL.out.1 HKL.out.2⟩
    | cons r R2 =>
      obtain ⟨hT, y, hH, hv⟩ := hal.at (i := 0) (x := r) rfl
      obtain ⟨gt, et, y1⟩ := rt.cell hT
      obtain ⟨gh, eh, y2⟩ := rh.cell hH
      subst et eh
      obtain ⟨rb, rtk, rv⟩ := r
      simp only [] at hv hT y1
      subst hv
      clear hal rt rh hT hH
      generalize hm : (Stand.mk rb rtk (.int .i64 y) :: R2).length = m at r0 r1
      have hm0 : 0 < m := by rw [← hm]; simp
      have hm1 : (0 : Int) < (m : Int) := by omega
      have hm2 : ((m : Int) == 0) = false := by simp; omega
      have hm3 : ¬ m = 0 := by omega
      clear hm
      unfold firstOfI
      go_wp2_with fail
      go_ret
      exact ⟨rfl, DkN.mk' (D5.out.mono (Nat.le_succ N)) HKL.out.1 HKL.out.2⟩
end Go.Proofs.Ytccpaapbgdpghaa

namespace Go.Proofs.Ytccpaapbgdpghaa
open Go.RowKit

set_option maxHeartbeats 8000000 in
set_option maxRecDepth 1000000 in
theorem step3 (w0 w : World) (db N : Nat) (on n x : Int) (h0 : DkN w0 db N w) (hN : N ≤ 1048576) (hon : -9223372036854775808 ≤ on ∧ on ≤ 9223372036854775807) (hn : -9223372036854775808 ≤ n ∧ n ≤ 9223372036854775807) (hx : -9223372036854775808 ≤ x ∧ x ≤ 9223372036854775807) :
    Calls Try.prog 6 #[.pointer (some ⟨db, 0, none⟩), .agg #[.int .i64 3, .int .i64 on, .int .i64 n, .int .i64 x]] w fun e w' => e = .returned (.bool true) ∧ DkN w0 db (N + 1) w' := by
  obtain ⟨P, L, vl, K, vk, h, hL, hK⟩ := h0
  have hL0 : 0 < L.length := by cases L with | nil => exact absurd rfl hL | cons y L => simp
  obtain ⟨W1, hW1⟩ : ∃ W1, W1 = w.alloc (.cells #[.int .i64 3, .int .i64 on, .int .i64 n, .int .i64 x] 39) := ⟨_, rfl⟩
  have b1 : Below w.heap.size w W1 := by rw [hW1]; exact (Below.refl _ w).alloc (Nat.le_refl _) _
  obtain ⟨bo, hbo⟩ : ∃ bo, bo = w.heap.size := ⟨_, rfl⟩
  have xo1 : W1.heap[bo]? = some (.cells #[.int .i64 3, .int .i64 on, .int .i64 n, .int .i64 x] 39 (0, 0)) := by rw [hW1, hbo]; exact heap_alloc_new w _
  have h1 := h.later b1
  obtain ⟨al, cl, hvl⟩ := h1.rl.form
  rw [List.length_map] at hvl
  subst hvl
  obtain ⟨gk, off, rfl, hgk, _⟩ := h1.rl.range (j := 0) (x := lval (L[0]'hL0)) (by rw [List.getElem?_map, List.getElem?_eq_getElem hL0]; rfl)
  have H1 := hideR h1
  have HBO := hideR (And.intro hW1 hbo)
  have HG := hideR hgk
  have HXO := hideR xo1
  have HKL := hideR (And.intro hL hK)
  have HB := hideR (And.intro hon (And.intro hn hx))
  have hL4 := h1.cl
  clear h h1 hW1 hbo hgk xo1 b1 hL hK hon hn hx
  go_enter Try.func6, Try.ntmps6
  go_upto_region 1 with fail
  rw [← HBO.out.1, ← HBO.out.2]
  go_cut [5] from 12 to 25 (fun s5 wx => s5 = .pointer (some ⟨W1.heap.size, 0, none⟩) ∧ Picked W1 P W1.heap.size wx)
  case first =>
    have hd : DkAt w0 W1.drew db P L (.slice (some ⟨gk, off, none⟩) L.length cl) K vk N := H1.out.later ⟨rfl, rfl, rfl, Nat.le_refl _, fun _ _ => rfl⟩
    have sq : (fun X : World => X.heap[db]? = some (.cells #[.slice (some ⟨gk, off, none⟩) L.length cl, vk] 28 (0, 0)) ∧ X.heap[bo]? = some (.cells #[.int .i64 3, .int .i64 on, .int .i64 n, .int .i64 x] 39 (0, 0)) ∧ X.heap[gk]? = W1.drew.heap[gk]?) W1.drew := ⟨hd.box, HXO.out, rfl⟩
    have HD := hideR hd
    clear hd
    refine wp_region_held_drew (S := (fun X : World => X.heap[db]? = some (.cells #[.slice (some ⟨gk, off, none⟩) L.length cl, vk] 28 (0, 0)) ∧ X.heap[bo]? = some (.cells #[.int .i64 3, .int .i64 on, .int .i64 n, .int .i64 x] 39 (0, 0)) ∧ X.heap[gk]? = W1.drew.heap[gk]?)) mixed sq (fun _ => ?_)
    refine H_take (i := 0) (v := .pointer (some ⟨db, 0, none⟩)) (some 12) rfl rfl (by kernel_rfl) (by kernel_rfl) (by kernel_rfl) (fun _ _ _ h => h) rfl (fun X hX => ?_) sq ?_
    · simp [go_sem]
    simp only [Act.put, List.setIfInBounds_toArray, List.set_cons_zero, List.set_cons_succ]
    refine H_take (i := 1) (v := .pointer (some ⟨db, 0, none⟩)) (some 13) rfl rfl (by kernel_rfl) (by kernel_rfl) (by kernel_rfl) (fun _ _ _ h => h) rfl (fun X hX => ?_) sq ?_
    · simp [go_sem]
    simp only [Act.put, List.setIfInBounds_toArray, List.set_cons_zero, List.set_cons_succ]
    refine H_take (i := 2) (v := .pointer (some ⟨db, 0, none⟩)) (some 14) rfl rfl (by kernel_rfl) (by kernel_rfl) (by kernel_rfl) (fun _ _ _ h => h) rfl (fun X hX => ?_) sq ?_
    · simp [go_sem]
    simp only [Act.put, List.setIfInBounds_toArray, List.set_cons_zero, List.set_cons_succ]
    refine H_take (i := 3) (v := .slice (some ⟨gk, off, none⟩) L.length cl) (some 15) rfl rfl (by kernel_rfl) (by kernel_rfl) (by kernel_rfl) (fun _ _ _ h => h) rfl (fun X hX => ?_) sq ?_
    · exact run_load1 rfl rfl Try.isAgg25 (by simp only [World.cell?, hX.1]; simp)
    simp only [Act.put, List.setIfInBounds_toArray, List.set_cons_zero, List.set_cons_succ]
    refine H_take (i := 4) (v := .pointer (some ⟨bo, 1, none⟩)) (some 16) rfl rfl (by kernel_rfl) (by kernel_rfl) (by kernel_rfl) (fun _ _ _ h => h) rfl (fun X hX => ?_) sq ?_
    · simp [go_sem]
    simp only [Act.put, List.setIfInBounds_toArray, List.set_cons_zero, List.set_cons_succ]
    refine H_take (i := 5) (v := .int .i64 on) (some 17) rfl rfl (by kernel_rfl) (by kernel_rfl) (by kernel_rfl) (fun _ _ _ h => h) rfl (fun X hX => ?_) sq ?_
    · simp [go_sem, World.cell?, hX.2.1]
    simp only [Act.put, List.setIfInBounds_toArray, List.set_cons_zero, List.set_cons_succ]
    refine H_take (i := 6) (v := .pointer (some ⟨db, 0, none⟩)) (some 18) rfl rfl (by kernel_rfl) (by kernel_rfl) (by kernel_rfl) (fun _ _ _ h => h) rfl (fun X hX => ?_) sq ?_
    · simp [go_sem]
    simp only [Act.put, List.setIfInBounds_toArray, List.set_cons_zero, List.set_cons_succ]
    refine H_take (i := 7) (v := .pointer (some ⟨db, 0, none⟩)) (some 19) rfl rfl (by kernel_rfl) (by kernel_rfl) (by kernel_rfl) (fun _ _ _ h => h) rfl (fun X hX => ?_) sq ?_
    · simp [go_sem]
    simp only [Act.put, List.setIfInBounds_toArray, List.set_cons_zero, List.set_cons_succ]
    refine H_take (i := 8) (v := .pointer (some ⟨db, 0, none⟩)) (some 20) rfl rfl (by kernel_rfl) (by kernel_rfl) (by kernel_rfl) (fun _ _ _ h => h) rfl (fun X hX => ?_) sq ?_
    · simp [go_sem]
    simp only [Act.put, List.setIfInBounds_toArray, List.set_cons_zero, List.set_cons_succ]
    refine H_take (i := 9) (v := .slice (some ⟨gk, off, none⟩) L.length cl) (some 21) rfl rfl (by kernel_rfl) (by kernel_rfl) (by kernel_rfl) (fun _ _ _ h => h) rfl (fun X hX => ?_) sq ?_
    · exact run_load1 rfl rfl Try.isAgg25 (by simp only [World.cell?, hX.1]; simp)
    simp only [Act.put, List.setIfInBounds_toArray, List.set_cons_zero, List.set_cons_succ]
    refine H_take (i := 10) (v := .int .i64 (L.length : Int)) (some 22) rfl rfl (by kernel_rfl) (by kernel_rfl) (by kernel_rfl) (fun _ _ _ h => h) rfl (fun X hX => ?_) sq ?_
    · simp [go_sem]
    simp only [Act.put, List.setIfInBounds_toArray, List.set_cons_zero, List.set_cons_succ]
    refine wpAnyH_all (rs := [11, 14]) (by kernel_rfl) (by decide) (fun j hj => ?_)
    have hj2 : j = 11 ∨ j = 14 := by simpa using hj
    rcases hj2 with rfl | rfl
    · refine D_call (f := 16) (args := #[.int .i64 on, .int .i64 (L.length : Int)]) (some 23) rfl rfl rfl (by simp [go_sem]) ((pick_any W1.drew on L.length HB.out.1 hL0 (by omega)).mono ?_)
      rintro e W' ⟨⟨r, hr, rfl⟩, rfl⟩
      refine ⟨_, rfl, sq, ?_⟩
      simp only [Act.put, List.setIfInBounds_toArray, List.set_cons_zero, List.set_cons_succ]
      obtain ⟨y, hy⟩ : ∃ y, L[r]? = some y := ⟨_, List.getElem?_eq_getElem hr⟩
      obtain ⟨gk', off', eg, _, _, _, hall⟩ := HD.out.rl.range (j := r) (x := lval y) (by simp [hy])
      simp only [Option.some.injEq, Addr.mk.injEq, and_true] at eg
      obtain ⟨rfl, rfl⟩ := eg
      have ri : (r : Int) < (L.length : Int) := by omega
      refine H_take (i := 12) (v := .pointer (some ⟨gk, off + 2 * r, none⟩)) (some 24) rfl rfl (by kernel_rfl) (by kernel_rfl) (by kernel_rfl) (fun _ _ _ h => h) rfl (fun X hX => ?_) sq ?_
      · simp [go_sem, ri]
      simp only [Act.put, List.setIfInBounds_toArray, List.set_cons_zero, List.set_cons_succ]
      refine H_take (i := 13) (v := .agg #[.pointer (some ⟨y.1, 0, none⟩), .pointer (some ⟨y.2.1, 0, none⟩)]) (some 25) rfl rfl (by kernel_rfl) (by kernel_rfl) (by kernel_rfl) (fun _ _ _ h => h) rfl (fun X hX => ?_) sq ?_
      · exact run_loadMid rfl rfl (hall X hX.2.2).1 Try.underlying36 rfl rfl
      simp only [Act.put, List.setIfInBounds_toArray, List.set_cons_zero, List.set_cons_succ]
      have bA : Below W1.drew.heap.size W1.drew (W1.drew.alloc (.cells #[.pointer none, .pointer none] 36)) := (Below.refl _ W1.drew).alloc (Nat.le_refl _) _
      have sqA : (fun X : World => X.heap[db]? = some (.cells #[.slice (some ⟨gk, off, none⟩) L.length cl, vk] 28 (0, 0)) ∧ X.heap[bo]? = some (.cells #[.int .i64 3, .int .i64 on, .int .i64 n, .int .i64 x] 39 (0, 0)) ∧ X.heap[gk]? = W1.drew.heap[gk]?) (W1.drew.alloc (.cells #[.pointer none, .pointer none] 36)) := ⟨(bA.block _ (Array.getElem?_eq_some_iff.1 sq.1).1).trans sq.1, (bA.block _ (Array.getElem?_eq_some_iff.1 sq.2.1).1).trans sq.2.1, bA.block gk HG.out⟩
      clear bA
      refine H_value (i := 14) (v := .pointer (some ⟨W1.heap.size, 0, none⟩)) (w' := (W1.drew.alloc (.cells #[.pointer none, .pointer none] 36))) (some 5) rfl rfl (by kernel_rfl) rfl (run_allocP rfl) sqA ?_
      simp only [Act.put, List.setIfInBounds_toArray, List.set_cons_zero, List.set_cons_succ]
      obtain ⟨bN, xN⟩ := setRow_newQ W1.drew #[.pointer none, .pointer none] #[.pointer (some ⟨y.1, 0, none⟩), .pointer (some ⟨y.2.1, 0, none⟩)] 36
      have sqN : (fun X : World => X.heap[db]? = some (.cells #[.slice (some ⟨gk, off, none⟩) L.length cl, vk] 28 (0, 0)) ∧ X.heap[bo]? = some (.cells #[.int .i64 3, .int .i64 on, .int .i64 n, .int .i64 x] 39 (0, 0)) ∧ X.heap[gk]? = W1.drew.heap[gk]?) ((W1.drew.alloc (.cells #[.pointer none, .pointer none] 36)).setRow W1.heap.size #[.pointer (some ⟨y.1, 0, none⟩), .pointer (some ⟨y.2.1, 0, none⟩)]) := ⟨(bN.block _ (Array.getElem?_eq_some_iff.1 sq.1).1).trans sq.1, (bN.block _ (Array.getElem?_eq_some_iff.1 sq.2.1).1).trans sq.2.1, bN.block gk HG.out⟩
      refine H_skip (i := 15) (w' := (W1.drew.alloc (.cells #[.pointer none, .pointer none] 36)).setRow W1.heap.size #[.pointer (some ⟨y.1, 0, none⟩), .pointer (some ⟨y.2.1, 0, none⟩)]) rfl rfl (by kernel_rfl) rfl (run_storeRow rfl W1.heap.size #[.pointer (some ⟨y.1, 0, none⟩), .pointer (some ⟨y.2.1, 0, none⟩)] rfl rfl 36 #[.pointer none, .pointer none] (heap_alloc_new W1.drew _) rfl rfl (by simp [Value.oneCell'])) sqN ?_
      refine wpAnyH_done (by kernel_rfl) ?_ _
      have hpk : Picked W1 P W1.heap.size ((W1.drew.alloc (.cells #[.pointer none, .pointer none] 36)).setRow W1.heap.size #[.pointer (some ⟨y.1, 0, none⟩), .pointer (some ⟨y.2.1, 0, none⟩)]) := Picked.mk' ⟨bN.1, bN.2, bN.3, bN.4, bN.5⟩ (H1.out.il y (List.mem_of_getElem? hy)) xN
      clear sqN xN bN hall ri hy hr sq
      go_wp2_with fail
      go_meet
      exact ⟨rfl, hpk⟩
    · have bA : Below W1.drew.heap.size W1.drew (W1.drew.alloc (.cells #[.pointer none, .pointer none] 36)) := (Below.refl _ W1.drew).alloc (Nat.le_refl _) _
      have sqA : (fun X : World => X.heap[db]? = some (.cells #[.slice (some ⟨gk, off, none⟩) L.length cl, vk] 28 (0, 0)) ∧ X.heap[bo]? = some (.cells #[.int .i64 3, .int .i64 on, .int .i64 n, .int .i64 x] 39 (0, 0)) ∧ X.heap[gk]? = W1.drew.heap[gk]?) (W1.drew.alloc (.cells #[.pointer none, .pointer none] 36)) := ⟨(bA.block _ (Array.getElem?_eq_some_iff.1 sq.1).1).trans sq.1, (bA.block _ (Array.getElem?_eq_some_iff.1 sq.2.1).1).trans sq.2.1, bA.block gk HG.out⟩
      clear bA
      refine D_value (v := .pointer (some ⟨W1.heap.size, 0, none⟩)) (w' := (W1.drew.alloc (.cells #[.pointer none, .pointer none] 36))) (some 5) rfl rfl rfl (run_allocP rfl) ⟨sqA, ?_⟩
      simp only [Act.put, List.setIfInBounds_toArray, List.set_cons_zero, List.set_cons_succ]
      refine H_call (i := 11) (f := 16) (args := #[.int .i64 on, .int .i64 (L.length : Int)]) (some 23) rfl rfl (by kernel_rfl) rfl (by simp [go_sem]) ((pick_any (W1.drew.alloc (.cells #[.pointer none, .pointer none] 36)) on L.length HB.out.1 hL0 (by omega)).mono ?_)
      rintro e W' ⟨⟨r, hr, rfl⟩, hw'⟩
      subst hw'
      refine ⟨_, rfl, sqA, ?_⟩
      simp only [Act.put, List.setIfInBounds_toArray, List.set_cons_zero, List.set_cons_succ]
      obtain ⟨y, hy⟩ : ∃ y, L[r]? = some y := ⟨_, List.getElem?_eq_getElem hr⟩
      obtain ⟨gk', off', eg, _, _, _, hall⟩ := HD.out.rl.range (j := r) (x := lval y) (by simp [hy])
      simp only [Option.some.injEq, Addr.mk.injEq, and_true] at eg
      obtain ⟨rfl, rfl⟩ := eg
      have ri : (r : Int) < (L.length : Int) := by omega
      refine H_take (i := 12) (v := .pointer (some ⟨gk, off + 2 * r, none⟩)) (some 24) rfl rfl (by kernel_rfl) (by kernel_rfl) (by kernel_rfl) (fun _ _ _ h => h) rfl (fun X hX => ?_) sqA ?_
      · simp [go_sem, ri]
      simp only [Act.put, List.setIfInBounds_toArray, List.set_cons_zero, List.set_cons_succ]
      refine H_take (i := 13) (v := .agg #[.pointer (some ⟨y.1, 0, none⟩), .pointer (some ⟨y.2.1, 0, none⟩)]) (some 25) rfl rfl (by kernel_rfl) (by kernel_rfl) (by kernel_rfl) (fun _ _ _ h => h) rfl (fun X hX => ?_) sqA ?_
      · exact run_loadMid rfl rfl (hall X hX.2.2).1 Try.underlying36 rfl rfl
      simp only [Act.put, List.setIfInBounds_toArray, List.set_cons_zero, List.set_cons_succ]
      obtain ⟨bN, xN⟩ := setRow_newQ W1.drew #[.pointer none, .pointer none] #[.pointer (some ⟨y.1, 0, none⟩), .pointer (some ⟨y.2.1, 0, none⟩)] 36
      have sqN : (fun X : World => X.heap[db]? = some (.cells #[.slice (some ⟨gk, off, none⟩) L.length cl, vk] 28 (0, 0)) ∧ X.heap[bo]? = some (.cells #[.int .i64 3, .int .i64 on, .int .i64 n, .int .i64 x] 39 (0, 0)) ∧ X.heap[gk]? = W1.drew.heap[gk]?) ((W1.drew.alloc (.cells #[.pointer none, .pointer none] 36)).setRow W1.heap.size #[.pointer (some ⟨y.1, 0, none⟩), .pointer (some ⟨y.2.1, 0, none⟩)]) := ⟨(bN.block _ (Array.getElem?_eq_some_iff.1 sq.1).1).trans sq.1, (bN.block _ (Array.getElem?_eq_some_iff.1 sq.2.1).1).trans sq.2.1, bN.block gk HG.out⟩
      refine H_skip (i := 15) (w' := (W1.drew.alloc (.cells #[.pointer none, .pointer none] 36)).setRow W1.heap.size #[.pointer (some ⟨y.1, 0, none⟩), .pointer (some ⟨y.2.1, 0, none⟩)]) rfl rfl (by kernel_rfl) rfl (run_storeRow rfl W1.heap.size #[.pointer (some ⟨y.1, 0, none⟩), .pointer (some ⟨y.2.1, 0, none⟩)] rfl rfl 36 #[.pointer none, .pointer none] (heap_alloc_new W1.drew _) rfl rfl (by simp [Value.oneCell'])) sqN ?_
      refine wpAnyH_done (by kernel_rfl) ?_ _
      have hpk : Picked W1 P W1.heap.size ((W1.drew.alloc (.cells #[.pointer none, .pointer none] 36)).setRow W1.heap.size #[.pointer (some ⟨y.1, 0, none⟩), .pointer (some ⟨y.2.1, 0, none⟩)]) := Picked.mk' ⟨bN.1, bN.2, bN.3, bN.4, bN.5⟩ (H1.out.il y (List.mem_of_getElem? hy)) xN
      clear sqN xN bN hall ri hy hr sq
      go_wp2_with fail
      go_meet
      exact ⟨rfl, hpk⟩
  case rest =>
    obtain ⟨rfl, hpk⟩ := hcut
    obtain ⟨b2, i, p, hi, xp⟩ := hpk
    obtain ⟨bp, hbp⟩ : ∃ bp, bp = W1.heap.size := ⟨_, rfl⟩
    rw [← hbp] at xp ⊢
    clear hbp
    have xo := (b2.block _ (Array.getElem?_eq_some_iff.1 HXO.out).1).trans HXO.out
    have d2 := H1.out.later b2
    have e2 := d2.prs.each i p hi
    have few := d2.prs.few i p hi
    have o0 : wc.cell? ⟨bo, 0, none⟩ = some (.int .i64 3) := by simp only [World.cell?, xo]; simp
    have o2 : wc.cell? ⟨bo, 2, none⟩ = some (.int .i64 n) := by simp only [World.cell?, xo]; simp
    have o3 : wc.cell? ⟨bo, 3, none⟩ = some (.int .i64 x) := by simp only [World.cell?, xo]; simp
    have p0 : wc.cell? ⟨bp, 0, none⟩ = some (.pointer (some ⟨p.qb, 0, none⟩)) := by simp only [World.cell?, xp]; simp
    have p1 : wc.cell? ⟨bp, 1, none⟩ = some (.pointer (some ⟨p.rb, 0, none⟩)) := by simp only [World.cell?, xp]; simp
    have D2 := hideR d2
    have E2 := hideR e2
    have HI := hideR hi
    have HF := hideR few
    have HXP := hideR (And.intro xp xo)
    clear d2 e2 hi few xp xo b2
    have hwn : (Lit.int .i64 n).wf = true := WalkArith.wf_i64 HB.out.2.1
    have GI := getI wc p.qb p.mb p.g n p.R E2.out.q hwn E2.out.al.ints
    rw [alike_find E2.out.al n] at GI
    have few := HF.out
    have AI := refAt w0.heap.size wc p.rb p.g n p.vt p.vh p.T p.H E2.out.r (by rw [E2.out.al.lenT]; omega)
    obtain ⟨ah2, ch2, evh⟩ := E2.out.r.rh.form
    rw [E2.out.al.lenH] at evh
    have xr := E2.out.r.box
    have r1 : wc.cell? ⟨p.rb, 1, none⟩ = some (.slice ah2 p.R.length ch2) := by rw [← evh]; simp only [World.cell?, xr]; simp
    have rh := E2.out.r.rh
    rw [evh] at rh
    clear evh xr few hwn
    cases hs : spot p.T n with
    | none =>
      unfold refLeft at GI
      unfold spotI at AI
      rw [hs] at GI AI
      simp only [] at GI AI
      have HGI := hideR GI
      have HAI := hideR AI
      clear GI AI hs rh r1
      go_wp2_with fail
      refine HGI.out.mono ?_
      rintro e W5 ⟨rfl, hw5⟩
      rw [hw5]
      clear hw5 W5
      go_wp2_with fail
      refine HAI.out.mono ?_
      rintro e W5 ⟨rfl, hw5⟩
      rw [hw5]
      clear hw5 W5
      go_wp2_with fail
      go_ret
      exact ⟨rfl, DkN.mk' (D2.out.mono (Nat.le_succ N)) HKL.out.1 HKL.out.2⟩
    | some k =>
      unfold refLeft at GI
      unfold spotI at AI
      rw [hs] at GI AI
      simp only [] at GI AI
      have hkl := spot_lt hs
      rw [E2.out.al.lenT] at hkl
      obtain ⟨y, hy⟩ : ∃ y, p.H[k]? = some y := ⟨_, List.getElem?_eq_getElem (by rw [E2.out.al.lenH]; exact hkl)⟩
      rw [show p.H.getD k 0 = y by rw [List.getD_eq_getElem?_getD, hy]; rfl] at GI
      obtain ⟨gh, eh, y2⟩ := rh.cell hy
      subst eh
      have k1 : (k : Int) < (p.R.length : Int) := by omega
      have k2 : ¬ (k : Int) < 0 := by omega
      have HGI := hideR GI
      have HAI := hideR AI
      clear GI AI hs rh hy
      go_wp2_with fail
      refine HGI.out.mono ?_
      rintro e W5 ⟨rfl, hw5⟩
      rw [hw5]
      clear hw5 W5
      go_wp2_with fail
      refine HAI.out.mono ?_
      rintro e W5 ⟨rfl, hw5⟩
      rw [hw5]
      clear hw5 W5
      go_wp2_with fail
      go_ret
      exact ⟨rfl, DkN.mk' (D2.out.mono (Nat.le_succ N)) HKL.out.1 HKL.out.2⟩
end Go.Proofs.Ytccpaapbgdpghaa
