/-
  The walk of Top, of things that are structs.
-/
import Derived.Test.YtkjjinccnaphpaaSmallCT
namespace Go.Proofs.Ytkjjinccnaphpaa
open Go.RowKit

theorem results_tct {fn : Func} {t p u : Tmp} {ty : TypeId} (h : fn.results = #[.tmp t, .cell p ty, .tmp u]) (tmps : Array Value) (P : Program) (w : World) :
    (results fn tmps).run P w =
      ((asAddr (tmps.getD p undef)).run P w).andThen fun a w₁ => ((loadVar ty a).run P w₁).andThen fun v w₂ => .ok (.tuple #[tmps.getD t undef, v, tmps.getD u undef]) w₂ := by
  simp only [results, h]
  simp [Sem.run_bind, Result.andThen]

set_option maxHeartbeats 4000000 in
set_option maxRecDepth 1000000 in
theorem topT (w : World) (hb mb : Nat) (v : Value) (f : FuncId) (caps : Array Value) (last : Int) (R : List (Int × Int × Int)) (h : HeapAtT w hb v mb f caps last R) :
    Calls Try.prog 14 #[.pointer (some ⟨hb, 0, none⟩)] w fun e w' => e = .returned (topOfT R) ∧ Below w.heap.size w w' := by
  cases R with
  | nil =>
    obtain ⟨av, cv, rfl⟩ : ∃ a c, v = .slice a 0 c := by
      rcases h.row.2 with ⟨rfl, h0⟩ | ⟨rb, cap, cur, rfl, _⟩
      · exact ⟨none, 0, rfl⟩
      · exact ⟨_, _, rfl⟩
    have k1 : w.cell? ⟨hb, 1, none⟩ = some (.slice av 0 cv) := by simp [World.cell?, h.box]
    have hlt := cell_lt k1
    simp only [] at hlt
    clear h
    go_enter Try.func14, Try.ntmps14
    go_wp2_with fail
    go_region
    all_goals (
      go_wp2_with fail
      (try simp only [Exit.inBlock, Exit.then])
      refine bodyPost_ret (v := .tuple #[.int .i64 0, .agg #[.int .i64 0, .int .i64 0], .bool false]) ?_ rfl ?_
      · rw [results_tct rfl]
        go_simp
      · exact ⟨rfl, (((Below.refl _ w).alloc (Nat.le_refl _) _).alloc (by simp) _).drew⟩)
  | cons r R =>
    obtain ⟨rb, cap, cur, rfl, hg, _, _, _, hcur⟩ := h.shape (i := 0) (r := r) rfl
    have k1 : w.cell? ⟨hb, 1, none⟩ = some (.slice (some ⟨rb, 0, none⟩) (r :: R).length cap) := by simp [World.cell?, h.box]
    have hlt := cell_lt k1
    simp only [] at hlt
    have hrl : rb < w.heap.size := (Array.getElem?_eq_some_iff.1 hg).1
    have ca := row_cellT hg hcur (i := 0) (r := r) rfl
    obtain ⟨a1, a2⟩ := r
    have ca0 := ca 0 _ rfl
    have ca1 := ca 1 _ rfl
    have ca2 := ca 2 _ rfl
    simp only [Nat.zero_mul, Nat.zero_add] at ca0 ca1 ca2
    obtain ⟨n, hn⟩ : ∃ n, n = ((a1, a2) :: R).length := ⟨_, rfl⟩
    have hn0 : (0 : Int) < (n : Int) := by rw [hn]; simp only [List.length_cons]; omega
    have hnz : ((n : Int) == 0) = false := by simp; omega
    rw [← hn] at k1
    clear h ca hg hcur hn
    go_enter Try.func14, Try.ntmps14
    go_wp2_with fail
    go_region
    all_goals (
      go_wp2_with fail
      (try simp only [Exit.inBlock, Exit.then])
      refine bodyPost_ret (v := .tuple #[.int .i64 a1, valT a2, .bool true]) ?_ rfl ?_
      · rw [results_tct rfl]
        unfold valT
        go_simp
      · exact ⟨rfl, ((Below.refl _ w).alloc (Nat.le_refl _) _).drew⟩)
end Go.Proofs.Ytkjjinccnaphpaa
