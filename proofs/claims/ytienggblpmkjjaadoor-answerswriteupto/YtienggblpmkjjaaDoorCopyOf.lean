/-
  The walk of copyOf.
-/
import Derived.Test.YtienggblpmkjjaaDoorRdr
import Derived.OwnWalk
import Derived.Deep.OwnRows
import Derived.Laws.CopyOwn
namespace Go.Proofs.YtienggblpmkjjaaDoor
open Go.RowKit Go.Sort

theorem made_row (w : World) (n : Nat) : ByteRow (w.alloc (.cells (madeCells #[.int .u8 0] n) 5)) 5 w.heap.size (List.replicate n 0) := by
  refine (heap_alloc_new w _).trans ?_
  congr 2
  apply Array.ext'
  simp [madeCells, u8s, Nat.mod_one, List.map_const']
theorem IsBytes.source {w : World} {a : Option Addr} {c : Nat} {l : List UInt8} (h : IsBytes w a c l) (hn : 0 < l.length) : ∃ ad, a = some ad ∧ ∀ j v, (u8s l)[j]? = some v → w.cell? (ad.add j) = some v := by
  rcases h.2.2 with h0 | ⟨b, o, ha, _, hc⟩
  · rw [h0] at hn; cases hn
  · refine ⟨_, ha, fun j v hv => ?_⟩
    rw [u8s_get] at hv
    cases hx : l[j]? with
    | none => rw [hx] at hv; cases hv
    | some x =>
      rw [hx] at hv
      have := hc j x hx
      simp only [Option.map_some, Option.some.injEq] at hv
      rw [← hv]
      cases j with
      | zero => simpa [Addr.add] using this
      | succ j => simpa [Addr.add] using this
set_option maxHeartbeats 1000000 in
set_option maxRecDepth 1000000 in
theorem copyOf_any (a : Option Addr) (c : Nat) (l : List UInt8) (w : World) (hl : IsBytes w a c l) (hb : l.length ≤ 140737488355000) :
    Calls Tryd.prog 50 #[.slice a l.length c] w fun e w' => ∃ a' c', e = .returned (.slice a' l.length c') ∧ Own w' w.heap.size (.slice a' l.length c') l ∧ Below w.heap.size w w' := by
  obtain ⟨i8, hi, hz0, hz1, hz2⟩ := info_parts info_u8
  have HL := hide hl
  clear hl
  obtain ⟨n, hn⟩ : ∃ n, l.length = n := ⟨_, rfl⟩
  rw [hn] at hb ⊢
  have HN := hide hn
  clear hn
  by_cases h0 : n = 0
  · subst h0
    have hnil : l = [] := List.length_eq_zero_iff.1 HN.out
    have HNIL := hide hnil
    clear hnil
    go_enter Tryd.func50, Tryd.ntmps50
    go_wp2_with fail
    go_ret
    refine ⟨none, 0, rfl, ?_, Below.refl _ _⟩
    rw [HNIL.out]
    exact Own.nil w _
  · have h1 : ((n : Int) == 0) = false := by rw [beq_eq_false_iff_ne]; omega
    go_enter Tryd.func50, Tryd.ntmps50
    go_wp2_with (first
      | (refine wpList_make_row _ rfl (.tmp 8) (.tmp 8) 22 rfl 5 i8 (.int .u8 0) Tryd.underlying22 hi hz0 hz1 rfl .i64 .i64 n rfl rfl (by rw [hz2]; omega) (by omega) ?_)
      | (refine wpList_copy_splice rfl (.tmp 10) (.tmp 11) 22 22 rfl 5 Tryd.underlying22 (by kernel_rfl) _ _ _ _ _ _ rfl rfl w.heap.size 0 _ 5 (made_row w n) (u8s l) (by rw [u8s_length, HN.out]; simp [Nat.min_def]) (fun _ => ⟨rfl, (HL.out.below ((Below.refl _ w).alloc (Nat.le_refl _) _)).source (by rw [HN.out]; have := ‹0 < (u8s l).length›; rw [u8s_length, HN.out] at this; exact this)⟩) (by rw [u8s_length, u8s_length, HN.out]; simp) (u8s_one l) w.heap.size w ((Below.refl _ w).alloc (Nat.le_refl _) _) (Nat.le_refl _) ?_; intro w1 HG1 HB1))
    go_ret
    refine ⟨_, _, rfl, ?_, HB1⟩
    have e : splice (List.replicate n (0 : UInt8)) 0 l = l := by
      unfold splice
      simp [HN.out]
    have hg : w1.heap[w.heap.size]? = some (.cells (u8s l).toArray 5 (0, 0)) := by
      rw [HG1.out, u8s_splice, e]
    refine ⟨by rw [u8s_length]; omega, .inr ⟨w.heap.size, n, _, by rw [HN.out], Nat.le_refl _, hg, by rw [HN.out]; exact Nat.le_refl _, by unfold maxLen; omega, ?_, ?_⟩⟩
    · simp [u8s, HN.out]
    · rw [List.take_of_length_le (by simp [u8s, HN.out])]
end Go.Proofs.YtienggblpmkjjaaDoor
