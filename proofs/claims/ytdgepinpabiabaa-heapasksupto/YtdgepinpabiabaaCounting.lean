/-
  The walks of the function that counts, and of 'digits'.
-/
import Derived.Test.YtdgepinpabiabaaRowT
import Derived.Test.YtdgepinpabiabaaCounts
namespace Go.Proofs.Ytdgepinpabiabaa
open Go.RowKit

def cnt (n : Nat) : Int := IntKind.i64.wrap (n : Int)
theorem cnt_next (n : Nat) : IntKind.i64.wrap (cnt n + 1) = cnt (n + 1) := by unfold cnt; rw [IntKind.wrap_i64, IntKind.wrap_i64, IntKind.wrap_i64]; omega
theorem cnt_small {n : Nat} (h : n ≤ 4611686018427387904) : cnt n = n := by unfold cnt; rw [IntKind.wrap_i64]; omega
def counts (cb n : Nat) (w : World) : Prop := w.heap[cb]? = some (.cells #[.int .i64 (cnt n)] 3 (0, 0))
def byRank (x y : Int × Int) : Bool := decide (x.1 < y.1)

set_option maxHeartbeats 2000000 in
set_option maxRecDepth 1000000 in
theorem asked_any (cb n : Nat) (x y : Int × Int) (w : World) (h : counts cb n w) : Calls Try.prog 30 #[valT x, valT y, .pointer (some ⟨cb, 0, none⟩)] w fun e w' => e = .returned (.bool (byRank x y)) ∧ counts cb (n + 1) w' ∧ Kept (fun k => k = cb) w w' := by
  have h : w.heap[cb]? = _ := h
  have c0 : w.cell? ⟨cb, 0, none⟩ = some (.int .i64 (cnt n)) := by simp [World.cell?, h]
  have f0 : w.frozen? ⟨cb, 0, none⟩ = false := by simp [World.frozen?, h]
  have hlt := cell_lt c0
  simp only [] at hlt
  have hn := cnt_next n
  have HH : Hid (w.heap[cb]? = some (.cells #[.int .i64 (cnt n)] 3 (0, 0))) := h
  clear h
  unfold valT
  go_enter Try.func30, Try.ntmps30
  go_wp2_with fail
  go_ret
  obtain ⟨a1, a2⟩ := set_cells HH.out 0 (.int .i64 (cnt (n + 1)))
  have hB : ∀ o1 o2 : Obj, Below (w.setCell ⟨cb, 0, none⟩ (.int .i64 (cnt (n + 1)))).heap.size (w.setCell ⟨cb, 0, none⟩ (.int .i64 (cnt (n + 1)))) (((w.setCell ⟨cb, 0, none⟩ (.int .i64 (cnt (n + 1)))).alloc o1).alloc o2) := fun o1 o2 => ((Below.refl _ _).alloc (Nat.le_refl _) _).alloc (by simp) _
  refine ⟨rfl, ?_, (Kept.ofGrown a2 (fun k e => (Option.some.inj e).symm)).trans (Kept.ofBelow (hB _ _))⟩
  unfold counts
  rw [(hB _ _).block cb (Array.getElem?_eq_some_iff.1 a1).1, a1]
  simp

theorem asked_asks (cb : Nat) : AskerT 30 #[.pointer (some ⟨cb, 0, none⟩)] byRank (fun _ => True) (fun k => k = cb) (fun n w => counts cb n w) where
  enters := enters_of Try.func30 (by kernel_rfl) rfl
  ask := fun n w x y hs _ _ => asked_any cb n x y w hs
  keep := fun n w w' hs _ hk => (hk cb (Array.getElem?_eq_some_iff.1 (show w.heap[cb]? = _ from hs)).1 rfl).trans hs
  old := fun n w k hs hk => by rw [hk]; exact (Array.getElem?_eq_some_iff.1 (show w.heap[cb]? = _ from hs)).1

set_option maxHeartbeats 2000000 in
set_option maxRecDepth 1000000 in
theorem digits_any (m : Nat) (w : World) (hm : m ≤ 4294967296) : Calls Try.prog 31 #[.int .i64 (m : Int)] w fun e w' => e = .returned (.int .i64 ((Nat.log2 m : Int) + 1)) ∧ w' = w := by
  go_enter Try.func31, Try.ntmps31
  go_wp2_with fail
  go_loopg [0, 3] m (fun gk s0 sd wr => ∃ (k d : Nat), s0 = .int .i64 (k : Int) ∧ sd = .int .i64 (d : Int) ∧ k ≤ m ∧ k ≤ gk ∧ d ≤ m + 1 ∧ wr = w ∧ d + Nat.log2 k = Nat.log2 m + 1 ∧ d + k ≤ m + 1)
  case atStart => exact ⟨m, 1, rfl, rfl, Nat.le_refl _, Nat.le_refl _, by omega, rfl, by omega, by omega⟩
  case round =>
    obtain ⟨k, d, rfl, rfl, hk, hgk, hd, hW, hl, hs⟩ := hrel
    have hW := hW.symm
    subst hW
    by_cases h1 : 2 ≤ k
    · have t1 : (1 : Int) < (k : Int) := by omega
      obtain ⟨q, hq⟩ : ∃ q, q = k / 2 := ⟨_, rfl⟩
      have hq2 : (k : Int).tdiv 2 = (q : Int) := by rw [hq]; rfl
      have HL : Hid (d + 1 + Nat.log2 q = Nat.log2 m + 1) := (show _ = _ by have := log2_half k h1; rw [← hq] at this; omega)
      have HQ : Hid (q = k / 2) := hq
      have hqb : (q : Int) ≤ 4294967296 := by omega
      clear hq hl
      go_wp2_with fail
      go_roundg q
      case measure => have := HQ.out; omega
      case rel =>
        have := HQ.out
        exact ⟨q, d + 1, by first | rfl | go_num, by go_num, by omega, Nat.le_refl _, by omega, rfl, HL.out, by omega⟩
    · have t1 : ¬ (1 : Int) < (k : Int) := by omega
      have HL : Hid (d = Nat.log2 m + 1) := (show _ = _ by rw [Nat.log2_def k, if_neg h1] at hl; omega)
      clear hl
      go_wp2_with fail
      go_ret
      exact ⟨by rw [HL.out]; rfl, rfl⟩
end Go.Proofs.Ytdgepinpabiabaa
