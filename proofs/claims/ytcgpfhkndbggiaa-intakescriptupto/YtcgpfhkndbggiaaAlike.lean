/-
  The walks of 'same' and 'alike', where they answer true.
-/
import Derived.Test.YtcgpfhkndbggiaaKit
import Derived.Test.YtcgpfhkndbggiaaAt
import Derived.Deep.QuietTactic
import Derived.BigQuiet
namespace Go.Proofs.Ytcgpfhkndbggiaa
open Go.RowKit Go.Lib

set_option maxHeartbeats 1000000 in
set_option maxRecDepth 1000000 in
theorem same_yes (a1 a2 : Option Addr) (c1 c2 : Nat) (l : List UInt8) (w : World) (h1 : IsBytes w a1 c1 l) (h2 : IsBytes w a2 c2 l) :
    Calls Try.prog 33 #[.slice a1 l.length c1, .slice a2 l.length c2] w fun e w' => e = .returned (.bool true) ∧ ∃ n, w' = w.drewN n := by
  obtain ⟨h11, h12, h13⟩ := h1
  obtain ⟨h21, h22, h23⟩ := h2
  unfold maxLen at h12 h22
  have H1 : Hid (l = [] ∨ ∃ b o, a1 = some ⟨b, o, none⟩ ∧ b < w.heap.size ∧ ∀ (j : Nat) x, l[j]? = some x → w.cell? ⟨b, o + j, none⟩ = some (.int .u8 (x.toNat : Int))) := h13
  have H2 : Hid (l = [] ∨ ∃ b o, a2 = some ⟨b, o, none⟩ ∧ b < w.heap.size ∧ ∀ (j : Nat) x, l[j]? = some x → w.cell? ⟨b, o + j, none⟩ = some (.int .u8 (x.toNat : Int))) := h23
  clear h13 h23
  go_enter Try.func33, Try.ntmps33
  go_wp2
  go_loopg [13] l.length (fun gk i wr => ∃ k : Nat, i = .int .i64 k ∧ k ≤ l.length ∧ l.length - k ≤ gk ∧ ∃ n, wr = w.drewN n)
  case atStart => exact ⟨0, rfl, Nat.zero_le _, Nat.le_refl _, 0, rfl⟩
  case round =>
    obtain ⟨k, rfl, hk, hgk, n, rfl⟩ := hrel
    by_cases hlt : k < l.length
    · have hlti : (k : Int) < (l.length : Int) := by omega
      obtain ⟨x, hx⟩ : ∃ x, l[k]? = some x := ⟨_, List.getElem?_eq_getElem hlt⟩
      rcases H1.out with rfl | ⟨b1, o1, rfl, hb1, hc1⟩
      · simp at hlt
      rcases H2.out with rfl | ⟨b2, o2, rfl, hb2, hc2⟩
      · simp at hlt
      have c1x : w.cell? ⟨b1, o1 + k, none⟩ = some (.int .u8 (x.toNat : Int)) := hc1 k x hx
      have c2x : w.cell? ⟨b2, o2 + k, none⟩ = some (.int .u8 (x.toNat : Int)) := hc2 k x hx
      have hxx : ((x.toNat : Int) != (x.toNat : Int)) = false := by simp
      clear hx hc1 hc2
      go_wp2
      go_region
      all_goals (try go_wp2)
      all_goals go_roundg (l.length - (k + 1))
      case measure => omega
      case rel => exact ⟨k + 1, by go_num, by omega, Nat.le_refl _, _, rfl⟩
    · have hlti : ¬ (k : Int) < (l.length : Int) := by omega
      go_wp2
      go_ret
      exact ⟨rfl, n, rfl⟩

set_option maxHeartbeats 1000000 in
set_option maxRecDepth 1000000 in
theorem alike_yes (k : Int) (tx : ByteArray) (a1 a2 : Option Addr) (c1 c2 n : Nat) (l : List UInt8) (w : World) (h1 : IsBytes w a1 c1 l) (h2 : IsBytes w a2 c2 l) (hn : l.length = n) :
    Calls Try.prog 21 #[.agg #[.int .i64 k, .string tx, .slice a1 n c1], .agg #[.int .i64 k, .string tx, .slice a2 n c2]] w fun e w' => e = .returned (.bool true) ∧ Below w.heap.size w w' := by
  have H1 : Hid (IsBytes w a1 c1 l) := h1
  have H2 : Hid (IsBytes w a2 c2 l) := h2
  have HN : Hid (l.length = n) := hn
  have ht : (k == k) = true := by simp
  clear h1 h2 hn
  obtain ⟨w1, hw1⟩ : ∃ w1, w1 = (w.alloc (.cells #[.int .i64 k, .string tx, .slice a1 n c1] 54)).alloc (.cells #[.int .i64 k, .string tx, .slice a2 n c2] 54) := ⟨_, rfl⟩
  have B1 : Below w.heap.size w w1 := by rw [hw1]; exact ((Below.refl _ w).alloc (Nat.le_refl _) _).alloc (by simp) _
  have HB1 : Hid (Below w.heap.size w w1) := B1
  have HW1 : Hid (w1 = (w.alloc (.cells #[.int .i64 k, .string tx, .slice a1 n c1] 54)).alloc (.cells #[.int .i64 k, .string tx, .slice a2 n c2] 54)) := hw1
  clear B1 hw1
  go_enter Try.func21, Try.ntmps21
  go_wp2_with fail
  rw [← HW1.out]
  have SA := same_yes a1 a2 c1 c2 l w1 (H1.out.below HB1.out) (H2.out.below HB1.out)
  rw [HN.out] at SA
  refine SA.mono ?_
  clear SA
  rintro e w2 ⟨rfl, n2, hW⟩
  subst hW
  go_wp2
  go_ret
  exact ⟨rfl, below_drewN HB1.out n2⟩
end Go.Proofs.Ytcgpfhkndbggiaa
