/-
  A list of lists of bytes in memory; the walks of more and beyond.
-/
import Derived.Test.YtjbmolclagmecabPlainRow
namespace Go.Proofs.Ytjbmolclagmecab
open Go.RowKit

/-- The slice at 'a', of capacity c, has the lists ls. -/
def IsRows (w : World) (a : Option Addr) (c : Nat) (ls : List (List UInt8)) : Prop :=
  ls.length ≤ c ∧ c ≤ maxLen ∧ (ls = [] ∨ ∃ b o, a = some ⟨b, o, none⟩ ∧ b < w.heap.size ∧ ∀ (j : Nat) l, ls[j]? = some l → ∃ a' c', w.cell? ⟨b, o + j, none⟩ = some (.slice a' l.length c') ∧ IsBytes w a' c' l ∧ (a' = none → c' = 0))
theorem IsRows.below {w w' : World} {a : Option Addr} {c : Nat} {ls : List (List UInt8)} (h : IsRows w a c ls) (hb : Below w.heap.size w w') : IsRows w' a c ls := by
  obtain ⟨h1, h2, h3⟩ := h
  refine ⟨h1, h2, ?_⟩
  rcases h3 with h | ⟨b, o, ha, hbk, hc⟩
  · exact .inl h
  · refine .inr ⟨b, o, ha, Nat.lt_of_lt_of_le hbk hb.size, fun j l hj => ?_⟩
    obtain ⟨a', c', h1, h2, h3⟩ := hc j l hj
    exact ⟨a', c', (hb.cell (p := ⟨b, o + j, none⟩) hbk).trans h1, h2.below hb, h3⟩

set_option maxHeartbeats 400000 in
theorem more_any (n k : Int) (w : World) (hn : 0 ≤ n) (hk : 0 ≤ k) (hb : n + k ≤ 2147483647) :
    Calls Try.prog 21 #[.int .i64 n, .int .i64 k] w fun e w' => e = .returned (.int .i64 (n + k)) ∧ w' = w := by
  have h1 : n ≤ 2147483647 := by omega
  have h2 : k ≤ 2147483647 - n := by omega
  go_enter Try.func21, Try.ntmps21
  go_wp2
  go_ret
  exact ⟨rfl, rfl⟩

set_option maxHeartbeats 1000000 in
set_option maxRecDepth 1000000 in
theorem beyond_any (a : Option Addr) (c : Nat) (ls : List (List UInt8)) (w : World) (h : IsRows w a c ls) (ht : tot ls ≤ 2147483647) :
    Calls Try.prog 10 #[.slice a ls.length c] w fun e w' => e = .returned (.bool false) ∧ w' = w := by
  obtain ⟨h1, h2, h3⟩ := h
  unfold maxLen at h2
  have H3 : Hid (ls = [] ∨ ∃ b o, a = some ⟨b, o, none⟩ ∧ b < w.heap.size ∧ ∀ (j : Nat) l, ls[j]? = some l → ∃ a' c', w.cell? ⟨b, o + j, none⟩ = some (.slice a' l.length c') ∧ IsBytes w a' c' l ∧ (a' = none → c' = 0)) := h3
  clear h3
  go_enter Try.func10, Try.ntmps10
  go_wp2
  go_loop [3, 4] (fun v i => ∃ (k : Nat), k ≤ ls.length ∧ v = .int .i64 (tot (ls.take k) : Nat) ∧ i = .int .i64 k) (fun _ i => ls.length - (intOf i).toNat)
  case atStart => exact ⟨0, Nat.zero_le _, rfl, rfl⟩
  case round =>
    obtain ⟨k, hk, rfl, rfl⟩ := hrel
    have hle := tot_le ls k
    have hle1 := tot_le ls (k + 1)
    rw [tot_take] at hle1
    obtain ⟨t, hT⟩ : ∃ t, t = tot (ls.take k) := ⟨_, rfl⟩
    rw [← hT] at hle hle1
    by_cases hlt : k < ls.length
    · rw [if_pos hlt] at hle1
      obtain ⟨x, hx⟩ : ∃ x, ls[k]? = some x := ⟨_, List.getElem?_eq_getElem hlt⟩
      rcases H3.out with rfl | ⟨b, o, rfl, hb, hc⟩
      · simp at hlt
      obtain ⟨a', c', hcx, _, _⟩ := hc k x hx
      rw [hx, Option.getD_some] at hle1
      have HN : Hid (tot (ls.take (k + 1)) = t + x.length + 9) := by show _ = _; rw [tot_take, if_pos hlt, hx, ← hT]; rfl
      have HT : Hid (t = tot (ls.take k)) := hT
      rw [← HT.out]
      have ht0 : (t : Int) ≤ 2147483647 := by omega
      clear hx hc hT
      go_wp2_with fail
      refine (more_any t x.length _ (by omega) (by omega) (by omega)).mono ?_
      rintro e w1 ⟨rfl, hW⟩
      have hW := hW.symm
      subst hW
      go_wp2_with fail
      refine (more_any (t + x.length) 9 _ (by omega) (by omega) (by omega)).mono ?_
      rintro e w1 ⟨rfl, hW⟩
      have hW := hW.symm
      subst hW
      go_wp2
      go_round
      case rel => exact ⟨k + 1, by omega, by rw [HN.out]; go_num, by go_num⟩
      case measure => simp [intOf]; omega
    · have HT : Hid (t = tot (ls.take k)) := hT
      rw [← HT.out]
      have ht0 : (t : Int) ≤ 2147483647 := by omega
      clear hT
      have hdec : decide (2147483647 < (t : Int)) = false := decide_eq_false (by omega)
      go_wp2
      go_ret
      exact ⟨by first | rfl | (show Ending.returned (Value.bool (decide (2147483647 < (t : Int)))) = _; rw [hdec]), rfl⟩
end Go.Proofs.Ytjbmolclagmecab
