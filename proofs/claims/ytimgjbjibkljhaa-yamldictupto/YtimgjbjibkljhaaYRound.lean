/-
  Layer 9: round, many.
-/
import Derived.Test.YtimgjbjibkljhaaYLent
namespace Go.Proofs.Ytimgjbjibkljhaa
open Go.RowKit

theorem rev_step (ts : List ByteArray) (k : Nat) (x : ByteArray) (hk : k < ts.length) (hx : ts[ts.length - 1 - k]? = some x) : ts.reverse.take (k + 1) = ts.reverse.take k ++ [x] := by
  have h1 : ts.reverse[k]? = some x := by
    rw [List.getElem?_reverse hk]
    exact hx
  have hk2 : k < ts.reverse.length := by simpa using hk
  rw [List.take_succ_eq_append_getElem hk2]
  congr 2
  exact (List.getElem?_eq_some_iff.1 h1).2
set_option maxHeartbeats 2000000 in
set_option maxRecDepth 1000000 in
theorem round_any (a : Option Addr) (c : Nat) (ts : List ByteArray) (w : World) (h : IsStrs w a c ts) (hl : ts.length ≤ 1073741823) :
    Calls Try.prog 13 #[.slice a ts.length c] w fun e w' => ∃ v, e = .returned v ∧ Strs w' w.heap.size v ts.reverse ∧ Below w.heap.size w w' := by
  obtain ⟨n, hn⟩ : ∃ n, n = ts.length := ⟨_, rfl⟩
  have HI := hideY h
  have HN := hideY hn
  have hlc : ts.length ≤ c := h.1
  rw [← hn] at hl hlc ⊢
  clear h hn
  go_enter Try.func13, Try.ntmps13
  go_upto_region 3 with fail
  go_loopg [3, 7] n (fun gk v i wr => ∃ k : Nat, i = .int .i64 k ∧ k ≤ n ∧ n - k ≤ gk ∧ Hid (Strs wr w.heap.size v (ts.reverse.take k)) ∧ Hid (Below w.heap.size w wr))
  case atStart => exact ⟨0, rfl, Nat.zero_le _, Nat.le_refl _, World.ownsRow_nil _ _ _ _, Below.refl _ _⟩
  case round =>
    obtain ⟨k, rfl, hk, hgk, HS, HB⟩ := hrel
    by_cases hlt : k < n
    · obtain ⟨m, hm⟩ : ∃ m, m = n - 1 - k := ⟨_, rfl⟩
      obtain ⟨x, hx⟩ : ∃ x, ts[m]? = some x := ⟨_, List.getElem?_eq_getElem (by have := HN.out; omega)⟩
      obtain ⟨b, o, rfl, hbw, c0⟩ := (HI.out.below HB.out).at hx
      have hmi : (n : Int) - 1 - (k : Int) = (m : Int) := by omega
      have i1 : (0 : Int) ≤ (m : Int) := by omega
      have i2 : (m : Int) < (n : Int) := by omega
      have HX := hideY (show ts.reverse.take (k + 1) = ts.reverse.take k ++ [x] from rev_step ts k x (by have := HN.out; omega) (by rw [← HN.out, ← hm]; exact hx))
      have hrl : (ts.reverse.take k).length ≤ 1073741823 := by rw [List.length_take]; omega
      have HRL := hideY hrl
      clear hm hx hrl
      go_wp2_with (refine wpList_push_text rfl (.tmp 10) (.tmp 19) rfl w.heap.size u3 (ts.reverse.take k) x rfl HS.out rfl HRL.out HB.out.size ?_; intro v2 w2 s2 b2; have S2 := hideY (And.intro s2 b2); clear s2 b2)
      go_roundg (n - (k + 1))
      case measure => omega
      case rel => exact ⟨k + 1, by go_num, by omega, Nat.le_refl _, by rw [HX.out]; exact S2.out.1, HB.out.trans S2.out.2⟩
    · go_wp2_with fail
      go_ret
      refine ⟨_, rfl, ?_, HB.out⟩
      have h9 := HS.out
      rw [List.take_of_length_le (by have := HN.out; simp; omega)] at h9
      exact h9
end Go.Proofs.Ytimgjbjibkljhaa
