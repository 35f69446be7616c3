/-
  Layer 9: many.
-/
import Derived.Test.YtimgjbjibkljhaaYRound
namespace Go.Proofs.Ytimgjbjibkljhaa
open Go.RowKit

set_option maxHeartbeats 2000000 in
set_option maxRecDepth 1000000 in
theorem many_any (a : Option Addr) (c : Nat) (ts : List ByteArray) (w : World) (h : IsStrs w a c ts) (hl : ts.length ≤ 1073741823) :
    Calls Try.prog 8 #[.slice a ts.length c] w fun e w' => (∃ x, e = .returned (.bool x)) ∧ w' = w := by
  obtain ⟨n, hn⟩ : ∃ n, n = ts.length := ⟨_, rfl⟩
  have HI := hideY h
  have HN := hideY hn
  have hlc : ts.length ≤ c := h.1
  rw [← hn] at hl hlc ⊢
  clear h hn
  go_enter Try.func8, Try.ntmps8
  go_upto_region 3 with fail
  go_loopg [3, 4] n (fun gk v i wr => ∃ k : Nat, ∃ x : Int, i = .int .i64 k ∧ v = .int .i64 x ∧ k ≤ n ∧ n - k ≤ gk ∧ wr = w)
  case atStart => exact ⟨0, _, rfl, rfl, Nat.zero_le _, Nat.le_refl _, rfl⟩
  case round =>
    obtain ⟨k, x, rfl, rfl, hk, hgk, hwr⟩ := hrel
    subst hwr
    by_cases hlt : k < n
    · obtain ⟨t, ht⟩ : ∃ t, ts[k]? = some t := ⟨_, List.getElem?_eq_getElem (by have := HN.out; omega)⟩
      obtain ⟨b, o, rfl, hbw, c0⟩ := HI.out.at ht
      have i1 : (0 : Int) ≤ (k : Int) := by omega
      have i2 : (k : Int) < (n : Int) := by omega
      clear ht
      by_cases hx : x ≤ 2147483647
      · go_wp2_with fail
        go_roundg (n - (k + 1))
        case measure => omega
        case rel => exact ⟨k + 1, _, by go_num, rfl, by omega, Nat.le_refl _, rfl⟩
      · go_wp2_with fail
        go_ret
        exact ⟨.inr rfl, rfl⟩
    · go_wp2_with fail
      go_ret
      exact ⟨⟨_, rfl⟩, rfl⟩
end Go.Proofs.Ytimgjbjibkljhaa
