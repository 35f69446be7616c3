/-
  Beyo, BeyS.
-/
import Derived.Test.YtnpofjeiamjioaaSameG
import Derived.Test.YtnpofjeiamjioaaRDk
import Derived.Test.YtnpofjeiamjioaaTsX
namespace Go.Proofs.Ytnpofjeiamjioaa
open Go.RowKit

theorem more_any (w : World) (n k : Nat) (h : n + k ≤ 2147483647) : Calls Try.prog 17 #[.int .i64 (n : Int), .int .i64 (k : Int)] w fun e w' => e = .returned (.int .i64 ((n + k : Nat) : Int)) ∧ w' = w := by
  have n1 : ¬ 2147483647 < (n : Int) := by omega
  have w1 : IntKind.i64.wrap (2147483647 - (n : Int)) = 2147483647 - (n : Int) := by rw [IntKind.wrap_i64]; omega
  have n2 : ¬ 2147483647 - (n : Int) < (k : Int) := by omega
  have w2 : IntKind.i64.wrap ((n : Int) + (k : Int)) = ((n + k : Nat) : Int) := by rw [IntKind.wrap_i64]; omega
  go_enter Try.func17, Try.ntmps17
  go_wp2_with fail
  go_ret
  exact ⟨by simp, rfl⟩
set_option maxHeartbeats 4000000 in
set_option maxRecDepth 1000000 in
theorem beyond_no (w : World) (a : Option Addr) (c : Nat) (R : List Rf) (h : IsRaw w a c R) (hn : R.length ≤ 1048576) (ht : totR R ≤ 1073741823) :
    Calls Try.prog 13 #[.slice a R.length c] w fun e w' => e = .returned (.bool false) ∧ w' = w := by
  have HH := hideR h
  obtain ⟨N, hN⟩ : ∃ N, N = R.length := ⟨_, rfl⟩
  have HN := hideR hN
  rw [← hN] at hn ⊢
  clear h hN
  go_enter Try.func13, Try.ntmps13
  go_wp2_with fail
  go_loopg [3, 4] N (fun gk s3 s4 wr => ∃ (k t : Nat), s3 = .int .i64 (t : Int) ∧ s4 = .int .i64 (k : Int) ∧ N - k ≤ gk ∧ k ≤ N ∧ wr = w ∧ HidR (t = totR (R.take k) + k))
  case atStart => exact ⟨0, 0, rfl, rfl, by omega, by omega, rfl, ⟨by simp [totR]⟩⟩
  case round =>
    obtain ⟨k, t, rfl, rfl, hgk, hk, hwr, HT⟩ := hrel
    subst hwr
    have htl := totR_le R k
    have ht1 : t ≤ 1074790399 := by have := HT.out; omega
    have tle : (t : Int) ≤ 2147483647 := by omega
    clear htl
    by_cases hlt : k < N
    · have tlt : (k : Int) < (N : Int) := by omega
      obtain ⟨x, hx⟩ : ∃ x, R[k]? = some x := ⟨_, List.getElem?_eq_getElem (by have := HN.out; omega)⟩
      obtain ⟨b, o, ea, hbw, m0, ⟨da, dc, m1, hi⟩, m2⟩ := HH.out.at hx
      subst ea
      have h2 := totR_take R k x hx
      have h3 := totR_le R (k + 1)
      have hb : t + x.data.length + 1 ≤ 2147483647 := by have := HT.out; omega
      have HT2 : HidR (t + x.data.length + 1 = totR (R.take (k + 1)) + (k + 1)) := ⟨by have := HT.out; omega⟩
      have C1 := hideR (more_any wr t x.data.length (by omega))
      have C2 := hideR (more_any wr (t + x.data.length) 1 hb)
      have hbi : t + x.data.length ≤ 2147483646 := by omega
      clear hx hi h2 h3 m0 m2 hb hbw
      go_upto_region 6 with (go_at_call 17
                             refine C1.out.mono ?_
                             rintro e w3 ⟨rfl, hw⟩
                             have hw := hw.symm
                             subst hw)
      go_wp2_with (go_at_call 17
                   refine C2.out.mono ?_
                   rintro e w3 ⟨rfl, hw⟩
                   have hw := hw.symm
                   subst hw)
      go_roundg (N - (k + 1))
      case measure => omega
      case rel => exact ⟨k + 1, t + x.data.length + 1, by go_num, by go_num, Nat.le_refl _, hlt, rfl, HT2⟩
    · have tlt : ¬ (k : Int) < (N : Int) := by omega
      have tng : ¬ 2147483647 < (t : Int) := by omega
      go_wp2_with fail
      go_ret
      exact ⟨by simp, rfl⟩
end Go.Proofs.Ytnpofjeiamjioaa

namespace Go.Proofs.Ytnpofjeiamjioaa
open Go.RowKit

set_option maxHeartbeats 4000000 in
set_option maxRecDepth 1000000 in
theorem beyondS_no (w : World) (a : Option Addr) (c : Nat) (l : List OpI) (h : IsOps w a c l) (ht : totO l ≤ 1048576) :
    Calls Try.prog 5 #[.slice a l.length c] w fun e w' => e = .returned (.bool false) ∧ w' = w := by
  have HH := hideR h
  obtain ⟨N, hN⟩ : ∃ N, N = l.length := ⟨_, rfl⟩
  have HN := hideR hN
  have hn : N ≤ 1048576 := by have := totO_len l; omega
  rw [← hN]
  clear h hN
  go_enter Try.func5, Try.ntmps5
  go_wp2_with fail
  go_loopg [3, 4] N (fun gk s3 s4 wr => ∃ (k t : Nat), s3 = .int .i64 (t : Int) ∧ s4 = .int .i64 (k : Int) ∧ N - k ≤ gk ∧ k ≤ N ∧ wr = w ∧ HidR (t ≤ totO (l.take k)))
  case atStart => exact ⟨0, 0, rfl, rfl, by omega, by omega, rfl, ⟨by simp⟩⟩
  case round =>
    obtain ⟨k, t, rfl, rfl, hgk, hk, hwr, HT⟩ := hrel
    subst hwr
    have htl := totO_le l k
    have ht1 : t ≤ 1048576 := by have := HT.out; omega
    have tle : (t : Int) ≤ 2147483647 := by omega
    clear htl
    by_cases hlt : k < N
    · have tlt : (k : Int) < (N : Int) := by omega
      obtain ⟨x, hx⟩ : ∃ x, l[k]? = some x := ⟨_, List.getElem?_eq_getElem (by have := HN.out; omega)⟩
      obtain ⟨b, o, ea, hbw, da, dc, ka, kc, hcell, _, _⟩ := HH.out.at hx
      subst ea
      have m1 : wr.cell? ⟨b, o + k * 7 + 2 + 2, none⟩ = some (.slice da x.act.data.length dc) := hcell 4 _ rfl
      have h2 := totO_take l k x hx
      have h3 := totO_le l (k + 1)
      have hb : t + x.act.data.length + 1 ≤ 2147483647 := by have := HT.out; omega
      have HT2 : HidR (t + x.act.data.length + 1 ≤ totO (l.take (k + 1))) := ⟨by have := HT.out; omega⟩
      have C1 := hideR (more_any wr t x.act.data.length (by omega))
      have C2 := hideR (more_any wr (t + x.act.data.length) 1 hb)
      have hbi : t + x.act.data.length ≤ 2147483646 := by omega
      clear hx hcell h2 h3 hb hbw
      go_upto_region 6 with (go_at_call 17
                             refine C1.out.mono ?_
                             rintro e w3 ⟨rfl, hw⟩
                             have hw := hw.symm
                             subst hw)
      go_wp2_with (go_at_call 17
                   refine C2.out.mono ?_
                   rintro e w3 ⟨rfl, hw⟩
                   have hw := hw.symm
                   subst hw)
      go_roundg (N - (k + 1))
      case measure => omega
      case rel => exact ⟨k + 1, t + x.act.data.length + 1, by go_num, by go_num, Nat.le_refl _, hlt, rfl, HT2⟩
    · have tlt : ¬ (k : Int) < (N : Int) := by omega
      have tng : ¬ 2147483647 < (t : Int) := by omega
      go_wp2_with fail
      go_ret
      exact ⟨by simp, rfl⟩
end Go.Proofs.Ytnpofjeiamjioaa
