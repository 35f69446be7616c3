/-
  The walk of 'beyond'.
-/
import Derived.Test.YtipbphflboooeaaDoorStrs
namespace Go.Proofs.YtipbphflboooeaaDoor
open Go.RowKit

/-- The bound. -/
def lim : Int := 2147483647
/-- Would texts make one of more than the bound, n counted so far? -/
def beyondFrom : List ByteArray → Int → Bool
  | [], _ => false
  | x :: r, n => if lim ≤ n + 1 ∨ lim - (n + 1) < (x.size : Int) then true else beyondFrom r (n + 1 + (x.size : Int))

theorem beyond_bound : ∀ (ss : List ByteArray) (n : Int), n ≤ lim → beyondFrom ss n = false → n + (ss.length : Int) + ((ss.map ByteArray.size).sum : Int) ≤ lim
  | [], n, hn, _ => by simpa using hn
  | x :: r, n, hn, h => by
    rw [beyondFrom] at h
    by_cases hc : lim ≤ n + 1 ∨ lim - (n + 1) < (x.size : Int)
    · rw [if_pos hc] at h; cases h
    · rw [if_neg hc] at h
      have := beyond_bound r (n + 1 + (x.size : Int)) (by omega) h
      simp only [List.length_cons, List.map_cons, List.sum_cons]
      omega

set_option maxHeartbeats 400000 in
set_option maxRecDepth 1000000 in
theorem beyond_any (a : Option Addr) (c : Nat) (ss : List ByteArray) (w : World) (h : IsStrs w a c ss) (hsz : ∀ x ∈ ss, x.size ≤ maxLen) :
    Calls Tryd.prog 18 #[.slice a ss.length c] w fun e w' => e = .returned (.bool (beyondFrom ss 0)) ∧ w' = w := by
  obtain ⟨h1, h2, h3⟩ := h
  unfold maxLen at h2 hsz
  rcases h3 with rfl | ⟨b, o, rfl, hb, hc⟩
  · go_enter Tryd.func18, Tryd.ntmps18
    go_wp2
    go_loop [3, 4] (fun n i => n = .int .i64 0 ∧ i = .int .i64 0) (fun _ _ => 0)
    case atStart => exact ⟨rfl, rfl⟩
    case round =>
      obtain ⟨rfl, rfl⟩ := hrel
      go_wp2
      go_ret
      exact ⟨rfl, rfl⟩
  · have HC : Hid (∀ (j : Nat) x, ss[j]? = some x → w.cell? ⟨b, o + j, none⟩ = some (.string x)) := hc
    have HZ : Hid (∀ x ∈ ss, x.size ≤ 2 ^ 63 - 1) := hsz
    clear hc hsz
    go_enter Tryd.func18, Tryd.ntmps18
    go_wp2
    go_loop [3, 4] (fun v i => ∃ (k : Nat) (n : Int), k ≤ ss.length ∧ v = .int .i64 n ∧ i = .int .i64 k ∧ 0 ≤ n ∧ n ≤ 2147483647 ∧ beyondFrom (ss.drop k) n = beyondFrom ss 0) (fun _ i => ss.length - (intOf i).toNat)
    case atStart => exact ⟨0, 0, Nat.zero_le _, rfl, rfl, by omega, by omega, by rw [List.drop_zero]⟩
    case round =>
      obtain ⟨k, n, hk, rfl, rfl, hn0, hn, hd⟩ := hrel
      have HD : Hid (beyondFrom (ss.drop k) n = beyondFrom ss 0) := hd
      clear hd
      by_cases hlt : k < ss.length
      · obtain ⟨x, hx⟩ : ∃ x, ss[k]? = some x := ⟨_, List.getElem?_eq_getElem hlt⟩
        have hcx := HC.out k x hx
        have hxs := HZ.out x (List.mem_of_getElem? hx)
        have hy : beyondFrom ss 0 = if lim ≤ n + 1 ∨ lim - (n + 1) < (x.size : Int) then true else beyondFrom (ss.drop (k + 1)) (n + 1 + (x.size : Int)) := by
          rw [← HD.out, List.drop_eq_getElem_cons hlt, beyondFrom]
          rw [List.getElem?_eq_getElem hlt] at hx
          rw [Option.some.inj hx]
        have HE : Hid (beyondFrom ss 0 = if lim ≤ n + 1 ∨ lim - (n + 1) < (x.size : Int) then true else beyondFrom (ss.drop (k + 1)) (n + 1 + (x.size : Int))) := hy
        clear hy hx
        by_cases h4 : 2147483647 ≤ n + 1
        · have HV : Hid (beyondFrom ss 0 = true) := by
            have := HE.out
            rw [if_pos (.inl h4)] at this
            exact this
          clear HE
          go_wp2
          go_ret
          exact ⟨by rw [HV.out]; rfl, rfl⟩
        · have h4' : n + 1 < 2147483647 := by omega
          clear h4
          by_cases h5 : 2147483647 - (n + 1) < (x.size : Int)
          · have HV : Hid (beyondFrom ss 0 = true) := by
              have := HE.out
              rw [if_pos (.inr h5)] at this
              exact this
            clear HE
            go_wp2
            go_ret
            exact ⟨by rw [HV.out]; rfl, rfl⟩
          · have HV : Hid (beyondFrom ss 0 = beyondFrom (ss.drop (k + 1)) (n + 1 + (x.size : Int))) := by
              have := HE.out
              rw [if_neg (by unfold lim; omega)] at this
              exact this
            clear HE
            go_wp2
            go_round
            case rel => exact ⟨k + 1, _, by omega, rfl, by go_num, by omega, by omega, HV.out.symm⟩
            case measure => simp [intOf]; omega
      · go_wp2
        go_ret
        have := HD.out
        rw [List.drop_of_length_le (by omega), beyondFrom] at this
        exact ⟨by rw [← this]; rfl, rfl⟩
end Go.Proofs.YtipbphflboooeaaDoor
