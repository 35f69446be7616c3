/-
  The document's intake: end, takes, again, New, Held, Body.
-/
import Derived.Test.YtcgpfhkndbggiaaRIn
import Derived.Deep.QuietTactic
import Derived.BigQuiet
namespace Go.Proofs.Ytcgpfhkndbggiaa
open Go.RowKit

/-- An end stands at i. -/
def EndAt (l : List UInt8) (i : Nat) : Prop := l[i]? = some 13 ∧ l[i + 1]? = some 10
theorem find_is : ∀ {l : List UInt8} {k : Nat}, EndAt l k → (∀ i, i < k → ¬ EndAt l i) → find l = some k
  | [], k, h, _ => by simp [EndAt] at h
  | x :: r, k, h, hn => by
    cases k with
    | zero =>
      unfold find
      rw [if_pos]
      obtain ⟨h1, h2⟩ := h
      refine ⟨by simpa using h1, ?_⟩
      cases r with
      | nil => simp at h2
      | cons y r => simpa using h2
    | succ k =>
      have h0 := hn 0 (by omega)
      have ih : find r = some k := find_is (l := r) (k := k) ⟨by simpa using h.1, by simpa using h.2⟩ (fun i hi hh => hn (i + 1) (by omega) ⟨by simpa using hh.1, by simpa using hh.2⟩)
      rw [show find (x :: r) = if x = 13 ∧ r.head? = some 10 then some 0 else (find r).map (· + 1) from rfl, if_neg, ih]
      · rfl
      · rintro ⟨h1, h2⟩
        refine h0 ⟨by simp [h1], ?_⟩
        cases r with
        | nil => simp at h2
        | cons y r => simpa using h2
theorem find_not {l : List UInt8} (h : ∀ i, ¬ EndAt l i) : find l = none := by
  cases hf : find l with
  | none => rfl
  | some k => exact absurd (find_some hf) (h k)
theorem endAt_take {l : List UInt8} {i : Nat} (h : EndAt (l.take 224) i) : EndAt l i ∧ i + 1 < 224 := by
  obtain ⟨h1, h2⟩ := h
  have := (List.getElem?_eq_some_iff.1 h2).1
  simp only [List.length_take] at this
  rw [List.getElem?_take_of_lt (by omega)] at h1 h2
  exact ⟨⟨h1, h2⟩, by omega⟩
theorem endAt_mk {l : List UInt8} {i : Nat} (h : EndAt l i) (hi : i + 1 < 224) : EndAt (l.take 224) i := by
  refine ⟨?_, ?_⟩
  · rw [List.getElem?_take_of_lt (by omega)]; exact h.1
  · rw [List.getElem?_take_of_lt (by omega)]; exact h.2
def endV (l : List UInt8) : Int := (find (l.take 224)).elim (-1) (fun k => (k : Int))

set_option maxHeartbeats 2000000 in
set_option maxRecDepth 1000000 in
theorem refEnd_any (w : World) (a : Option Addr) (c : Nat) (b : List UInt8) (hb : IsBytes w a c b) :
    Calls Try.prog 47 #[.slice a b.length c, .int .i64 224] w fun e w' => e = .returned (.int .i64 (endV b)) ∧ w' = w := by
  have HB := hide hb
  clear hb
  go_enter Try.func47, Try.ntmps47
  go_wp2_with fail
  go_loopw [5] (fun i wr => ∃ k : Nat, k ≤ b.length ∧ k ≤ 224 ∧ i = .int .i64 k ∧ wr = w ∧ Hid (∀ i, i < k → ¬ EndAt b i)) (fun i _ => 224 - (intOf i).toNat)
  case atStart => exact ⟨0, Nat.zero_le _, Nat.zero_le _, rfl, rfl, fun i hi => by omega⟩
  case round =>
    obtain ⟨k, hk, hk2, rfl, rfl, HN⟩ := hrel
    by_cases h1 : k + 1 < b.length
    · by_cases h2 : k + 1 < 224
      · rcases HB.out.2.2 with h0 | ⟨g, o, rfl, hg, hc⟩
        · rw [h0] at h1; simp at h1
        obtain ⟨x, hx⟩ : ∃ x, b[k]? = some x := ⟨_, List.getElem?_eq_getElem (by omega)⟩
        obtain ⟨y, hy⟩ : ∃ y, b[k + 1]? = some y := ⟨_, List.getElem?_eq_getElem h1⟩
        have cx := hc k x hx
        have cy := hc (k + 1) y hy
        have i1 : (k : Int) + 1 < (b.length : Int) := by omega
        have i2 : (k : Int) + 1 < 224 := by omega
        have i3 : (k : Int) < (b.length : Int) := by omega
        have HX := hide (And.intro hx hy)
        clear hc hx hy
        by_cases e1 : x = 13
        · subst e1
          by_cases e2 : y = 10
          · subst e2
            go_wp2_with fail
            go_ret
            refine ⟨?_, rfl⟩
            have : find (b.take 224) = some k := find_is (endAt_mk ⟨HX.out.1, HX.out.2⟩ h2) (fun i hi hh => HN.out i hi (endAt_take hh).1)
            unfold endV
            rw [this]
            rfl
          · have e2b : ((y.toNat : Int) == 10) = false := by
              have := beq_byte y 10 (by decide)
              rw [show ((10 : Nat) : Int) = 10 from rfl] at this
              rw [this]
              simpa using e2
            go_wp2_with fail
            go_roundw
            case rel =>
              refine ⟨k + 1, by omega, by omega, by go_num, trivial, fun i hi hh => ?_⟩
              rcases Nat.lt_or_ge i k with h | h
              · exact HN.out i h hh
              · obtain rfl : i = k := by omega
                have := hh.2
                rw [HX.out.2] at this
                exact e2 (Option.some.inj this)
            case measure => simp [intOf]; omega
        · have e1b : ((x.toNat : Int) == 13) = false := by
            have := beq_byte x 13 (by decide)
            rw [show ((13 : Nat) : Int) = 13 from rfl] at this
            rw [this]
            simpa using e1
          go_wp2_with fail
          go_roundw
          case rel =>
            refine ⟨k + 1, by omega, by omega, by go_num, trivial, fun i hi hh => ?_⟩
            rcases Nat.lt_or_ge i k with h | h
            · exact HN.out i h hh
            · obtain rfl : i = k := by omega
              have := hh.1
              rw [HX.out.1] at this
              exact e1 (Option.some.inj this)
          case measure => simp [intOf]; omega
      · have HF : Hid (endV b = -1) := by
          show _ = _
          have : find (b.take 224) = none := find_not (fun i hh => by
            obtain ⟨q1, q2⟩ := endAt_take hh
            exact HN.out i (by omega) q1)
          unfold endV
          rw [this]
          rfl
        have i1 : (k : Int) + 1 < (b.length : Int) := by omega
        have i2 : ¬ (k : Int) + 1 < 224 := by omega
        go_wp2_with fail
        go_ret
        exact ⟨by rw [HF.out]; rfl, rfl⟩
    · have HF : Hid (endV b = -1) := by
        show _ = _
        have : find (b.take 224) = none := find_not (fun i hh => by
          obtain ⟨q1, q2⟩ := endAt_take hh
          have := (List.getElem?_eq_some_iff.1 q1.2).1
          exact HN.out i (by omega) q1)
        unfold endV
        rw [this]
        rfl
      have i1 : decide ((k : Int) + 1 < (b.length : Int)) = false := decide_eq_false (by omega)
      have i2 : ¬ (k : Int) + 1 < (b.length : Int) := by omega
      go_wp2_with fail
      go_ret
      exact ⟨by rw [HF.out]; rfl, rfl⟩
end Go.Proofs.Ytcgpfhkndbggiaa
