/-
  Lists of texts in memory; the walk of 'same'.
-/
import Derived.Test.YthjaehibndmehaaProg
import Derived.WalkKit
import Derived.WalkSpells
import Derived.WalkLawsBesides
import Derived.WalkSmall
namespace Go.Proofs.Ythjaehibndmehaa
open Go.RowKit

/-- The slice at 'a', of capacity c, has the texts ss. -/
def IsStrs (w : World) (a : Option Addr) (c : Nat) (ss : List ByteArray) : Prop :=
  ss.length ≤ c ∧ ss.length ≤ maxLen ∧ (ss = [] ∨ ∃ b o, a = some ⟨b, o, none⟩ ∧ b < w.heap.size ∧ ∀ (j : Nat) x, ss[j]? = some x → w.cell? ⟨b, o + j, none⟩ = some (.string x))

theorem IsStrs.below {w w' : World} {a : Option Addr} {c : Nat} {ss : List ByteArray} (h : IsStrs w a c ss) (hb : Below w.heap.size w w') : IsStrs w' a c ss := by
  obtain ⟨h1, h2, h3⟩ := h
  refine ⟨h1, h2, ?_⟩
  rcases h3 with h | ⟨b, o, ha, hbk, hc⟩
  · exact .inl h
  · exact .inr ⟨b, o, ha, Nat.lt_of_lt_of_le hbk hb.size, fun j x hj => (hb.cell (p := ⟨b, o + j, none⟩) hbk).trans (hc j x hj)⟩

theorem IsStrs.own {w : World} {B e g cap : Nat} {ss : List ByteArray} (h : w.ownsRow B e 1 (.slice (some ⟨g, 0, none⟩) ss.length cap) ss.length (ss.map Value.string)) (hm : ss.length ≤ maxLen) : IsStrs w (some ⟨g, 0, none⟩) cap ss := by
  refine ⟨?_, hm, .inr ⟨g, 0, rfl, (h.lt g rfl).2, fun j x hj => ?_⟩⟩
  · rcases h.2 with ⟨hv, _⟩ | ⟨g', cap', cur, hv, _, _, hx⟩
    · cases hv
    · cases hv; exact hx.1
  · have := h.cells rfl j (.string x) (by simp [hj])
    rw [Nat.zero_add]
    cases j with
    | zero => simpa [Addr.add] using this
    | succ j => simpa [Addr.add] using this

set_option maxHeartbeats 400000 in
set_option maxRecDepth 1000000 in
theorem same_any (a1 a2 : Option Addr) (c1 c2 : Nat) (xs ys : List ByteArray) (w : World) (h1 : IsStrs w a1 c1 xs) (h2 : IsStrs w a2 c2 ys) :
    Calls Try.prog 31 #[.slice a1 xs.length c1, .slice a2 ys.length c2] w fun e w' => e = .returned (.bool (decide (xs = ys))) ∧ ∃ n, w' = w.drewN n := by
  obtain ⟨h11, h12, h13⟩ := h1
  obtain ⟨h21, h22, h23⟩ := h2
  unfold maxLen at h12 h22
  by_cases hl : xs.length = ys.length
  · rcases h13 with rfl | ⟨b1, o1, rfl, hb1, hc1⟩
    · obtain rfl : ys = [] := by cases ys with | nil => rfl | cons => simp at hl
      clear h23
      go_enter Try.func31, Try.ntmps31
      go_wp2
      go_loop [5] (fun i => i = .int .i64 0) (fun _ => 0)
      case atStart => rfl
      case round =>
        subst hrel
        go_wp2
        go_ret
        exact ⟨rfl, 0, rfl⟩
    · rcases h23 with rfl | ⟨b2, o2, rfl, hb2, hc2⟩
      · obtain rfl : xs = [] := by cases xs with | nil => rfl | cons => simp at hl
        clear hc1
        go_enter Try.func31, Try.ntmps31
        go_wp2
        go_loop [5] (fun i => i = .int .i64 0) (fun _ => 0)
        case atStart => rfl
        case round =>
          subst hrel
          go_wp2
          go_ret
          exact ⟨rfl, 0, rfl⟩
      · have HC1 : Hid (∀ (j : Nat) x, xs[j]? = some x → w.cell? ⟨b1, o1 + j, none⟩ = some (.string x)) := hc1
        have HC2 : Hid (∀ (j : Nat) x, ys[j]? = some x → w.cell? ⟨b2, o2 + j, none⟩ = some (.string x)) := hc2
        have HL : Hid (xs.length = ys.length) := hl
        have hne : ((xs.length : Int) != (ys.length : Int)) = false := by simp [hl]
        clear hc1 hc2 hl
        go_enter Try.func31, Try.ntmps31
        go_wp2
        go_loopw [5] (fun i wr => ∃ k : Nat, k ≤ xs.length ∧ i = .int .i64 k ∧ (∃ n, wr = w.drewN n) ∧ xs.take k = ys.take k) (fun i _ => xs.length - (intOf i).toNat)
        case atStart => exact ⟨0, Nat.zero_le _, rfl, ⟨0, rfl⟩, by simp⟩
        case round =>
          obtain ⟨k, hk, rfl, ⟨n, rfl⟩, ht⟩ := hrel
          have HT : Hid (xs.take k = ys.take k) := ht
          clear ht
          by_cases hlt : k < xs.length
          · have hlt2 : k < ys.length := by have := HL.out; omega
            obtain ⟨x, hx⟩ : ∃ x, xs[k]? = some x := ⟨_, List.getElem?_eq_getElem hlt⟩
            obtain ⟨y, hy⟩ : ∃ y, ys[k]? = some y := ⟨_, List.getElem?_eq_getElem hlt2⟩
            have c1x : w.cell? ⟨b1, o1 + k, none⟩ = some (.string x) := HC1.out k x hx
            have c2y : w.cell? ⟨b2, o2 + k, none⟩ = some (.string y) := HC2.out k y hy
            have HX : Hid (xs[k]? = some x) := hx
            have HY : Hid (ys[k]? = some y) := hy
            clear hx hy
            by_cases hxy : x = y
            · subst hxy
              have hxx : (x.toList == x.toList) = true := by simp
              go_wp2
              go_region
              all_goals (try go_wp2)
              all_goals go_roundw
              case rel =>
                refine ⟨k + 1, by omega, by go_num, ⟨_, rfl⟩, ?_⟩
                rw [List.take_add_one, List.take_add_one, HX.out, HY.out, HT.out]
              case measure => simp [intOf]; omega
            · have hxx : (x.toList == y.toList) = false := by
                rw [beq_eq_false_iff_ne, ByteArray.toList_eq, ByteArray.toList_eq]
                exact fun h => hxy (WideShapes.bytes_inj h)
              have HN : Hid (xs ≠ ys) := fun h => by
                have h1 := HX.out
                rw [h, HY.out] at h1
                exact hxy (Option.some.inj h1).symm
              clear hxy
              go_wp2
              go_region
              all_goals (try go_wp2)
              all_goals go_ret
              exact ⟨by simp [HN.out], _, rfl⟩
          · go_wp2
            go_ret
            have := HT.out
            have hL := HL.out
            rw [List.take_of_length_le (by omega), List.take_of_length_le (by omega)] at this
            exact ⟨by simp [this], n, rfl⟩
  · have hne : ((xs.length : Int) != (ys.length : Int)) = true := by simp; omega
    have HN : Hid (xs ≠ ys) := fun h => hl (by rw [h])
    clear hl h13 h23
    go_enter Try.func31, Try.ntmps31
    go_wp2
    go_ret
    exact ⟨by simp [HN.out], 0, rfl⟩
end Go.Proofs.Ythjaehibndmehaa
