/-
  The library's calls on bytes, in our words.
-/
import Derived.Test.YtcgpfhkndbggiaaKit
import Derived.Test.YtcgpfhkndbggiaaPlain
import Derived.Test.YtcgpfhkndbggiaaShelf
import Derived.Lib.SlBytesRowKit2
namespace Go.Proofs.Ytcgpfhkndbggiaa
open Go.RowKit
/-- The library's variable holds some number. -/
def MaxAt (w : World) : Prop := ∃ m, w.cell? ⟨0, 0, none⟩ = some (.int .i64 m)

def nums (l : List UInt8) : List Int := l.map fun x => (x.toNat : Int)
theorem nums_length (l : List UInt8) : (nums l).length = l.length := by simp [nums]
theorem nums_bytes (l : List UInt8) : Lib.bytesOf (nums l) = l := by
  unfold Lib.bytesOf nums
  rw [List.map_map]
  refine (List.map_congr_left fun x _ => ?_).trans (List.map_id l)
  show UInt8.ofNat (x.toNat : Int).toNat = x
  rw [Int.toNat_natCast, UInt8.ofNat_toNat]
theorem nums_range (l : List UInt8) : ∀ x ∈ nums l, 0 ≤ x ∧ x < 256 := by
  intro x hx
  obtain ⟨y, _, rfl⟩ := List.mem_map.1 hx
  have := UInt8.toNat_lt y
  omega
theorem nums_get (l : List UInt8) (i : Nat) (x : UInt8) (h : l[i]? = some x) : (nums l).getD i 0 = (x.toNat : Int) := by simp [nums, List.getD, h]
theorem IsBytes.at {w : World} {p : Addr} {c : Nat} {l : List UInt8} (h : IsBytes w (some p) c l) : ∀ i, i < l.length → w.cell? (p.add i) = some (.int .u8 ((nums l).getD i 0)) := by
  intro i hi
  obtain ⟨x, hx⟩ : ∃ x, l[i]? = some x := ⟨_, List.getElem?_eq_getElem hi⟩
  rcases h.2.2 with rfl | ⟨b, o, e, _, hc⟩
  · simp at hi
  · cases e
    rw [Go.WideShapes.add_plain, nums_get l i x hx]
    exact hc i x hx
theorem IsBytes.in {w : World} {a : Option Addr} {c : Nat} {l : List UInt8} (h : IsBytes w a c l) : Lib.BytesIn w a l.length (nums l) := by
  intro hl
  rcases h.2.2 with rfl | ⟨b, o, rfl, _, hc⟩
  · simp at hl
  · refine ⟨b, o, rfl, fun i hi => ?_⟩
    obtain ⟨x, hx⟩ : ∃ x, l[i]? = some x := ⟨_, List.getElem?_eq_getElem hi⟩
    rw [nums_get l i x hx]
    exact hc i x hx
theorem IsBytes.take {w : World} {a : Option Addr} {c : Nat} {l : List UInt8} (h : IsBytes w a c l) (k : Nat) : IsBytes w a c (l.take k) := by
  obtain ⟨h1, h2, h3⟩ := h
  refine ⟨by simp; omega, h2, ?_⟩
  rcases h3 with rfl | ⟨b, o, rfl, hb, hc⟩
  · exact .inl (by simp)
  · refine .inr ⟨b, o, rfl, hb, fun j x hj => hc j x ?_⟩
    rw [List.getElem?_take] at hj
    split at hj
    · exact hj
    · cases hj
theorem nums_u8s (l : List UInt8) : (nums l).map (Value.int .u8) = u8s l := by simp [nums, u8s]

theorem clone_any (a : Option Addr) (c : Nat) (l : List UInt8) (w : World) (h : IsBytes w a c l) (hb : l.length ≤ 140737488355328) :
    Calls Try.prog 42 #[.slice a l.length c] w fun e w' => ∃ v', e = .returned v' ∧ Own w' w.heap.size v' l ∧ Below w.heap.size w w' := by
  cases a with
  | none =>
    obtain rfl : l = [] := by
      rcases h.2.2 with h | ⟨_, _, e, _⟩
      · exact h
      · cases e
    refine (Try.bytes_Clone_nil 0 c w).mono ?_
    rintro e w' ⟨rfl, rfl⟩
    exact ⟨_, rfl, Own.nil _ _, Below.refl _ _⟩
  | some p =>
    refine (Try.bytes_Clone_at p l.length c (nums l) w (nums_length l) hb h.at).mono ?_
    rintro e w' ⟨v', rfl, ho, _, B⟩
    rw [nums_u8s] at ho
    exact ⟨v', rfl, ho, B⟩
theorem ends_nums : nums [13, 10] = [13, 10] := by decide
theorem two_range : ∀ y ∈ ([13, 10] : List Int), 0 ≤ y ∧ y < 256 := by decide
theorem index_any (a a2 : Option Addr) (c c2 : Nat) (l : List UInt8) (w : World) (h : IsBytes w a c l) (ha : a = none → c = 0) (h2 : IsBytes w a2 c2 [13, 10]) (hs : l.length < 4294967281) (hm : MaxAt w) :
    Calls Try.prog 56 #[.slice a l.length c, .slice a2 2 c2] w fun e w' => e = .returned (.int .i64 ((find l).elim (-1) (fun k => (k : Int)))) ∧ Below w.heap.size w w' := by
  obtain ⟨m, hm⟩ := hm
  cases a with
  | none =>
    obtain rfl : l = [] := by
      rcases h.2.2 with h | ⟨_, _, e, _⟩
      · exact h
      · cases e
    obtain rfl := ha rfl
    refine (Try.bytes_Index_nil a2 2 c2 w (by decide) (fun h => by cases h)).mono ?_
    rintro e w' ⟨rfl, rfl⟩
    exact ⟨rfl, Below.refl _ _⟩
  | some p =>
    cases a2 with
    | none =>
      rcases h2.2.2 with h | ⟨_, _, e, _⟩
      · cases h
      · cases e
    | some p2 =>
      refine (Try.bytes_Index_at p p2 l.length c 2 c2 (nums l) [13, 10] m w (nums_length l) rfl (nums_range l) two_range h.at (fun i hi => by have := h2.at i hi; rwa [ends_nums] at this) h.1 hs (by decide) hm).mono ?_
      rintro e w' ⟨rfl, q, rfl⟩
      refine ⟨?_, below_drewN (Below.refl _ w) q⟩
      rw [nums_bytes, show Lib.bytesOf [13, 10] = [13, 10] from rfl, find_index]
theorem contains_any (a a2 : Option Addr) (c c2 : Nat) (l : List UInt8) (w : World) (h : IsBytes w a c l) (ha : a = none → c = 0) (h2 : IsBytes w a2 c2 [13, 10]) (hs : l.length < 4294967281) (hm : MaxAt w) :
    Calls Try.prog 51 #[.slice a l.length c, .slice a2 2 c2] w fun e w' => e = .returned (.bool (find l).isSome) ∧ Below w.heap.size w w' := by
  obtain ⟨m, hm⟩ := hm
  cases a with
  | none =>
    obtain rfl : l = [] := by
      rcases h.2.2 with h | ⟨_, _, e, _⟩
      · exact h
      · cases e
    obtain rfl := ha rfl
    refine (Try.bytes_Contains_nil a2 2 c2 w (by decide) (fun h => by cases h)).mono ?_
    rintro e w' ⟨rfl, rfl⟩
    exact ⟨rfl, Below.refl _ _⟩
  | some p =>
    cases a2 with
    | none =>
      rcases h2.2.2 with h | ⟨_, _, e, _⟩
      · cases h
      · cases e
    | some p2 =>
      refine (Try.bytes_Contains_at p p2 l.length c 2 c2 (nums l) [13, 10] m w (nums_length l) rfl (nums_range l) two_range h.at (fun i hi => by have := h2.at i hi; rwa [ends_nums] at this) h.1 hs (by decide) hm).mono ?_
      rintro e w' ⟨rfl, q, rfl⟩
      refine ⟨?_, below_drewN (Below.refl _ w) q⟩
      rw [nums_bytes, show Lib.bytesOf [13, 10] = [13, 10] from rfl]
      unfold Lib.contains
      rw [find_index]
      cases find l with
      | none => rfl
      | some k => simp
theorem cut_any (a a2 : Option Addr) (c c2 : Nat) (l : List UInt8) (w : World) (h : IsBytes w a c l) (ha : a = none → c = 0) (h2 : IsBytes w a2 c2 [13, 10]) (hs : l.length < 4294967281) (hm : MaxAt w) :
    Calls Try.prog 54 #[.slice a l.length c, .slice a2 2 c2] w fun e w' => (∃ n r, e = .returned (.tuple #[.slice a n c, r, .bool (find l).isSome]) ∧ ∀ k, find l = some k → n = k) ∧ Below w.heap.size w w' := by
  obtain ⟨m, hm⟩ := hm
  refine (Try.bytes_Cut_all a a2 l.length c 2 c2 (nums l) [13, 10] m w (nums_length l) rfl (nums_range l) two_range h.in (by have := h2.in; rwa [ends_nums] at this) ha h.1 hs (by decide) hm).mono ?_
  rintro e w' ⟨rfl, q, rfl⟩
  refine ⟨?_, below_drewN (Below.refl _ w) q⟩
  rw [nums_bytes, show Lib.bytesOf [13, 10] = [13, 10] from rfl, find_index]
  cases find l with
  | none => exact ⟨_, _, rfl, fun k h => by cases h⟩
  | some k =>
    exact ⟨k, Lib.fromV a l.length c (k + 2), rfl, fun j h => by cases h; rfl⟩
theorem cutSuffix_any (a a2 : Option Addr) (c c2 : Nat) (l : List UInt8) (w : World) (h : IsBytes w a c l) (h2 : IsBytes w a2 c2 [13, 10]) :
    Calls Try.prog 55 #[.slice a l.length c, .slice a2 2 c2] w fun e w' => (∃ n c', e = .returned (.tuple #[.slice a n c', .bool (Lib.hasSuffix l [13, 10])]) ∧ (Lib.hasSuffix l [13, 10] = true → n = l.length - 2 ∧ IsBytes w a c' (l.take (l.length - 2)))) ∧ w' = w := by
  have hmx := h.2.1
  unfold maxLen at hmx
  refine (Try.bytes_CutSuffix_all a a2 l.length c 2 c2 (nums l) [13, 10] w (nums_length l) rfl h.1 (by have := h.1; omega) h.in (by have := h2.in; rwa [ends_nums] at this)).mono ?_
  rintro e w' ⟨rfl, rfl⟩
  refine ⟨?_, rfl⟩
  have e := trimSuffixV_eq (c := c) (ys := [13, 10]) (nums_length l) h.in
  rw [e, nums_bytes, show Lib.bytesOf [13, 10] = [13, 10] from rfl]
  by_cases hs : Lib.hasSuffix l [13, 10] = true
  · rw [if_pos hs]
    exact ⟨_, _, rfl, fun _ => ⟨rfl, h.take _⟩⟩
  · rw [if_neg hs]
    exact ⟨_, _, rfl, fun h => absurd h hs⟩
end Go.Proofs.Ytcgpfhkndbggiaa
