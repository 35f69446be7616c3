/-
  Beyond, BeyondF.
-/
import Derived.Test.YtpfbfkjmdlogcaaDoorSameS
namespace Go.Proofs.YtpfbfkjmdlogcaaDoor
open Go.RowKit

/-- A call that answers yes or no. -/
def IsB (e : Ending) : Prop := ∃ b, e = .returned (.bool b)
set_option maxHeartbeats 4000000 in
set_option maxRecDepth 1000000 in
theorem beyond_some (W : World) (j s q : Int) (a : Option Addr) (c : Nat) (l : List Sq) (h : PlayIn W (.slice a l.length c) l) :
    Calls Tryd.prog 14 #[.agg #[.int .i64 j, .int .i64 s, .int .i64 q, .slice a l.length c]] W fun e w' => IsB e ∧ Below W.heap.size W w' := by
  have hml : l.length ≤ 9223372036854775807 := by
    obtain ⟨_, _, _, h1, _⟩ := h.1
    unfold maxLen at h1
    omega
  have b1 : Below W.heap.size W (W.alloc (.cells #[.int .i64 j, .int .i64 s, .int .i64 q, .slice a l.length c] 31)) := (Below.refl _ W).alloc (Nat.le_refl _) _
  have x1 := heap_alloc_new W (.cells #[.int .i64 j, .int .i64 s, .int .i64 q, .slice a l.length c] 31)
  have HP := hide h
  generalize hw1 : W.alloc (.cells #[.int .i64 j, .int .i64 s, .int .i64 q, .slice a l.length c] 31) = w1 at b1 x1
  have HB := hide b1
  have HX := hide x1
  have k3 : w1.cell? ⟨W.heap.size, 3, none⟩ = some (.slice a l.length c) := by simp [World.cell?, x1]
  clear h b1 x1
  go_enter Tryd.func14, Tryd.ntmps14
  go_wp2_with fail
  clear hw1
  go_loopg [3, 4] l.length (fun gk n i wr => ∃ (k : Nat) (t : Int), n = .int .i64 t ∧ i = .int .i64 (k : Int) ∧ k ≤ l.length ∧ l.length - k ≤ gk ∧ wr = w1 ∧ 0 ≤ t ∧ t ≤ 2147483647)
  case atStart => exact ⟨0, 0, rfl, rfl, by omega, by omega, rfl, by omega, by omega⟩
  case round =>
    obtain ⟨k, t, rfl, rfl, hk, hgk, hwr, h0, h1⟩ := hrel
    subst hwr
    by_cases hlt : k < l.length
    · have tlt : (k : Int) < (l.length : Int) := by omega
      obtain ⟨x, hx⟩ : ∃ x, l[k]? = some x := ⟨_, List.getElem?_eq_getElem hlt⟩
      obtain ⟨b, o, e1, _, _, m2, _, m4, hs⟩ := HP.out.at HB.out hx
      obtain ⟨⟨ad, cd, e2, i2⟩, ak, ck, e4, i4⟩ := hs
      rw [e2] at m2
      rw [e4] at m4
      subst e1
      have hd1 : x.p.data.length ≤ 9223372036854775807 := by have := i2.1; have := i2.2.1; unfold maxLen at this; omega
      have hd2 : x.p.keep.length ≤ 9223372036854775807 := by have := i4.2.1; unfold maxLen at this; omega
      clear hx e2 e4 i2 i4
      by_cases c1 : 2147483647 ≤ t + 1
      · go_wp2_with fail
        go_ret
        exact ⟨⟨true, rfl⟩, HB.out⟩
      · by_cases c2 : 2147483647 - (t + 1) < (x.p.data.length : Int)
        · go_wp2_with fail
          go_ret
          exact ⟨⟨true, rfl⟩, HB.out⟩
        · by_cases c3 : 2147483647 - (t + 1 + (x.p.data.length : Int)) < (x.p.keep.length : Int)
          · go_wp2_with fail
            go_ret
            exact ⟨⟨true, rfl⟩, HB.out⟩
          · go_wp2_with fail
            go_roundg (l.length - (k + 1))
            case measure => omega
            case rel => exact ⟨k + 1, t + 1 + (x.p.data.length : Int) + (x.p.keep.length : Int), by go_num, by go_num, by omega, Nat.le_refl _, rfl, by omega, by omega⟩
    · have tlt : ¬ (k : Int) < (l.length : Int) := by omega
      go_wp2_with fail
      go_ret
      exact ⟨⟨false, rfl⟩, HB.out⟩
end Go.Proofs.YtpfbfkjmdlogcaaDoor

namespace Go.Proofs.YtpfbfkjmdlogcaaDoor
open Go.RowKit

/-- A play within the document's bound. -/
def SmallP (l : List Sq) : Prop := l.length ≤ 2147483647 ∧ ∀ x ∈ l, x.p.data.length ≤ 2147483647 ∧ x.p.keep.length ≤ 2147483647
def IsBF (l : List Sq) (e : Ending) : Prop := ∃ b, e = .returned (.bool b) ∧ (b = false → SmallP l)
set_option maxHeartbeats 4000000 in
set_option maxRecDepth 1000000 in
theorem beyond_any (W : World) (j s q : Int) (a : Option Addr) (c : Nat) (l : List Sq) (h : PlayIn W (.slice a l.length c) l) :
    Calls Tryd.prog 14 #[.agg #[.int .i64 j, .int .i64 s, .int .i64 q, .slice a l.length c]] W fun e w' => IsBF l e ∧ Below W.heap.size W w' := by
  have hml : l.length ≤ 9223372036854775807 := by
    obtain ⟨_, _, _, h1, _⟩ := h.1
    unfold maxLen at h1
    omega
  have b1 : Below W.heap.size W (W.alloc (.cells #[.int .i64 j, .int .i64 s, .int .i64 q, .slice a l.length c] 31)) := (Below.refl _ W).alloc (Nat.le_refl _) _
  have x1 := heap_alloc_new W (.cells #[.int .i64 j, .int .i64 s, .int .i64 q, .slice a l.length c] 31)
  have HP := hide h
  generalize hw1 : W.alloc (.cells #[.int .i64 j, .int .i64 s, .int .i64 q, .slice a l.length c] 31) = w1 at b1 x1
  have HB := hide b1
  have HX := hide x1
  have k3 : w1.cell? ⟨W.heap.size, 3, none⟩ = some (.slice a l.length c) := by simp [World.cell?, x1]
  clear h b1 x1
  go_enter Tryd.func14, Tryd.ntmps14
  go_wp2_with fail
  clear hw1
  go_loopg [3, 4] l.length (fun gk n i wr => ∃ (k : Nat) (t : Int), n = .int .i64 t ∧ i = .int .i64 (k : Int) ∧ k ≤ l.length ∧ l.length - k ≤ gk ∧ wr = w1 ∧ 0 ≤ t ∧ t ≤ 2147483647 ∧ (k : Int) ≤ t ∧ Hid (∀ x ∈ l.take k, x.p.data.length ≤ 2147483647 ∧ x.p.keep.length ≤ 2147483647))
  case atStart => exact ⟨0, 0, rfl, rfl, by omega, by omega, rfl, by omega, by omega, by omega, by intro x hx; simp at hx⟩
  case round =>
    obtain ⟨k, t, rfl, rfl, hk, hgk, hwr, h0, h1, hkt, HS⟩ := hrel
    subst hwr
    by_cases hlt : k < l.length
    · have tlt : (k : Int) < (l.length : Int) := by omega
      obtain ⟨x, hx⟩ : ∃ x, l[k]? = some x := ⟨_, List.getElem?_eq_getElem hlt⟩
      obtain ⟨b, o, e1, _, _, m2, _, m4, hs⟩ := HP.out.at HB.out hx
      obtain ⟨⟨ad, cd, e2, i2⟩, ak, ck, e4, i4⟩ := hs
      rw [e2] at m2
      rw [e4] at m4
      subst e1
      have hd1 : x.p.data.length ≤ 9223372036854775807 := by have := i2.1; have := i2.2.1; unfold maxLen at this; omega
      have hd2 : x.p.keep.length ≤ 9223372036854775807 := by have := i4.2.1; unfold maxLen at this; omega
      have HX2 := hide hx
      clear hx e2 e4 i2 i4
      by_cases c1 : 2147483647 ≤ t + 1
      · go_wp2_with fail
        go_ret
        exact ⟨⟨true, rfl, fun h => by cases h⟩, HB.out⟩
      · by_cases c2 : 2147483647 - (t + 1) < (x.p.data.length : Int)
        · go_wp2_with fail
          go_ret
          exact ⟨⟨true, rfl, fun h => by cases h⟩, HB.out⟩
        · by_cases c3 : 2147483647 - (t + 1 + (x.p.data.length : Int)) < (x.p.keep.length : Int)
          · go_wp2_with fail
            go_ret
            exact ⟨⟨true, rfl, fun h => by cases h⟩, HB.out⟩
          · have HS2 : Hid (∀ x ∈ l.take (k + 1), x.p.data.length ≤ 2147483647 ∧ x.p.keep.length ≤ 2147483647) := by
              intro z hz
              rw [List.take_add_one, HX2.out] at hz
              rcases List.mem_append.1 hz with hz | hz
              · exact HS.out z hz
              · have : z = x := by simpa using hz
                subst this
                exact ⟨by omega, by omega⟩
            go_wp2_with fail
            go_roundg (l.length - (k + 1))
            case measure => omega
            case rel => exact ⟨k + 1, t + 1 + (x.p.data.length : Int) + (x.p.keep.length : Int), by go_num, by go_num, by omega, Nat.le_refl _, rfl, by omega, by omega, by omega, HS2⟩
    · have tlt : ¬ (k : Int) < (l.length : Int) := by omega
      have HF : Hid (SmallP l) := by
        refine ⟨by omega, fun z hz => HS.out z ?_⟩
        rw [List.take_of_length_le (by omega)]
        exact hz
      go_wp2_with fail
      go_ret
      exact ⟨⟨false, rfl, fun _ => HF.out⟩, HB.out⟩
end Go.Proofs.YtpfbfkjmdlogcaaDoor
