/-
  LCopied, Same, LLent.
-/
import Derived.Test.YtnpofjeiamjioaaKit
import Derived.Deep.QuietTactic
import Derived.Deep.DeepMust
import Derived.Lib.SliceRun
import Derived.Deep.WholeRow
namespace Go.Proofs.Ytnpofjeiamjioaa
open Go.RowKit Go.Lib

theorem Own.lit (w : World) (B : Nat) (hB : B ≤ w.heap.size) : Own (w.alloc (.cells #[] 5)) B (.slice (some ⟨w.heap.size, 0, none⟩) 0 0) [] := World.ownsRow_made w #[] 0 hB (by unfold maxLen; omega) (by simp)

set_option maxHeartbeats 1000000 in
set_option maxRecDepth 1000000 in
theorem lcopied_any (a : Option Addr) (c : Nat) (l : List UInt8) (w : World) (hl : IsBytes w a c l) (hb : l.length ≤ 140737488355328) :
    Calls Try.prog 33 #[.slice a l.length c] w fun e w' => ∃ v, e = .returned v ∧ Own w' w.heap.size v l ∧ Below w.heap.size w w' ∧ v ≠ .slice none 0 0 := by
  have HL : Hid (IsBytes w a c l) := hl
  clear hl
  go_enter Try.func33, Try.ntmps33
  go_wp2_with (at_builtin; go_must (refine wpList_append8 rfl (.tmp 5) (.tmp 6) rfl w.heap.size (.slice (some ⟨w.heap.size, 0, none⟩) 0 0) [] rfl (Own.lit w _ (Nat.le_refl _)) a c l rfl (HL.out.below ((Below.refl _ w).alloc (Nat.le_refl _) _)) (by simp; omega) (by simp) ?_; intro v1 w1 hown1 hgr1 _ _ hnil1))
  go_ret
  refine ⟨v1, rfl, hown1, ((Below.refl _ w).alloc (Nat.le_refl _) _).grown hgr1 (by simp) (fun k hk => by simp [Value.ownBlock] at hk; omega), fun h => by simpa using hnil1.1 h⟩
end Go.Proofs.Ytnpofjeiamjioaa

namespace Go.Proofs.Ytnpofjeiamjioaa
open Go.RowKit

set_option maxHeartbeats 400000 in
set_option maxRecDepth 1000000 in
theorem same_any (a1 a2 : Option Addr) (c1 c2 : Nat) (xs ys : List UInt8) (w : World) (h1 : IsBytes w a1 c1 xs) (h2 : IsBytes w a2 c2 ys) :
    Calls Try.prog 22 #[.slice a1 xs.length c1, .slice a2 ys.length c2] w fun e w' => e = .returned (.bool (decide (xs = ys))) ∧ ∃ n, w' = w.drewN n := by
  obtain ⟨h11, h12, h13⟩ := h1
  obtain ⟨h21, h22, h23⟩ := h2
  unfold maxLen at h12 h22
  have H1 : Hid (xs = [] ∨ ∃ b o, a1 = some ⟨b, o, none⟩ ∧ b < w.heap.size ∧ ∀ (j : Nat) x, xs[j]? = some x → w.cell? ⟨b, o + j, none⟩ = some (.int .u8 (x.toNat : Int))) := h13
  have H2 : Hid (ys = [] ∨ ∃ b o, a2 = some ⟨b, o, none⟩ ∧ b < w.heap.size ∧ ∀ (j : Nat) x, ys[j]? = some x → w.cell? ⟨b, o + j, none⟩ = some (.int .u8 (x.toNat : Int))) := h23
  clear h13 h23
  by_cases hl : xs.length = ys.length
  · have HL : Hid (xs.length = ys.length) := hl
    have hne : ((xs.length : Int) != (ys.length : Int)) = false := by simp [hl]
    clear hl
    go_enter Try.func22, Try.ntmps22
    go_wp2
    go_loopw [5] (fun i wr => ∃ k : Nat, k ≤ xs.length ∧ i = .int .i64 k ∧ (∃ n, wr = w.drewN n) ∧ xs.take k = ys.take k) (fun i _ => xs.length - (intOf i).toNat)
    case atStart => exact ⟨0, Nat.zero_le _, rfl, ⟨0, rfl⟩, by simp⟩
    case round =>
      obtain ⟨k, hk, rfl, ⟨n, rfl⟩, ht⟩ := hrel
      have HT : Hid (xs.take k = ys.take k) := ht
      clear ht
      by_cases hlt : k < xs.length
      · have hlt2 : k < ys.length := by have := HL.out; omega
        obtain ⟨x, hx⟩ : ∃ x, xs[k]? = some x := ⟨_, List.getElem?_eq_getElem hlt⟩
        obtain ⟨y, hy⟩ : ∃ y, ys[k]? = some y := ⟨_, List.getElem?_eq_getElem hlt2⟩
        rcases H1.out with rfl | ⟨b1, o1, rfl, hb1, hc1⟩
        · simp at hlt
        rcases H2.out with rfl | ⟨b2, o2, rfl, hb2, hc2⟩
        · simp at hlt2
        have c1x : w.cell? ⟨b1, o1 + k, none⟩ = some (.int .u8 (x.toNat : Int)) := hc1 k x hx
        have c2y : w.cell? ⟨b2, o2 + k, none⟩ = some (.int .u8 (y.toNat : Int)) := hc2 k y hy
        have HX : Hid (xs[k]? = some x) := hx
        have HY : Hid (ys[k]? = some y) := hy
        clear hx hy hc1 hc2
        by_cases hxy : x = y
        · subst hxy
          have hxx : ((x.toNat : Int) != (x.toNat : Int)) = false := by simp
          go_wp2
          go_region
          all_goals (try go_wp2)
          all_goals go_roundw
          case rel =>
            refine ⟨k + 1, by omega, by go_num, ⟨_, rfl⟩, ?_⟩
            rw [List.take_add_one, List.take_add_one, HX.out, HY.out, HT.out]
          case measure => simp [intOf]; omega
        · have hxn : ¬ (x.toNat : Int) = (y.toNat : Int) := fun h => hxy (UInt8.toNat_inj.1 (by omega))
          have hxx : ((x.toNat : Int) != (y.toNat : Int)) = true := by simp; omega
          have HN : Hid (xs ≠ ys) := fun h => by
            have h1 := HX.out
            rw [h, HY.out] at h1
            exact hxy (Option.some.inj h1).symm
          clear hxy
          go_wp2
          go_region
          all_goals (try go_wp2)
          all_goals go_ret
          exact ⟨by simp [HN.out], _, rfl⟩
      · go_wp2
        go_ret
        have := HT.out
        have hL := HL.out
        rw [List.take_of_length_le (by omega), List.take_of_length_le (by omega)] at this
        exact ⟨by simp [this], n, rfl⟩
  · have hne : ((xs.length : Int) != (ys.length : Int)) = true := by simp; omega
    have HN : Hid (xs ≠ ys) := fun h => hl (by rw [h])
    clear hl
    go_enter Try.func22, Try.ntmps22
    go_wp2
    go_ret
    exact ⟨by simp [HN.out], 0, rfl⟩
end Go.Proofs.Ytnpofjeiamjioaa

namespace Go.Proofs.Ytnpofjeiamjioaa
open Go.RowKit Go.Lib

/-- What stands behind the end of what is lent. -/
def marks (k : Nat) : List UInt8 := List.replicate k 165
theorem marks_succ (l : List UInt8) (k : Nat) : (l ++ marks k) ++ [165] = l ++ marks (k + 1) := by simp [marks, List.replicate_succ']

theorem Own.ofNew (w : World) (x : UInt8) : IsBytes (w.alloc (.cells #[.int .u8 (x.toNat : Int)] 5)) (some ⟨w.heap.size, 0, none⟩) 1 [x] :=
  ByteRow.is (show ByteRow _ 5 w.heap.size [x] from heap_alloc_last _ _) 0 1 [x] (fun j y hj => by rw [Nat.zero_add]; exact hj) (by simp) (by unfold maxLen; decide)

set_option maxHeartbeats 1000000 in
set_option maxRecDepth 1000000 in
theorem lent_any (a : Option Addr) (c : Nat) (l : List UInt8) (w : World) (hl : IsBytes w a c l) (hb : l.length ≤ 140737488355000) :
    Calls Try.prog 40 #[.slice a l.length c] w fun e w' => ∃ g cap, e = .returned (.slice (some ⟨g, 0, none⟩) (l.length + 8) cap) ∧ Own w' w.heap.size (.slice (some ⟨g, 0, none⟩) (l.length + 8) cap) (l ++ marks 8) ∧ Below w.heap.size w w' := by
  have HL : Hid (IsBytes w a c l) := hl
  clear hl
  go_enter Try.func40, Try.ntmps40
  go_wp2_with fail
  refine (lcopied_any a c l w HL.out (by omega)).mono ?_
  rintro e w1 ⟨v1, rfl, own1, B1, _⟩
  have OWN1 : Hid (Own w1 w.heap.size v1 l) := own1
  have HB1 : Hid (Below w.heap.size w w1) := B1
  clear own1 B1
  go_wp2
  go_loopw [3, 4] (fun v i wr => ∃ k : Nat, k ≤ 8 ∧ i = .int .i64 k ∧ Own wr w.heap.size v (l ++ marks k) ∧ Below w.heap.size w wr) (fun _ i _ => 8 - (intOf i).toNat)
  case atStart => exact ⟨0, by omega, rfl, by simpa [marks] using OWN1.out, HB1.out⟩
  case round =>
    obtain ⟨k, hk, rfl, own, B⟩ := hrel
    have OWN : Hid (Own wr w.heap.size u3 (l ++ marks k)) := own
    have HB : Hid (Below w.heap.size w wr) := B
    clear own B
    have hml : (l ++ marks k).length = l.length + k := by simp [marks]
    by_cases hlt : k < 8
    · have hz := HB.out.size
      go_wp2_with (at_builtin; go_must (refine wpList_append8 rfl (.tmp 11) (.tmp 12) rfl w.heap.size u3 (l ++ marks k) rfl (OWN.out.below ((Below.refl _ wr).alloc (Nat.le_refl _) _)) (some ⟨wr.heap.size, 0, none⟩) 1 [165] rfl (Own.ofNew wr 165) (by rw [hml]; simp; omega) (by simp; omega) ?_; intro v2 w2 own2 gr2 _ _ _))
      go_roundw
      case rel => exact ⟨k + 1, by omega, by go_num, by rw [← marks_succ]; exact own2, (HB.out.alloc hz _).grown gr2 (by simp; omega) (fun j hj => (OWN.out.lt j hj).1)⟩
      case measure => simp [intOf]; omega
    · obtain rfl : k = 8 := by omega
      have hown := OWN.out
      rcases hown.2 with ⟨_, h0⟩ | ⟨g, cap, cur, hv, _⟩
      · rw [hml] at h0; omega
      · rw [hml] at hv
        subst hv
        go_wp2
        go_ret
        exact ⟨g, cap, rfl, hown, HB.out⟩

set_option maxHeartbeats 1000000 in
set_option maxRecDepth 1000000 in
theorem still_any (a1 : Option Addr) (c1 : Nat) (a2 : Option Addr) (c2 : Nat) (l : List UInt8) (w : World) (h1 : IsBytes w a1 c1 (l ++ marks 8)) (h2 : IsBytes w a2 c2 l) :
    Calls Try.prog 42 #[.slice a1 (l.length + 8) c1, .slice a2 l.length c2] w fun e w' => e = .returned (.bool true) ∧ ∃ n, w' = w.drewN n := by
  have hml : (l ++ marks 8).length = l.length + 8 := by simp [marks]
  have hc : l.length + 8 ≤ c1 := by have := h1.1; omega
  have hm : c1 ≤ 9223372036854775807 := by have := h1.2.1; unfold maxLen at this; omega
  have H1 : Hid (IsBytes w a1 c1 (l ++ marks 8)) := h1
  have H2 : Hid (IsBytes w a2 c2 l) := h2
  have hs : IsBytes w a1 c1 l := by
    obtain ⟨_, h12, h13⟩ := h1
    refine ⟨by omega, h12, ?_⟩
    rcases h13 with h | ⟨b, o, ha, hb, hcell⟩
    · rw [h] at hml; simp at hml
    · refine .inr ⟨b, o, ha, hb, fun j x hj => hcell j x ?_⟩
      rw [List.getElem?_append_left (List.getElem?_eq_some_iff.1 hj).1]
      exact hj
  have HS : Hid (IsBytes w a1 c1 l) := hs
  clear h1 h2 hs hml
  have hlc : l.length ≤ c1 := by omega
  rcases H1.out.2.2 with h | ⟨b, o, rfl, hb, hcell⟩
  · have := congrArg List.length h; simp [marks] at this
  have hcm : ∀ j, l.length ≤ j → j < l.length + 8 → w.cell? ⟨b, o + j, none⟩ = some (.int .u8 165) := fun j h1 h2 => hcell j 165 (by
    rw [List.getElem?_append_right h1]
    unfold marks
    rw [List.getElem?_replicate_of_lt (by omega)])
  have HCM : Hid (∀ j, l.length ≤ j → j < l.length + 8 → w.cell? ⟨b, o + j, none⟩ = some (.int .u8 165)) := hcm
  clear hcell hcm
  go_enter Try.func42, Try.ntmps42
  go_wp2_with (go_at_call 22; refine (same_any _ _ _ _ l l _ HS.out H2.out).mono ?_; rintro e w1 ⟨rfl, n1, hW⟩; subst hW; rw [show decide (l = l) = true from decide_eq_true rfl])
  go_loop [6] (fun i => ∃ k : Nat, l.length ≤ k ∧ k ≤ l.length + 8 ∧ i = .int .i64 k) (fun i => l.length + 8 - (intOf i).toNat)
  case atStart => exact ⟨l.length, Nat.le_refl _, by omega, rfl⟩
  case round =>
    obtain ⟨k, hk1, hk2, rfl⟩ := hrel
    by_cases hlt : k < l.length + 8
    · have hck : w.cell? ⟨b, o + k, none⟩ = some (.int .u8 165) := HCM.out k hk1 hlt
      go_wp2
      go_round
      case rel => exact ⟨k + 1, by omega, by omega, by go_num⟩
      case measure => simp [intOf]; omega
    · go_wp2
      go_ret
      exact ⟨rfl, n1, rfl⟩
end Go.Proofs.Ytnpofjeiamjioaa
