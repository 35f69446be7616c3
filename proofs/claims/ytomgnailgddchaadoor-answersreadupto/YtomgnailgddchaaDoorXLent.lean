/-
  The walks of lent and still.
-/
import Derived.Test.YtomgnailgddchaaDoorJH
import Derived.Test.YtomgnailgddchaaDoorJL
import Derived.Deep.WholeRow
namespace Go.Proofs.YtomgnailgddchaaDoor
open Go.RowKit Go.Lib

/-- What stands behind the end of what is lent. -/
def marks (k : Nat) : List UInt8 := List.replicate k 165
theorem marks_succ (l : List UInt8) (k : Nat) : (l ++ marks k) ++ [165] = l ++ marks (k + 1) := by simp [marks, List.replicate_succ']

theorem Own.ofNew (w : World) (x : UInt8) : IsBytes (w.alloc (.cells #[.int .u8 (x.toNat : Int)] 5)) (some ⟨w.heap.size, 0, none⟩) 1 [x] :=
  ByteRow.is (show ByteRow _ 5 w.heap.size [x] from heap_alloc_last _ _) 0 1 [x] (fun j y hj => by rw [Nat.zero_add]; exact hj) (by simp) (by unfold maxLen; decide)

set_option maxHeartbeats 1000000 in
set_option maxRecDepth 1000000 in
theorem lent_any (a : Option Addr) (c : Nat) (l : List UInt8) (w : World) (hl : IsBytes w a c l) (hb : l.length ≤ 140737488355000) :
    Calls Tryd.prog 20 #[.slice a l.length c] w fun e w' => ∃ g cap, e = .returned (.slice (some ⟨g, 0, none⟩) (l.length + 8) cap) ∧ Own w' w.heap.size (.slice (some ⟨g, 0, none⟩) (l.length + 8) cap) (l ++ marks 8) ∧ Below w.heap.size w w' := by
  have HL : Hid (IsBytes w a c l) := hl
  clear hl
  go_enter Tryd.func20, Tryd.ntmps20
  go_wp2_with fail
  refine (copied_any a c l w HL.out (by omega)).mono ?_
  rintro e w1 ⟨v1, rfl, own1, B1, _⟩
  have OWN1 : Hid (Own w1 w.heap.size v1 l) := own1
  have HB1 : Hid (Below w.heap.size w w1) := B1
  clear own1 B1
  go_wp2
  go_loopw [3, 4] (fun v i wr => ∃ k : Nat, k ≤ 8 ∧ i = .int .i64 k ∧ Own wr w.heap.size v (l ++ marks k) ∧ Below w.heap.size w wr) (fun _ i _ => 8 - (intOf i).toNat)
  case atStart => exact ⟨0, by omega, rfl, by simpa [marks] using OWN1.out, HB1.out⟩
  case round =>
    obtain ⟨k, hk, rfl, own, B⟩ := hrel
    have OWN : Hid (Own wr w.heap.size u3 (l ++ marks k)) := own
    have HB : Hid (Below w.heap.size w wr) := B
    clear own B
    have hml : (l ++ marks k).length = l.length + k := by simp [marks]
    by_cases hlt : k < 8
    · have hz := HB.out.size
      go_wp2_with (at_builtin; go_must (refine wpList_append8 rfl (.tmp 11) (.tmp 12) rfl w.heap.size u3 (l ++ marks k) rfl (OWN.out.below ((Below.refl _ wr).alloc (Nat.le_refl _) _)) (some ⟨wr.heap.size, 0, none⟩) 1 [165] rfl (Own.ofNew wr 165) (by rw [hml]; simp; omega) (by simp; omega) ?_; intro v2 w2 own2 gr2 _ _ _))
      go_roundw
      case rel => exact ⟨k + 1, by omega, by go_num, by rw [← marks_succ]; exact own2, (HB.out.alloc hz _).grown gr2 (by simp; omega) (fun j hj => (OWN.out.lt j hj).1)⟩
      case measure => simp [intOf]; omega
    · obtain rfl : k = 8 := by omega
      have hown := OWN.out
      rcases hown.2 with ⟨_, h0⟩ | ⟨g, cap, cur, hv, _⟩
      · rw [hml] at h0; omega
      · rw [hml] at hv
        subst hv
        go_wp2
        go_ret
        exact ⟨g, cap, rfl, hown, HB.out⟩

set_option maxHeartbeats 1000000 in
set_option maxRecDepth 1000000 in
theorem still_any (a1 : Option Addr) (c1 : Nat) (a2 : Option Addr) (c2 : Nat) (l : List UInt8) (w : World) (h1 : IsBytes w a1 c1 (l ++ marks 8)) (h2 : IsBytes w a2 c2 l) :
    Calls Tryd.prog 22 #[.slice a1 (l.length + 8) c1, .slice a2 l.length c2] w fun e w' => e = .returned (.bool true) ∧ ∃ n, w' = w.drewN n := by
  have hml : (l ++ marks 8).length = l.length + 8 := by simp [marks]
  have hc : l.length + 8 ≤ c1 := by have := h1.1; omega
  have hm : c1 ≤ 9223372036854775807 := by have := h1.2.1; unfold maxLen at this; omega
  have H1 : Hid (IsBytes w a1 c1 (l ++ marks 8)) := h1
  have H2 : Hid (IsBytes w a2 c2 l) := h2
  have hs : IsBytes w a1 c1 l := by
    obtain ⟨_, h12, h13⟩ := h1
    refine ⟨by omega, h12, ?_⟩
    rcases h13 with h | ⟨b, o, ha, hb, hcell⟩
    · rw [h] at hml; simp at hml
    · refine .inr ⟨b, o, ha, hb, fun j x hj => hcell j x ?_⟩
      rw [List.getElem?_append_left (List.getElem?_eq_some_iff.1 hj).1]
      exact hj
  have HS : Hid (IsBytes w a1 c1 l) := hs
  clear h1 h2 hs hml
  have hlc : l.length ≤ c1 := by omega
  rcases H1.out.2.2 with h | ⟨b, o, rfl, hb, hcell⟩
  · have := congrArg List.length h; simp [marks] at this
  have hcm : ∀ j, l.length ≤ j → j < l.length + 8 → w.cell? ⟨b, o + j, none⟩ = some (.int .u8 165) := fun j h1 h2 => hcell j 165 (by
    rw [List.getElem?_append_right h1]
    unfold marks
    rw [List.getElem?_replicate_of_lt (by omega)])
  have HCM : Hid (∀ j, l.length ≤ j → j < l.length + 8 → w.cell? ⟨b, o + j, none⟩ = some (.int .u8 165)) := hcm
  clear hcell hcm
  go_enter Tryd.func22, Tryd.ntmps22
  go_wp2_with (go_at_call 29; refine (same_any _ _ _ _ l l _ HS.out H2.out).mono ?_; rintro e w1 ⟨rfl, n1, hW⟩; subst hW; rw [show decide (l = l) = true from decide_eq_true rfl])
  go_loop [6] (fun i => ∃ k : Nat, l.length ≤ k ∧ k ≤ l.length + 8 ∧ i = .int .i64 k) (fun i => l.length + 8 - (intOf i).toNat)
  case atStart => exact ⟨l.length, Nat.le_refl _, by omega, rfl⟩
  case round =>
    obtain ⟨k, hk1, hk2, rfl⟩ := hrel
    by_cases hlt : k < l.length + 8
    · have hck : w.cell? ⟨b, o + k, none⟩ = some (.int .u8 165) := HCM.out k hk1 hlt
      go_wp2
      go_round
      case rel => exact ⟨k + 1, by omega, by omega, by go_num⟩
      case measure => simp [intOf]; omega
    · go_wp2
      go_ret
      exact ⟨rfl, n1, rfl⟩
end Go.Proofs.YtomgnailgddchaaDoor
