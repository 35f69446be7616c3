/-
  Same, SameRep.
-/
import Derived.Test.YtomgnailgddchaaDoorReadA
import Derived.Deep.QuietTactic
import Derived.BigQuiet
namespace Go.Proofs.YtomgnailgddchaaDoor
open Go.RowKit

set_option maxHeartbeats 400000 in
set_option maxRecDepth 1000000 in
theorem same_any (a1 a2 : Option Addr) (c1 c2 : Nat) (xs ys : List UInt8) (w : World) (h1 : IsBytes w a1 c1 xs) (h2 : IsBytes w a2 c2 ys) :
    Calls Tryd.prog 29 #[.slice a1 xs.length c1, .slice a2 ys.length c2] w fun e w' => e = .returned (.bool (decide (xs = ys))) ∧ ∃ n, w' = w.drewN n := by
  obtain ⟨h11, h12, h13⟩ := h1
  obtain ⟨h21, h22, h23⟩ := h2
  unfold maxLen at h12 h22
  have H1 : Hid (xs = [] ∨ ∃ b o, a1 = some ⟨b, o, none⟩ ∧ b < w.heap.size ∧ ∀ (j : Nat) x, xs[j]? = some x → w.cell? ⟨b, o + j, none⟩ = some (.int .u8 (x.toNat : Int))) := h13
  have H2 : Hid (ys = [] ∨ ∃ b o, a2 = some ⟨b, o, none⟩ ∧ b < w.heap.size ∧ ∀ (j : Nat) x, ys[j]? = some x → w.cell? ⟨b, o + j, none⟩ = some (.int .u8 (x.toNat : Int))) := h23
  clear h13 h23
  by_cases hl : xs.length = ys.length
  · have HL : Hid (xs.length = ys.length) := hl
    have hne : ((xs.length : Int) != (ys.length : Int)) = false := by simp [hl]
    clear hl
    go_enter Tryd.func29, Tryd.ntmps29
    go_wp2
    go_loopw [5] (fun i wr => ∃ k : Nat, k ≤ xs.length ∧ i = .int .i64 k ∧ (∃ n, wr = w.drewN n) ∧ xs.take k = ys.take k) (fun i _ => xs.length - (intOf i).toNat)
    case atStart => exact ⟨0, Nat.zero_le _, rfl, ⟨0, rfl⟩, by simp⟩
    case round =>
      obtain ⟨k, hk, rfl, ⟨n, rfl⟩, ht⟩ := hrel
      have HT : Hid (xs.take k = ys.take k) := ht
      clear ht
      by_cases hlt : k < xs.length
      · have hlt2 : k < ys.length := by have := HL.out; omega
        obtain ⟨x, hx⟩ : ∃ x, xs[k]? = some x := ⟨_, List.getElem?_eq_getElem hlt⟩
        obtain ⟨y, hy⟩ : ∃ y, ys[k]? = some y := ⟨_, List.getElem?_eq_getElem hlt2⟩
        rcases H1.out with rfl | ⟨b1, o1, rfl, hb1, hc1⟩
        · simp at hlt
        rcases H2.out with rfl | ⟨b2, o2, rfl, hb2, hc2⟩
        · simp at hlt2
        have c1x : w.cell? ⟨b1, o1 + k, none⟩ = some (.int .u8 (x.toNat : Int)) := hc1 k x hx
        have c2y : w.cell? ⟨b2, o2 + k, none⟩ = some (.int .u8 (y.toNat : Int)) := hc2 k y hy
        have HX : Hid (xs[k]? = some x) := hx
        have HY : Hid (ys[k]? = some y) := hy
        clear hx hy hc1 hc2
        by_cases hxy : x = y
        · subst hxy
          have hxx : ((x.toNat : Int) != (x.toNat : Int)) = false := by simp
          go_wp2
          go_region
          all_goals (try go_wp2)
          all_goals go_roundw
          case rel =>
            refine ⟨k + 1, by omega, by go_num, ⟨_, rfl⟩, ?_⟩
            rw [List.take_add_one, List.take_add_one, HX.out, HY.out, HT.out]
          case measure => simp [intOf]; omega
        · have hxn : ¬ (x.toNat : Int) = (y.toNat : Int) := fun h => hxy (UInt8.toNat_inj.1 (by omega))
          have hxx : ((x.toNat : Int) != (y.toNat : Int)) = true := by simp; omega
          have HN : Hid (xs ≠ ys) := fun h => by
            have h1 := HX.out
            rw [h, HY.out] at h1
            exact hxy (Option.some.inj h1).symm
          clear hxy
          go_wp2
          go_region
          all_goals (try go_wp2)
          all_goals go_ret
          exact ⟨by simp [HN.out], _, rfl⟩
      · go_wp2
        go_ret
        have := HT.out
        have hL := HL.out
        rw [List.take_of_length_le (by omega), List.take_of_length_le (by omega)] at this
        exact ⟨by simp [this], n, rfl⟩
  · have hne : ((xs.length : Int) != (ys.length : Int)) = true := by simp; omega
    have HN : Hid (xs ≠ ys) := fun h => hl (by rw [h])
    clear hl
    go_enter Tryd.func29, Tryd.ntmps29
    go_wp2
    go_ret
    exact ⟨by simp [HN.out], 0, rfl⟩
end Go.Proofs.YtomgnailgddchaaDoor

namespace Go.Proofs.YtomgnailgddchaaDoor
open Go.RowKit

/-- Are two replies alike? -/
def alikeB (a b : Rp) : Bool := decide (a.kind = b.kind) && decide (a.id = b.id) && decide (a.num = b.num) && decide (a.tube = b.tube) && decide (a.body = b.body)
theorem alike_iff (a b : Rp) : alikeB a b = true ↔ a = b := by
  cases a
  cases b
  simp [alikeB, and_assoc]

set_option maxHeartbeats 2000000 in
set_option maxRecDepth 1000000 in
theorem sameReply_any (r s : Rp) (a1 a2 : Option Addr) (c1 c2 : Nat) (w : World) (h1 : IsBytes w a1 c1 r.body) (h2 : IsBytes w a2 c2 s.body) :
    Calls Tryd.prog 25 #[rpV r (.slice a1 r.body.length c1), rpV s (.slice a2 s.body.length c2)] w fun e w' => e = .returned (.bool (alikeB r s)) ∧ Below w.heap.size w w' := by
  unfold rpV
  obtain ⟨w2, hw2⟩ : ∃ w2, w2 = (w.alloc (.cells #[.int .i64 r.kind, .int .i64 r.id, .int .i64 r.num, .string ⟨r.tube.toArray⟩, .slice a1 r.body.length c1] 45)).alloc (.cells #[.int .i64 s.kind, .int .i64 s.id, .int .i64 s.num, .string ⟨s.tube.toArray⟩, .slice a2 s.body.length c2] 45) := ⟨_, rfl⟩
  have B2 : Below w.heap.size w w2 := by rw [hw2]; exact ((Below.refl _ w).alloc (Nat.le_refl _) _).alloc (by simp) _
  have HS : Hid (Below w.heap.size w w2 ∧ Calls Tryd.prog 29 #[.slice a1 r.body.length c1, .slice a2 s.body.length c2] w2 fun e w' => e = .returned (.bool (decide (r.body = s.body))) ∧ ∃ n, w' = w2.drewN n) := ⟨B2, same_any a1 a2 c1 c2 r.body s.body w2 (h1.below B2) (h2.below B2)⟩
  clear h1 h2 B2
  by_cases e1 : r.kind = s.kind
  · have q1 : (r.kind == s.kind) = true := by simpa using e1
    by_cases e2 : r.id = s.id
    · have q2 : (r.id == s.id) = true := by simpa using e2
      by_cases e3 : r.num = s.num
      · have q3 : (r.num == s.num) = true := by simpa using e3
        by_cases e4 : r.tube = s.tube
        · have HA : Hid (alikeB r s = decide (r.body = s.body)) := by show _ = _; simp [alikeB, e1, e2, e3, e4]
          have q4 : (r.tube == s.tube) = true := by simpa using e4
          clear e1 e2 e3 e4
          go_enter Tryd.func25, Tryd.ntmps25
          go_wp2_with (go_at_call 29; rw [← hw2]; refine HS.out.2.mono ?_; rintro e w3 ⟨rfl, n3, hn3⟩; have H3 : Hid (w3 = w2.drewN n3) := hn3; clear hn3)
          go_ret
          exact ⟨by rw [HA.out]; rfl, by rw [H3.out]; exact below_drewN HS.out.1 n3⟩
        · have q4 : (r.tube == s.tube) = false := by simpa using e4
          have HA : Hid (alikeB r s = false) := by show _ = _; simp [alikeB, e4]
          clear e1 e2 e3 e4
          go_enter Tryd.func25, Tryd.ntmps25
          go_wp2_with fail
          go_ret
          exact ⟨by rw [HA.out]; rfl, by rw [← hw2]; exact HS.out.1⟩
      · have q3 : (r.num == s.num) = false := by simpa using e3
        have HA : Hid (alikeB r s = false) := by show _ = _; simp [alikeB, e3]
        clear e1 e2 e3
        go_enter Tryd.func25, Tryd.ntmps25
        go_wp2_with fail
        go_ret
        exact ⟨by rw [HA.out]; rfl, by rw [← hw2]; exact HS.out.1⟩
    · have q2 : (r.id == s.id) = false := by simpa using e2
      have HA : Hid (alikeB r s = false) := by show _ = _; simp [alikeB, e2]
      clear e1 e2
      go_enter Tryd.func25, Tryd.ntmps25
      go_wp2_with fail
      go_ret
      exact ⟨by rw [HA.out]; rfl, by rw [← hw2]; exact HS.out.1⟩
  · have q1 : (r.kind == s.kind) = false := by simpa using e1
    have HA : Hid (alikeB r s = false) := by show _ = _; simp [alikeB, e1]
    clear e1
    go_enter Tryd.func25, Tryd.ntmps25
    go_wp2_with fail
    go_ret
    exact ⟨by rw [HA.out]; rfl, by rw [← hw2]; exact HS.out.1⟩
end Go.Proofs.YtomgnailgddchaaDoor
