/-
  The walk of sameReply.
-/
import Derived.Test.YtaaohoombjlhfaaDoorSame
namespace Go.Proofs.YtaaohoombjlhfaaDoor
open Go.RowKit

/-- Are two replies alike? -/
def alikeB (a b : Rp) : Bool := decide (a.kind = b.kind) && decide (a.id = b.id) && decide (a.num = b.num) && decide (a.tube = b.tube) && decide (a.body = b.body)
theorem alike_iff (a b : Rp) : alikeB a b = true ↔ a = b := by
  cases a
  cases b
  simp [alikeB, and_assoc]

set_option maxHeartbeats 2000000 in
set_option maxRecDepth 1000000 in
theorem sameReply_any (r s : Rp) (a1 a2 : Option Addr) (c1 c2 : Nat) (w : World) (h1 : IsBytes w a1 c1 r.body) (h2 : IsBytes w a2 c2 s.body) :
    Calls Tryd.prog 31 #[rpV r (.slice a1 r.body.length c1), rpV s (.slice a2 s.body.length c2)] w fun e w' => e = .returned (.bool (alikeB r s)) ∧ Below w.heap.size w w' := by
  unfold rpV
  obtain ⟨w2, hw2⟩ : ∃ w2, w2 = (w.alloc (.cells #[.int .i64 r.kind, .int .i64 r.id, .int .i64 r.num, .string ⟨r.tube.toArray⟩, .slice a1 r.body.length c1] 24)).alloc (.cells #[.int .i64 s.kind, .int .i64 s.id, .int .i64 s.num, .string ⟨s.tube.toArray⟩, .slice a2 s.body.length c2] 24) := ⟨_, rfl⟩
  have B2 : Below w.heap.size w w2 := by rw [hw2]; exact ((Below.refl _ w).alloc (Nat.le_refl _) _).alloc (by simp) _
  have HS : Hid (Below w.heap.size w w2 ∧ Calls Tryd.prog 14 #[.slice a1 r.body.length c1, .slice a2 s.body.length c2] w2 fun e w' => e = .returned (.bool (decide (r.body = s.body))) ∧ ∃ n, w' = w2.drewN n) := ⟨B2, same_any a1 a2 c1 c2 r.body s.body w2 (h1.below B2) (h2.below B2)⟩
  clear h1 h2 B2
  by_cases e1 : r.kind = s.kind
  · have q1 : (r.kind == s.kind) = true := by simpa using e1
    by_cases e2 : r.id = s.id
    · have q2 : (r.id == s.id) = true := by simpa using e2
      by_cases e3 : r.num = s.num
      · have q3 : (r.num == s.num) = true := by simpa using e3
        by_cases e4 : r.tube = s.tube
        · have HA : Hid (alikeB r s = decide (r.body = s.body)) := by show _ = _; simp [alikeB, e1, e2, e3, e4]
          have q4 : (r.tube == s.tube) = true := by simpa using e4
          clear e1 e2 e3 e4
          go_enter Tryd.func31, Tryd.ntmps31
          go_wp2_with (go_at_call 14; rw [← hw2]; refine HS.out.2.mono ?_; rintro e w3 ⟨rfl, n3, hn3⟩; have H3 : Hid (w3 = w2.drewN n3) := hn3; clear hn3)
          go_ret
          exact ⟨by rw [HA.out]; rfl, by rw [H3.out]; exact below_drewN HS.out.1 n3⟩
        · have q4 : (r.tube == s.tube) = false := by simpa using e4
          have HA : Hid (alikeB r s = false) := by show _ = _; simp [alikeB, e4]
          clear e1 e2 e3 e4
          go_enter Tryd.func31, Tryd.ntmps31
          go_wp2_with fail
          go_ret
          exact ⟨by rw [HA.out]; rfl, by rw [← hw2]; exact HS.out.1⟩
      · have q3 : (r.num == s.num) = false := by simpa using e3
        have HA : Hid (alikeB r s = false) := by show _ = _; simp [alikeB, e3]
        clear e1 e2 e3
        go_enter Tryd.func31, Tryd.ntmps31
        go_wp2_with fail
        go_ret
        exact ⟨by rw [HA.out]; rfl, by rw [← hw2]; exact HS.out.1⟩
    · have q2 : (r.id == s.id) = false := by simpa using e2
      have HA : Hid (alikeB r s = false) := by show _ = _; simp [alikeB, e2]
      clear e1 e2
      go_enter Tryd.func31, Tryd.ntmps31
      go_wp2_with fail
      go_ret
      exact ⟨by rw [HA.out]; rfl, by rw [← hw2]; exact HS.out.1⟩
  · have q1 : (r.kind == s.kind) = false := by simpa using e1
    have HA : Hid (alikeB r s = false) := by show _ = _; simp [alikeB, e1]
    clear e1
    go_enter Tryd.func31, Tryd.ntmps31
    go_wp2_with fail
    go_ret
    exact ⟨by rw [HA.out]; rfl, by rw [← hw2]; exact HS.out.1⟩
end Go.Proofs.YtaaohoombjlhfaaDoor
