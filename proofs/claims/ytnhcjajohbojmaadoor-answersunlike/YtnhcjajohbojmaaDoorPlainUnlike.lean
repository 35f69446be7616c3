/-
  Unlike replies have unlike bytes, none begins the other.
-/
import Derived.Test.YtnhcjajohbojmaaDoorPlainPut
namespace Go.Proofs.YtnhcjajohbojmaaDoor

theorem put_begins {a b : Rp} (ha : rightB a = true) (hb : rightB b = true) {n : Nat} (hn : (putL a).length ≤ n) (h : (putL a).take n = (putL b).take (putL a).length) : a = b := by
  rw [List.take_of_length_le hn] at h
  have e : putL b = putL a ++ (putL b).drop (putL a).length := by
    conv => lhs; rw [← List.take_append_drop (putL a).length (putL b), ← h]
  have h1 := put_read ha ((putL b).drop (putL a).length)
  rw [← e] at h1
  have h2 := put_read hb []
  rw [List.append_nil, h1] at h2
  exact (Prod.mk.inj h2).1
/-- Of two right replies: the first n bytes of both are alike just if they are. -/
theorem put_unlike {a b : Rp} (ha : rightB a = true) (hb : rightB b = true) : (putL a).take (min (putL a).length (putL b).length) = (putL b).take (min (putL a).length (putL b).length) ↔ a = b := by
  constructor
  · intro h
    rcases Nat.le_total (putL a).length (putL b).length with hl | hl
    · rw [Nat.min_eq_left hl] at h
      exact put_begins ha hb (Nat.le_refl _) h
    · rw [Nat.min_eq_right hl] at h
      exact (put_begins hb ha (Nat.le_refl _) h.symm).symm
  · rintro rfl
    rfl
end Go.Proofs.YtnhcjajohbojmaaDoor
