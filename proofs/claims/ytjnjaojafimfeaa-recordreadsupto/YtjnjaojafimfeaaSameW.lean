/-
  The walk of same, of two records that are alike.
-/
import Derived.Test.YtjnjaojafimfeaaGetAny
namespace Go.Proofs.Ytjnjaojafimfeaa
open Go.RowKit

theorem below_all4 (w : World) (A N S C : Obj) : Below w.heap.size w ((((w.alloc A).alloc N).alloc S).alloc C) :=
  ((((Below.refl _ w).alloc (Nat.le_refl _) _).alloc (by simp) _).alloc (by simp; omega) _).alloc (by simp; omega) _
theorem info_job : (Try.prog.info? 32).map (·.size) = some 15 := by kernel_rfl
set_option maxHeartbeats 8000000 in
set_option maxRecDepth 1000000 in
theorem same_vars (k x0 x1 x2 x3 x4 x5 x6 x7 x8 x9 x10 x11 x12 x13 x14 x15 : Int) (t : ByteArray) (a1 a2 : Option Addr) (c1 c2 : Nat) (l : List UInt8) (w : World) (h1 : IsBytes w a1 c1 l) (h2 : IsBytes w a2 c2 l) :
    Calls Try.prog 24 #[.agg #[.int .i64 k, .int .i64 x0, .int .i64 x1, .int .i64 x2, .int .i64 x3, .int .i64 x4, .int .i64 x5, .int .i64 x6, .int .i64 x7, .int .i64 x8, .int .i64 x9, .int .i64 x10, .int .i64 x11, .int .i64 x12, .int .i64 x13, .int .i64 x14, .int .i64 x15, .string t, .slice a1 l.length c1], .agg #[.int .i64 k, .int .i64 x0, .int .i64 x1, .int .i64 x2, .int .i64 x3, .int .i64 x4, .int .i64 x5, .int .i64 x6, .int .i64 x7, .int .i64 x8, .int .i64 x9, .int .i64 x10, .int .i64 x11, .int .i64 x12, .int .i64 x13, .int .i64 x14, .int .i64 x15, .string t, .slice a2 l.length c2]] w fun e w' => e = .returned (.bool true) ∧ Below w.heap.size w w' := by
  obtain ⟨T, hT⟩ : ∃ T : ByteArray, T = ⟨l.toArray⟩ := ⟨_, rfl⟩
  have K1 : Hid (∀ W, Below w.heap.size w W → (convert 30 9 (.slice a1 l.length c1)).run Try.prog W = .ok (.string T) W) := fun W hW => by rw [hT]; exact conv_is (h1.below hW) rfl
  have K2 : Hid (∀ W, Below w.heap.size w W → (convert 30 9 (.slice a2 l.length c2)).run Try.prog W = .ok (.string T) W) := fun W hW => by rw [hT]; exact conv_is (h2.below hW) rfl
  obtain ⟨m, hm⟩ : ∃ m, m = l.length := ⟨_, rfl⟩
  rw [← hm] at K1 K2 ⊢
  have q1 : ∀ o1 o2 o3 o4 : Obj, (convert 30 9 (.slice a1 m c1)).run Try.prog ((((w.alloc o1).alloc o2).alloc o3).alloc o4) = .ok (.string T) ((((w.alloc o1).alloc o2).alloc o3).alloc o4) := fun o1 o2 o3 o4 => K1.out _ (below_all4 w o1 o2 o3 o4)
  have q2 : ∀ o1 o2 o3 o4 : Obj, (convert 30 9 (.slice a2 m c2)).run Try.prog ((((w.alloc o1).alloc o2).alloc o3).alloc o4) = .ok (.string T) ((((w.alloc o1).alloc o2).alloc o3).alloc o4) := fun o1 o2 o3 o4 => K2.out _ (below_all4 w o1 o2 o3 o4)
  clear hT hm h1 h2 K1 K2
  go_enter Try.func24, Try.ntmps24
  go_wp2_with fail
  go_ret
  exact ⟨rfl, below_all4 _ _ _ _ _⟩
theorem same_any (r r2 : Rec) (a1 a2 : Option Addr) (c1 c2 : Nat) (l : List UInt8) (w : World) (h1 : IsBytes w a1 c1 l) (h2 : IsBytes w a2 c2 l) (hk : r2.kind = r.kind) (ht : r2.tube = r.tube) (hn : ∀ f, f < 16 → r2.num f = r.num f) :
    Calls Try.prog 24 #[.agg (recA r2 (.slice a1 l.length c1)), .agg (recA r (.slice a2 l.length c2))] w fun e w' => e = .returned (.bool true) ∧ Below w.heap.size w w' := by
  have e : recA r2 (.slice a1 l.length c1) = recA r (.slice a1 l.length c1) := by
    unfold recA
    rw [hk, ht, hn 0 (by decide), hn 1 (by decide), hn 2 (by decide), hn 3 (by decide), hn 4 (by decide), hn 5 (by decide), hn 6 (by decide), hn 7 (by decide), hn 8 (by decide), hn 9 (by decide), hn 10 (by decide), hn 11 (by decide), hn 12 (by decide), hn 13 (by decide), hn 14 (by decide), hn 15 (by decide)]
  rw [e]
  exact same_vars r.kind (r.num 0) (r.num 1) (r.num 2) (r.num 3) (r.num 4) (r.num 5) (r.num 6) (r.num 7) (r.num 8) (r.num 9) (r.num 10) (r.num 11) (r.num 12) (r.num 13) (r.num 14) (r.num 15) ⟨r.tube.toArray⟩ a1 a2 c1 c2 l w h1 h2
end Go.Proofs.Ytjnjaojafimfeaa
