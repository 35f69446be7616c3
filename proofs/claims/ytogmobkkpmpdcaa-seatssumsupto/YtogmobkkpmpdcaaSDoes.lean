/-
  The walk of 'does'.
-/
import Derived.Test.YtogmobkkpmpdcaaSGood
namespace Go.Proofs.Ytogmobkkpmpdcaa
open Go.RowKit
theorem Gd.mono {B : Nat} {W : World} {sb : Nat} {S : Sx} {N M : Nat} (h : Gd B W sb S N) (hM : N ≤ M) : Gd B W sb S M := ⟨h.seat, h.lin, h.few.mono hM, h.ok⟩
set_option maxHeartbeats 4000000 in
set_option maxRecDepth 1000000 in
theorem does_any (k on n : Int) (t : ByteArray) (u : Int) (p q : Bool) {B : Nat} {W : World} {sb : Nat} {S : Sx} {N : Nat} (h : Gd B W sb S N) (hN : N ≤ 900000000) (h1N : 1 ≤ N) (hB : B ≤ W.heap.size) (hn : (Lit.int .i64 n).wf = true) :
    Calls Try.prog 8 #[ptrV sb, .agg #[.int .i64 k, .int .i64 on, .int .i64 n, .string t, .int .i64 u, .bool p, .bool q]] W fun e w' => e = .returned (.tuple #[]) ∧ Went B W sb N w' := by
  obtain ⟨w1, hw1⟩ : ∃ w1, w1 = W.alloc (.cells #[.int .i64 k, .int .i64 on, .int .i64 n, .string t, .int .i64 u, .bool p, .bool q] 28) := ⟨_, rfl⟩
  have HW1 : Hid (W.alloc (.cells #[.int .i64 k, .int .i64 on, .int .i64 n, .string t, .int .i64 u, .bool p, .bool q] 28) = w1) := hw1.symm
  have B1 : Below W.heap.size W w1 := by rw [hw1]; exact (Below.refl _ W).alloc (Nat.le_refl _) _
  have X1 : w1.heap[W.heap.size]? = some (.cells #[.int .i64 k, .int .i64 on, .int .i64 n, .string t, .int .i64 u, .bool p, .bool q] 28 (0, 0)) := by rw [hw1]; exact heap_alloc_new W _
  have c0 : w1.cell? ⟨W.heap.size, 0, none⟩ = some (.int .i64 k) := by simp [World.cell?, X1]
  have c2 : w1.cell? ⟨W.heap.size, 2, none⟩ = some (.int .i64 n) := by simp [World.cell?, X1]
  have c3 : w1.cell? ⟨W.heap.size, 3, none⟩ = some (.string t) := by simp [World.cell?, X1]
  have c4 : w1.cell? ⟨W.heap.size, 4, none⟩ = some (.int .i64 u) := by simp [World.cell?, X1]
  have xlt : W.heap.size < w1.heap.size := (Array.getElem?_eq_some_iff.1 X1).1
  have h1 := h.later B1
  have HB : Hid (Below B W w1) := B1.mono hB
  have HG : Hid (Gd B w1 sb S N) := h1
  have fin : ∀ w', Went B w1 sb N w' → Went B W sb N w' := fun w' hw => ⟨hw.1, HB.out.trans hw.2⟩
  have FIN : Hid (∀ w', Went B w1 sb N w' → Went B W sb N w') := fin
  clear hw1 B1 X1 h h1 fin
  by_cases hk1 : k = 1
  · subst hk1
    have CC : Hid (Calls Try.prog 17 #[ptrV sb, .int .i64 n] w1 fun e w' => (∃ z : Int, e = .returned (.int .i64 z)) ∧ Went B w1 sb N w') := gOpen HG.out hN h1N n hn
    go_enter Try.func8, Try.ntmps8
    go_upto_region 1 with fail
    rw [HW1.out]
    go_wp2_with (go_at_call 17; refine CC.out.mono ?_; rintro e w2 ⟨⟨z, rfl⟩, h2⟩; have H2 : Hid (Went B w1 sb N w2) := h2; clear h2)
    refine bodyPost_end (results_none rfl _ _ _) rfl ?_
    exact ⟨rfl, FIN.out _ H2.out⟩
  have hkb1 : (k == 1) = false := by simpa using hk1
  by_cases hk2 : k = 2
  · subst hk2
    have CC : Hid (Calls Try.prog 20 #[ptrV sb, .int .i64 n] w1 fun e w' => (∃ z : Int, e = .returned (.int .i64 z)) ∧ Went B w1 sb N w') := gClose HG.out hN n hn
    go_enter Try.func8, Try.ntmps8
    go_upto_region 1 with fail
    rw [HW1.out]
    go_wp2_with (go_at_call 20; refine CC.out.mono ?_; rintro e w2 ⟨⟨z, rfl⟩, h2⟩; have H2 : Hid (Went B w1 sb N w2) := h2; clear h2)
    refine bodyPost_end (results_none rfl _ _ _) rfl ?_
    exact ⟨rfl, FIN.out _ H2.out⟩
  have hkb2 : (k == 2) = false := by simpa using hk2
  by_cases hk3 : k = 3
  · subst hk3
    have CC : Hid (Calls Try.prog 25 #[ptrV sb, .int .i64 n, .string t] w1 fun e w' => (∃ z : Int, e = .returned (.int .i64 z)) ∧ Went B w1 sb N w') := gUse HG.out n hn t
    go_enter Try.func8, Try.ntmps8
    go_upto_region 1 with fail
    rw [HW1.out]
    go_wp2_with (go_at_call 25; refine CC.out.mono ?_; rintro e w2 ⟨⟨z, rfl⟩, h2⟩; have H2 : Hid (Went B w1 sb N w2) := h2; clear h2)
    refine bodyPost_end (results_none rfl _ _ _) rfl ?_
    exact ⟨rfl, FIN.out _ H2.out⟩
  have hkb3 : (k == 3) = false := by simpa using hk3
  by_cases hk4 : k = 4
  · subst hk4
    have CC : Hid (Calls Try.prog 21 #[ptrV sb, .int .i64 n, .string t] w1 fun e w' => (∃ z y : Int, e = .returned (.tuple #[.int .i64 z, .int .i64 y])) ∧ Went B w1 sb N w') := gWatch HG.out hN n hn t
    go_enter Try.func8, Try.ntmps8
    go_upto_region 1 with fail
    rw [HW1.out]
    go_wp2_with (go_at_call 21; refine CC.out.mono ?_; rintro e w2 ⟨⟨z, y, rfl⟩, h2⟩; have H2 : Hid (Went B w1 sb N w2) := h2; clear h2)
    refine bodyPost_end (results_none rfl _ _ _) rfl ?_
    exact ⟨rfl, FIN.out _ H2.out⟩
  have hkb4 : (k == 4) = false := by simpa using hk4
  by_cases hk5 : k = 5
  · subst hk5
    have CC : Hid (Calls Try.prog 26 #[ptrV sb, .int .i64 n, .string t] w1 fun e w' => (∃ z y : Int, e = .returned (.tuple #[.int .i64 z, .int .i64 y])) ∧ Went B w1 sb N w') := gIgnore HG.out hN n hn t
    go_enter Try.func8, Try.ntmps8
    go_upto_region 1 with fail
    rw [HW1.out]
    go_wp2_with (go_at_call 26; refine CC.out.mono ?_; rintro e w2 ⟨⟨z, y, rfl⟩, h2⟩; have H2 : Hid (Went B w1 sb N w2) := h2; clear h2)
    refine bodyPost_end (results_none rfl _ _ _) rfl ?_
    exact ⟨rfl, FIN.out _ H2.out⟩
  have hkb5 : (k == 5) = false := by simpa using hk5
  by_cases hk6 : k = 6
  · subst hk6
    have CC : Hid (Calls Try.prog 18 #[ptrV sb, .int .i64 n, .int .i64 u] w1 fun e w' => (∃ z : Int, e = .returned (.int .i64 z)) ∧ Went B w1 sb N w') := gWait HG.out hN n u hn
    go_enter Try.func8, Try.ntmps8
    go_upto_region 1 with fail
    rw [HW1.out]
    go_wp2_with (go_at_call 18; refine CC.out.mono ?_; rintro e w2 ⟨⟨z, rfl⟩, h2⟩; have H2 : Hid (Went B w1 sb N w2) := h2; clear h2)
    refine bodyPost_end (results_none rfl _ _ _) rfl ?_
    exact ⟨rfl, FIN.out _ H2.out⟩
  have hkb6 : (k == 6) = false := by simpa using hk6
  by_cases hk7 : k = 7
  · subst hk7
    have CC : Hid (Calls Try.prog 19 #[ptrV sb, .int .i64 n] w1 fun e w' => (∃ z : Int, e = .returned (.int .i64 z)) ∧ Went B w1 sb N w') := gStop HG.out hN n hn
    go_enter Try.func8, Try.ntmps8
    go_upto_region 1 with fail
    rw [HW1.out]
    go_wp2_with (go_at_call 19; refine CC.out.mono ?_; rintro e w2 ⟨⟨z, rfl⟩, h2⟩; have H2 : Hid (Went B w1 sb N w2) := h2; clear h2)
    refine bodyPost_end (results_none rfl _ _ _) rfl ?_
    exact ⟨rfl, FIN.out _ H2.out⟩
  have hkb7 : (k == 7) = false := by simpa using hk7
  go_enter Try.func8, Try.ntmps8
  go_upto_region 1 with fail
  rw [HW1.out]
  go_wp2_with fail
  refine bodyPost_end (results_none rfl _ _ _) rfl ?_
  exact ⟨rfl, ⟨S, HG.out.mono (by omega)⟩, HB.out⟩
end Go.Proofs.Ytogmobkkpmpdcaa
