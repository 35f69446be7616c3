/-
  Goes6, Goes7, Goes8, Goes9, Goes10.
-/
import Derived.Test.YtccpaapbgdpghaaDrawQ
import Derived.Test.YtccpaapbgdpghaaPick
import Derived.Test.YtccpaapbgdpghaaFromI
import Derived.Test.YtccpaapbgdpghaaNest
import Derived.Test.YtccpaapbgdpghaaEarly
import Derived.Test.YtccpaapbgdpghaaWhil

namespace Go.Proofs.Ytccpaapbgdpghaa
open Go.RowKit

set_option maxHeartbeats 4000000 in
set_option maxRecDepth 1000000 in
theorem goes6 (w0 w : World) (db N i : Nat) (on n x : Int) (P : List Pq) (L K : List Ref3) (vl vk : Value) (p : Pq) (h : DkAt w0 w db P L vl K vk N) (hL : L ≠ []) (hK : K.length ≤ 4) (hi : P[i]? = some p) (hN : N ≤ 1048576) (hn : -9223372036854775808 ≤ n ∧ n ≤ 9223372036854775807) (hx : -9223372036854775808 ≤ x ∧ x ≤ 9223372036854775807) :
    Calls Try.prog 23 #[.pointer (some ⟨db, 0, none⟩), .agg #[.pointer (some ⟨p.qb, 0, none⟩), .pointer (some ⟨p.rb, 0, none⟩)], .agg #[.int .i64 6, .int .i64 on, .int .i64 n, .int .i64 x]] w fun e w' => e = .returned (.bool true) ∧ DkN w0 db (N + 1) w' := by
  have hff := fun w f caps => fq_not_nil w f caps
  obtain ⟨W0, hW0⟩ : ∃ W0, W0 = (w.alloc (.cells #[.pointer (some ⟨p.qb, 0, none⟩), .pointer (some ⟨p.rb, 0, none⟩)] 36)).alloc (.cells #[.int .i64 6, .int .i64 on, .int .i64 n, .int .i64 x] 39) := ⟨_, rfl⟩
  have b0 : Below w.heap.size w W0 := by rw [hW0]; exact ((Below.refl _ w).alloc (Nat.le_refl _) _).alloc (by simp) _
  obtain ⟨bp, hbp⟩ : ∃ bp, bp = w.heap.size := ⟨_, rfl⟩
  obtain ⟨bo, hbo⟩ : ∃ bo, bo = w.heap.size + 1 := ⟨_, rfl⟩
  have xp0 : W0.heap[bp]? = some (.cells #[.pointer (some ⟨p.qb, 0, none⟩), .pointer (some ⟨p.rb, 0, none⟩)] 36 (0, 0)) := by
    rw [hW0, hbp]
    exact (heap_alloc_old (w.alloc (.cells #[.pointer (some ⟨p.qb, 0, none⟩), .pointer (some ⟨p.rb, 0, none⟩)] 36)) _ (by simp)).trans (heap_alloc_new w _)
  have xo0 : W0.heap[bo]? = some (.cells #[.int .i64 6, .int .i64 on, .int .i64 n, .int .i64 x] 39 (0, 0)) := by
    rw [hW0, hbo]
    have := heap_alloc_new (w.alloc (.cells #[.pointer (some ⟨p.qb, 0, none⟩), .pointer (some ⟨p.rb, 0, none⟩)] 36)) (.cells #[.int .i64 6, .int .i64 on, .int .i64 n, .int .i64 x] 39)
    rw [World.size_alloc] at this
    exact this
  have p0 : W0.cell? ⟨bp, 0, none⟩ = some (.pointer (some ⟨p.qb, 0, none⟩)) := by simp [World.cell?, xp0]
  have few := h.prs.few i p hi
  have h0 := h.later b0
  have AL := hideR (fun w => allI w p.qb)
  have HBP := hideR (And.intro hW0 (And.intro hbp hbo))
  have HX0 := hideR (And.intro xp0 xo0)
  have H0 := hideR h0
  have HB0 := hideR b0
  have HNN := hideR (And.intro hn hx)
  have HKL := hideR (And.intro hL hK)
  have HI := hideR hi
  have HF := hideR few
  clear h xp0 xo0 b0 h0 hW0 hbp hbo hn hx hL hK hi few
  go_enter Try.func23, Try.ntmps23
  go_upto_region 1 with fail
  rw [← HBP.out.1, ← HBP.out.2.2, ← HBP.out.2.1]
  go_wp2_with fail
  refine (AL.out _).mono ?_
  rintro e W2 ⟨rfl, hW2⟩
  obtain ⟨cb, hcb⟩ : ∃ cb, cb = W0.heap.size := ⟨_, rfl⟩
  rw [← hcb]
  have b2 : Below W0.heap.size W0 W2 := by rw [hW2]; exact (Below.refl _ W0).alloc (Nat.le_refl _) _
  have xc : W2.heap[cb]? = some (.cells #[.pointer (some ⟨p.qb, 0, none⟩)] 29 (0, 0)) := by rw [hW2, hcb]; exact heap_alloc_new W0 _
  have xp := (b2.block _ (Array.getElem?_eq_some_iff.1 HX0.out.1).1).trans HX0.out.1
  have xo := (b2.block _ (Array.getElem?_eq_some_iff.1 HX0.out.2).1).trans HX0.out.2
  have o0 : W2.cell? ⟨bo, 0, none⟩ = some (.int .i64 6) := by simp [World.cell?, xo]
  have h2 := H0.out.later b2
  have e2 := h2.prs.each i p HI.out
  have H2 := hideR (And.intro h2 (And.intro e2 (And.intro xc (And.intro xp xo))))
  clear hW2 hcb b2 xc xp xo h2 e2 p0
  go_upto_region 6 with fail
  obtain ⟨h2, e2, xc, xp, xo⟩ := H2.out
  have few := HF.out
  have sq : (fun X : World => X.heap[bp]? = some (.cells #[.pointer (some ⟨p.qb, 0, none⟩), .pointer (some ⟨p.rb, 0, none⟩)] 36 (0, 0)) ∧ X.heap[bo]? = some (.cells #[.int .i64 6, .int .i64 on, .int .i64 n, .int .i64 x] 39 (0, 0))) W2.drew := ⟨xp, xo⟩
  have dB : Below W2.heap.size W2 W2.drew := ⟨rfl, rfl, rfl, Nat.le_refl _, fun _ _ => rfl⟩
  have EA := hideR (fun m hm => early_any w0.heap.size W2.drew p.qb p.mb cb p.rb m p.g p.g p.R p.vt p.vh p.T p.H (e2.below dB).q xc (e2.below dB).r e2.al (by omega) hm)
  clear h2 e2 xc xp xo dB few o0
  refine wp_region_held_drew (S := (fun X : World => X.heap[bp]? = some (.cells #[.pointer (some ⟨p.qb, 0, none⟩), .pointer (some ⟨p.rb, 0, none⟩)] 36 (0, 0)) ∧ X.heap[bo]? = some (.cells #[.int .i64 6, .int .i64 on, .int .i64 n, .int .i64 x] 39 (0, 0)))) mixed sq (fun _ => ?_)
  refine H_take (i := 0) (v := .func (.func 26) #[] #[.pointer (some ⟨cb, 0, none⟩)]) (some 20) rfl rfl (by kernel_rfl) (by kernel_rfl) (by kernel_rfl) (fun _ _ _ h => h) rfl (fun X hX => ?_) sq ?_
  · simp [go_sem]
  simp only [Act.put, List.setIfInBounds_toArray, List.set_cons_zero, List.set_cons_succ]
  refine H_take (i := 1) (v := .pointer (some ⟨bp, 1, none⟩)) (some 21) rfl rfl (by kernel_rfl) (by kernel_rfl) (by kernel_rfl) (fun _ _ _ h => h) rfl (fun X hX => ?_) sq ?_
  · simp [go_sem]
  simp only [Act.put, List.setIfInBounds_toArray, List.set_cons_zero, List.set_cons_succ]
  refine H_take (i := 2) (v := .pointer (some ⟨p.rb, 0, none⟩)) (some 22) rfl rfl (by kernel_rfl) (by kernel_rfl) (by kernel_rfl) (fun _ _ _ h => h) rfl (fun X hX => ?_) sq ?_
  · simp [go_sem, World.cell?, hX.1]
  simp only [Act.put, List.setIfInBounds_toArray, List.set_cons_zero, List.set_cons_succ]
  refine H_take (i := 3) (v := .pointer (some ⟨bo, 2, none⟩)) (some 23) rfl rfl (by kernel_rfl) (by kernel_rfl) (by kernel_rfl) (fun _ _ _ h => h) rfl (fun X hX => ?_) sq ?_
  · simp [go_sem]
  simp only [Act.put, List.setIfInBounds_toArray, List.set_cons_zero, List.set_cons_succ]
  refine H_take (i := 4) (v := .int .i64 n) (some 24) rfl rfl (by kernel_rfl) (by kernel_rfl) (by kernel_rfl) (fun _ _ _ h => h) rfl (fun X hX => ?_) sq ?_
  · simp [go_sem, World.cell?, hX.2]
  simp only [Act.put, List.setIfInBounds_toArray, List.set_cons_zero, List.set_cons_succ]
  refine H_call (i := 5) (f := 16) (args := #[.int .i64 n, .int .i64 (9 : Nat)]) (some 25) rfl rfl (by kernel_rfl) rfl (by simp [go_sem]) ((pick_any W2.drew n 9 HNN.out.1 (by omega) (by omega)).mono ?_)
  rintro e W3 ⟨⟨r, hr, rfl⟩, rfl⟩
  refine ⟨_, rfl, sq, ?_⟩
  simp only [Act.put, List.setIfInBounds_toArray, List.set_cons_zero, List.set_cons_succ]
  have w9 : IntKind.i64.wrap (1 + (r : Int)) = ((r + 1 : Nat) : Int) := by rw [IntWalk.i64_in] <;> omega
  refine H_take (i := 6) (v := .int .i64 ((r + 1 : Nat) : Int)) (some 26) rfl rfl (by kernel_rfl) (by kernel_rfl) (by kernel_rfl) (fun _ _ _ h => h) rfl (fun X hX => ?_) sq ?_
  · simp [go_sem, w9]
  simp only [Act.put, List.setIfInBounds_toArray, List.set_cons_zero, List.set_cons_succ]
  refine H_call (i := 7) (f := 35) (args := #[.func (.func 26) #[] #[.pointer (some ⟨cb, 0, none⟩)], .pointer (some ⟨p.rb, 0, none⟩), .int .i64 ((r + 1 : Nat) : Int)]) (some 27) rfl rfl (by kernel_rfl) rfl (by simp [go_sem]) ((EA.out (r + 1) ⟨by omega, by omega⟩).mono ?_)
  rintro e W4 ⟨rfl, b4⟩
  have sq4 : (fun X : World => X.heap[bp]? = some (.cells #[.pointer (some ⟨p.qb, 0, none⟩), .pointer (some ⟨p.rb, 0, none⟩)] 36 (0, 0)) ∧ X.heap[bo]? = some (.cells #[.int .i64 6, .int .i64 on, .int .i64 n, .int .i64 x] 39 (0, 0))) W4 := ⟨(b4.block _ (Array.getElem?_eq_some_iff.1 sq.1).1).trans sq.1, (b4.block _ (Array.getElem?_eq_some_iff.1 sq.2).1).trans sq.2⟩
  refine ⟨_, rfl, sq4, ?_⟩
  simp only [Act.put, List.setIfInBounds_toArray, List.set_cons_zero, List.set_cons_succ]
  refine H_take (i := 8) (v := .bool true) (some 8) rfl rfl (by kernel_rfl) (by kernel_rfl) (by kernel_rfl) (fun _ _ _ h => h) rfl (fun X hX => ?_) sq4 ?_
  · simp [go_sem]
  simp only [Act.put, List.setIfInBounds_toArray, List.set_cons_zero, List.set_cons_succ]
  refine wpAnyH_done (by kernel_rfl) ?_ _
  have b24 : Below W2.heap.size W2 W4 := ⟨b4.1, b4.2, b4.3, b4.4, b4.5⟩
  have few := HF.out
  have e4 := H2.out.2.1.below b24
  have xc4 := (b24.block _ (Array.getElem?_eq_some_iff.1 H2.out.2.2.1).1).trans H2.out.2.2.1
  have q1 : W4.cell? ⟨bp, 1, none⟩ = some (.pointer (some ⟨p.rb, 0, none⟩)) := by simp only [World.cell?, sq4.1]; simp
  have WH := hideR (whole_any w0.heap.size W4 p.qb p.mb cb p.rb p.g p.g p.R p.vt p.vh p.T p.H e4.q xc4 e4.r e4.al (by omega))
  have HB4 := hideR b24
  clear sq sq4 b4 b24 few e4 xc4 EA
  go_wp2_with fail
  refine WH.out.mono ?_
  rintro e W5 ⟨rfl, b5⟩
  have HB5 := hideR b5
  clear b5
  go_wp2_with fail
  go_ret
  exact ⟨rfl, DkN.mk' (((H2.out.1.later HB4.out).later HB5.out).mono (Nat.le_succ N)) HKL.out.1 HKL.out.2⟩
end Go.Proofs.Ytccpaapbgdpghaa


namespace Go.Proofs.Ytccpaapbgdpghaa
open Go.RowKit

set_option maxHeartbeats 4000000 in
set_option maxRecDepth 1000000 in
theorem goes7 (w0 w : World) (db N i : Nat) (on n x : Int) (P : List Pq) (L K : List Ref3) (vl vk : Value) (p : Pq) (h : DkAt w0 w db P L vl K vk N) (hL : L ≠ []) (hK : K.length ≤ 4) (hi : P[i]? = some p) (hN : N ≤ 1048576) (hn : -9223372036854775808 ≤ n ∧ n ≤ 9223372036854775807) (hx : -9223372036854775808 ≤ x ∧ x ≤ 9223372036854775807) :
    Calls Try.prog 23 #[.pointer (some ⟨db, 0, none⟩), .agg #[.pointer (some ⟨p.qb, 0, none⟩), .pointer (some ⟨p.rb, 0, none⟩)], .agg #[.int .i64 7, .int .i64 on, .int .i64 n, .int .i64 x]] w fun e w' => e = .returned (.bool true) ∧ DkN w0 db (N + 1) w' := by
  have hff := fun w f caps => fq_not_nil w f caps
  obtain ⟨W0, hW0⟩ : ∃ W0, W0 = (w.alloc (.cells #[.pointer (some ⟨p.qb, 0, none⟩), .pointer (some ⟨p.rb, 0, none⟩)] 36)).alloc (.cells #[.int .i64 7, .int .i64 on, .int .i64 n, .int .i64 x] 39) := ⟨_, rfl⟩
  have b0 : Below w.heap.size w W0 := by rw [hW0]; exact ((Below.refl _ w).alloc (Nat.le_refl _) _).alloc (by simp) _
  obtain ⟨bp, hbp⟩ : ∃ bp, bp = w.heap.size := ⟨_, rfl⟩
  obtain ⟨bo, hbo⟩ : ∃ bo, bo = w.heap.size + 1 := ⟨_, rfl⟩
  have xp0 : W0.heap[bp]? = some (.cells #[.pointer (some ⟨p.qb, 0, none⟩), .pointer (some ⟨p.rb, 0, none⟩)] 36 (0, 0)) := by
    rw [hW0, hbp]
    exact (heap_alloc_old (w.alloc (.cells #[.pointer (some ⟨p.qb, 0, none⟩), .pointer (some ⟨p.rb, 0, none⟩)] 36)) _ (by simp)).trans (heap_alloc_new w _)
  have xo0 : W0.heap[bo]? = some (.cells #[.int .i64 7, .int .i64 on, .int .i64 n, .int .i64 x] 39 (0, 0)) := by
    rw [hW0, hbo]
    have := heap_alloc_new (w.alloc (.cells #[.pointer (some ⟨p.qb, 0, none⟩), .pointer (some ⟨p.rb, 0, none⟩)] 36)) (.cells #[.int .i64 7, .int .i64 on, .int .i64 n, .int .i64 x] 39)
    rw [World.size_alloc] at this
    exact this
  have p0 : W0.cell? ⟨bp, 0, none⟩ = some (.pointer (some ⟨p.qb, 0, none⟩)) := by simp [World.cell?, xp0]
  have few := h.prs.few i p hi
  have h0 := h.later b0
  have AL := hideR (fun w => allI w p.qb)
  have HBP := hideR (And.intro hW0 (And.intro hbp hbo))
  have HX0 := hideR (And.intro xp0 xo0)
  have H0 := hideR h0
  have HB0 := hideR b0
  have HNN := hideR (And.intro hn hx)
  have HKL := hideR (And.intro hL hK)
  have HI := hideR hi
  have HF := hideR few
  clear h xp0 xo0 b0 h0 hW0 hbp hbo hn hx hL hK hi few
  go_enter Try.func23, Try.ntmps23
  go_upto_region 1 with fail
  rw [← HBP.out.1, ← HBP.out.2.2, ← HBP.out.2.1]
  go_wp2_with fail
  refine (AL.out _).mono ?_
  rintro e W2 ⟨rfl, hW2⟩
  obtain ⟨cb, hcb⟩ : ∃ cb, cb = W0.heap.size := ⟨_, rfl⟩
  rw [← hcb]
  have b2 : Below W0.heap.size W0 W2 := by rw [hW2]; exact (Below.refl _ W0).alloc (Nat.le_refl _) _
  have xc : W2.heap[cb]? = some (.cells #[.pointer (some ⟨p.qb, 0, none⟩)] 29 (0, 0)) := by rw [hW2, hcb]; exact heap_alloc_new W0 _
  have xp := (b2.block _ (Array.getElem?_eq_some_iff.1 HX0.out.1).1).trans HX0.out.1
  have xo := (b2.block _ (Array.getElem?_eq_some_iff.1 HX0.out.2).1).trans HX0.out.2
  have o0 : W2.cell? ⟨bo, 0, none⟩ = some (.int .i64 7) := by simp [World.cell?, xo]
  have h2 := H0.out.later b2
  have e2 := h2.prs.each i p HI.out
  have H2 := hideR (And.intro h2 (And.intro e2 (And.intro xc (And.intro xp xo))))
  clear hW2 hcb b2 xc xp xo h2 e2 p0
  obtain ⟨h2, e2, xc, xp, xo⟩ := H2.out
  have few := HF.out
  have q0 : W2.cell? ⟨bp, 0, none⟩ = some (.pointer (some ⟨p.qb, 0, none⟩)) := by simp [World.cell?, xp]
  have q1 : W2.cell? ⟨bp, 1, none⟩ = some (.pointer (some ⟨p.rb, 0, none⟩)) := by simp [World.cell?, xp]
  have q2 : W2.cell? ⟨bo, 2, none⟩ = some (.int .i64 n) := by simp [World.cell?, xo]
  have q3 : W2.cell? ⟨bo, 3, none⟩ = some (.int .i64 x) := by simp [World.cell?, xo]
  have WH := hideR (while_any w0.heap.size W2 p.qb p.mb p.rb p.g n x p.R p.vt p.vh p.T p.H e2.q e2.r e2.al (by omega) h2.bel.size HNN.out.1 HNN.out.2 (by omega))
  clear h2 e2 xc xp xo few
  go_wp2_with fail
  refine WH.out.mono ?_
  rintro e W5 ⟨rfl, p', t5⟩
  have HT := hideR t5
  clear t5
  go_wp2_with fail
  go_ret
  exact ⟨rfl, DkN.mk' (H2.out.1.turn HI.out HT.out) HKL.out.1 HKL.out.2⟩
end Go.Proofs.Ytccpaapbgdpghaa


namespace Go.Proofs.Ytccpaapbgdpghaa
open Go.RowKit

set_option maxHeartbeats 4000000 in
set_option maxRecDepth 1000000 in
theorem goes8 (w0 w : World) (db N i : Nat) (on n x : Int) (P : List Pq) (L K : List Ref3) (vl vk : Value) (p : Pq) (h : DkAt w0 w db P L vl K vk N) (hL : L ≠ []) (hK : K.length ≤ 4) (hi : P[i]? = some p) (hN : N ≤ 1048576) (hn : -9223372036854775808 ≤ n ∧ n ≤ 9223372036854775807) (hx : -9223372036854775808 ≤ x ∧ x ≤ 9223372036854775807) :
    Calls Try.prog 23 #[.pointer (some ⟨db, 0, none⟩), .agg #[.pointer (some ⟨p.qb, 0, none⟩), .pointer (some ⟨p.rb, 0, none⟩)], .agg #[.int .i64 8, .int .i64 on, .int .i64 n, .int .i64 x]] w fun e w' => e = .returned (.bool true) ∧ DkN w0 db (N + 1) w' := by
  have hff := fun w f caps => fq_not_nil w f caps
  obtain ⟨W0, hW0⟩ : ∃ W0, W0 = (w.alloc (.cells #[.pointer (some ⟨p.qb, 0, none⟩), .pointer (some ⟨p.rb, 0, none⟩)] 36)).alloc (.cells #[.int .i64 8, .int .i64 on, .int .i64 n, .int .i64 x] 39) := ⟨_, rfl⟩
  have b0 : Below w.heap.size w W0 := by rw [hW0]; exact ((Below.refl _ w).alloc (Nat.le_refl _) _).alloc (by simp) _
  obtain ⟨bp, hbp⟩ : ∃ bp, bp = w.heap.size := ⟨_, rfl⟩
  obtain ⟨bo, hbo⟩ : ∃ bo, bo = w.heap.size + 1 := ⟨_, rfl⟩
  have xp0 : W0.heap[bp]? = some (.cells #[.pointer (some ⟨p.qb, 0, none⟩), .pointer (some ⟨p.rb, 0, none⟩)] 36 (0, 0)) := by
    rw [hW0, hbp]
    exact (heap_alloc_old (w.alloc (.cells #[.pointer (some ⟨p.qb, 0, none⟩), .pointer (some ⟨p.rb, 0, none⟩)] 36)) _ (by simp)).trans (heap_alloc_new w _)
  have xo0 : W0.heap[bo]? = some (.cells #[.int .i64 8, .int .i64 on, .int .i64 n, .int .i64 x] 39 (0, 0)) := by
    rw [hW0, hbo]
    have := heap_alloc_new (w.alloc (.cells #[.pointer (some ⟨p.qb, 0, none⟩), .pointer (some ⟨p.rb, 0, none⟩)] 36)) (.cells #[.int .i64 8, .int .i64 on, .int .i64 n, .int .i64 x] 39)
    rw [World.size_alloc] at this
    exact this
  have p0 : W0.cell? ⟨bp, 0, none⟩ = some (.pointer (some ⟨p.qb, 0, none⟩)) := by simp [World.cell?, xp0]
  have few := h.prs.few i p hi
  have h0 := h.later b0
  have AL := hideR (fun w => allI w p.qb)
  have HBP := hideR (And.intro hW0 (And.intro hbp hbo))
  have HX0 := hideR (And.intro xp0 xo0)
  have H0 := hideR h0
  have HB0 := hideR b0
  have HNN := hideR (And.intro hn hx)
  have HKL := hideR (And.intro hL hK)
  have HI := hideR hi
  have HF := hideR few
  clear h xp0 xo0 b0 h0 hW0 hbp hbo hn hx hL hK hi few
  go_enter Try.func23, Try.ntmps23
  go_upto_region 1 with fail
  rw [← HBP.out.1, ← HBP.out.2.2, ← HBP.out.2.1]
  go_wp2_with fail
  refine (AL.out _).mono ?_
  rintro e W2 ⟨rfl, hW2⟩
  obtain ⟨cb, hcb⟩ : ∃ cb, cb = W0.heap.size := ⟨_, rfl⟩
  rw [← hcb]
  have b2 : Below W0.heap.size W0 W2 := by rw [hW2]; exact (Below.refl _ W0).alloc (Nat.le_refl _) _
  have xc : W2.heap[cb]? = some (.cells #[.pointer (some ⟨p.qb, 0, none⟩)] 29 (0, 0)) := by rw [hW2, hcb]; exact heap_alloc_new W0 _
  have xp := (b2.block _ (Array.getElem?_eq_some_iff.1 HX0.out.1).1).trans HX0.out.1
  have xo := (b2.block _ (Array.getElem?_eq_some_iff.1 HX0.out.2).1).trans HX0.out.2
  have o0 : W2.cell? ⟨bo, 0, none⟩ = some (.int .i64 8) := by simp [World.cell?, xo]
  have h2 := H0.out.later b2
  have e2 := h2.prs.each i p HI.out
  have H2 := hideR (And.intro h2 (And.intro e2 (And.intro xc (And.intro xp xo))))
  clear hW2 hcb b2 xc xp xo h2 e2 p0
  obtain ⟨h2, e2, xc, xp, xo⟩ := H2.out
  have few := HF.out
  have q0 : W2.cell? ⟨bp, 0, none⟩ = some (.pointer (some ⟨p.qb, 0, none⟩)) := by simp [World.cell?, xp]
  have q1 : W2.cell? ⟨bp, 1, none⟩ = some (.pointer (some ⟨p.rb, 0, none⟩)) := by simp [World.cell?, xp]
  have WH := hideR (nested_any w0.heap.size W2 p.qb p.mb p.rb p.g p.g p.R p.vt p.vh p.T p.H e2.q e2.r e2.al (by omega))
  clear h2 e2 xc xp xo few
  go_wp2_with fail
  refine WH.out.mono ?_
  rintro e W5 ⟨rfl, b5⟩
  have HB5 := hideR b5
  clear b5
  go_wp2_with fail
  go_ret
  exact ⟨rfl, DkN.mk' ((H2.out.1.later HB5.out).mono (Nat.le_succ N)) HKL.out.1 HKL.out.2⟩
end Go.Proofs.Ytccpaapbgdpghaa


namespace Go.Proofs.Ytccpaapbgdpghaa
open Go.RowKit

set_option maxHeartbeats 4000000 in
set_option maxRecDepth 1000000 in
theorem goes9 (w0 w : World) (db N i : Nat) (on n x : Int) (P : List Pq) (L K : List Ref3) (vl vk : Value) (p : Pq) (h : DkAt w0 w db P L vl K vk N) (hL : L ≠ []) (hK : K.length ≤ 4) (hi : P[i]? = some p) (_ : N ≤ 1048576) (hn : -9223372036854775808 ≤ n ∧ n ≤ 9223372036854775807) (hx : -9223372036854775808 ≤ x ∧ x ≤ 9223372036854775807) :
    Calls Try.prog 23 #[.pointer (some ⟨db, 0, none⟩), .agg #[.pointer (some ⟨p.qb, 0, none⟩), .pointer (some ⟨p.rb, 0, none⟩)], .agg #[.int .i64 9, .int .i64 on, .int .i64 n, .int .i64 x]] w fun e w' => e = .returned (.bool true) ∧ DkN w0 db (N + 1) w' := by
  have hff := fun w f caps => fq_not_nil w f caps
  obtain ⟨W0, hW0⟩ : ∃ W0, W0 = (w.alloc (.cells #[.pointer (some ⟨p.qb, 0, none⟩), .pointer (some ⟨p.rb, 0, none⟩)] 36)).alloc (.cells #[.int .i64 9, .int .i64 on, .int .i64 n, .int .i64 x] 39) := ⟨_, rfl⟩
  have b0 : Below w.heap.size w W0 := by rw [hW0]; exact ((Below.refl _ w).alloc (Nat.le_refl _) _).alloc (by simp) _
  obtain ⟨bp, hbp⟩ : ∃ bp, bp = w.heap.size := ⟨_, rfl⟩
  obtain ⟨bo, hbo⟩ : ∃ bo, bo = w.heap.size + 1 := ⟨_, rfl⟩
  have xp0 : W0.heap[bp]? = some (.cells #[.pointer (some ⟨p.qb, 0, none⟩), .pointer (some ⟨p.rb, 0, none⟩)] 36 (0, 0)) := by
    rw [hW0, hbp]
    exact (heap_alloc_old (w.alloc (.cells #[.pointer (some ⟨p.qb, 0, none⟩), .pointer (some ⟨p.rb, 0, none⟩)] 36)) _ (by simp)).trans (heap_alloc_new w _)
  have xo0 : W0.heap[bo]? = some (.cells #[.int .i64 9, .int .i64 on, .int .i64 n, .int .i64 x] 39 (0, 0)) := by
    rw [hW0, hbo]
    have := heap_alloc_new (w.alloc (.cells #[.pointer (some ⟨p.qb, 0, none⟩), .pointer (some ⟨p.rb, 0, none⟩)] 36)) (.cells #[.int .i64 9, .int .i64 on, .int .i64 n, .int .i64 x] 39)
    rw [World.size_alloc] at this
    exact this
  have p0 : W0.cell? ⟨bp, 0, none⟩ = some (.pointer (some ⟨p.qb, 0, none⟩)) := by simp [World.cell?, xp0]
  have few := h.prs.few i p hi
  have h0 := h.later b0
  have AL := hideR (fun w => allI w p.qb)
  have HBP := hideR (And.intro hW0 (And.intro hbp hbo))
  have HX0 := hideR (And.intro xp0 xo0)
  have H0 := hideR h0
  have HB0 := hideR b0
  have HNN := hideR (And.intro hn hx)
  have HKL := hideR (And.intro hL hK)
  have HI := hideR hi
  have HF := hideR few
  clear h xp0 xo0 b0 h0 hW0 hbp hbo hn hx hL hK hi few
  go_enter Try.func23, Try.ntmps23
  go_upto_region 1 with fail
  rw [← HBP.out.1, ← HBP.out.2.2, ← HBP.out.2.1]
  go_wp2_with fail
  refine (AL.out _).mono ?_
  rintro e W2 ⟨rfl, hW2⟩
  obtain ⟨cb, hcb⟩ : ∃ cb, cb = W0.heap.size := ⟨_, rfl⟩
  rw [← hcb]
  have b2 : Below W0.heap.size W0 W2 := by rw [hW2]; exact (Below.refl _ W0).alloc (Nat.le_refl _) _
  have xc : W2.heap[cb]? = some (.cells #[.pointer (some ⟨p.qb, 0, none⟩)] 29 (0, 0)) := by rw [hW2, hcb]; exact heap_alloc_new W0 _
  have xp := (b2.block _ (Array.getElem?_eq_some_iff.1 HX0.out.1).1).trans HX0.out.1
  have xo := (b2.block _ (Array.getElem?_eq_some_iff.1 HX0.out.2).1).trans HX0.out.2
  have o0 : W2.cell? ⟨bo, 0, none⟩ = some (.int .i64 9) := by simp [World.cell?, xo]
  have h2 := H0.out.later b2
  have e2 := h2.prs.each i p HI.out
  have H2 := hideR (And.intro h2 (And.intro e2 (And.intro xc (And.intro xp xo))))
  clear hW2 hcb b2 xc xp xo h2 e2 p0
  obtain ⟨ak, ck, hvk⟩ := H2.out.1.rk.form
  rw [List.length_map] at hvk
  subst hvk
  go_upto_region 14 with fail
  clear o0
  have hd : DkAt w0 W2.drew db P L vl K (.slice ak K.length ck) N := H2.out.1.later ⟨rfl, rfl, rfl, Nat.le_refl _, fun _ _ => rfl⟩
  have hx : W2.drew.heap[bp]? = some (.cells #[.pointer (some ⟨p.qb, 0, none⟩), .pointer (some ⟨p.rb, 0, none⟩)] 36 (0, 0)) := H2.out.2.2.2.1
  have hkin : KIn W2.drew P (cb, p.rb, i) := ⟨p, HI.out, H2.out.2.2.1, rfl⟩
  have hK4 := HKL.out.2
  refine wp_region_any mixed ?_
  refine A_take (i := 0) (v := .pointer (some ⟨db, 0, none⟩)) (some 50) rfl rfl (by kernel_rfl) (by kernel_rfl) (by kernel_rfl) (fun _ _ _ h => h) (.inl ⟨rfl, fun w => ?_⟩) ?_
  · simp [go_sem]
  simp only [Act.put, List.setIfInBounds_toArray, List.set_cons_zero, List.set_cons_succ]
  refine A_take (i := 1) (v := .pointer (some ⟨db, 0, none⟩)) (some 51) rfl rfl (by kernel_rfl) (by kernel_rfl) (by kernel_rfl) (fun _ _ _ h => h) (.inl ⟨rfl, fun w => ?_⟩) ?_
  · simp [go_sem]
  simp only [Act.put, List.setIfInBounds_toArray, List.set_cons_zero, List.set_cons_succ]
  refine A_take (i := 2) (v := .pointer (some ⟨db, 0, none⟩)) (some 52) rfl rfl (by kernel_rfl) (by kernel_rfl) (by kernel_rfl) (fun _ _ _ h => h) (.inl ⟨rfl, fun w => ?_⟩) ?_
  · simp [go_sem]
  simp only [Act.put, List.setIfInBounds_toArray, List.set_cons_zero, List.set_cons_succ]
  refine A_take (i := 3) (v := .pointer (some ⟨db, 1, none⟩)) (some 53) rfl rfl (by kernel_rfl) (by kernel_rfl) (by kernel_rfl) (fun _ _ _ h => h) (.inl ⟨rfl, fun w => ?_⟩) ?_
  · simp [go_sem]
  simp only [Act.put, List.setIfInBounds_toArray, List.set_cons_zero, List.set_cons_succ]
  refine A_take (i := 5) (v := .func (.func 26) #[] #[.pointer (some ⟨cb, 0, none⟩)]) (some 55) rfl rfl (by kernel_rfl) (by kernel_rfl) (by kernel_rfl) (fun _ _ _ h => h) (.inl ⟨rfl, fun w => ?_⟩) ?_
  · simp [go_sem]
  simp only [Act.put, List.setIfInBounds_toArray, List.set_cons_zero, List.set_cons_succ]
  refine A_take (i := 6) (v := .pointer (some ⟨bp, 1, none⟩)) (some 56) rfl rfl (by kernel_rfl) (by kernel_rfl) (by kernel_rfl) (fun _ _ _ h => h) (.inl ⟨rfl, fun w => ?_⟩) ?_
  · simp [go_sem]
  simp only [Act.put, List.setIfInBounds_toArray, List.set_cons_zero, List.set_cons_succ]
  refine C_take (i := 7) (v := .pointer (some ⟨p.rb, 0, none⟩)) (Cl := fun X => X.heap[bp]? = some (.cells #[.pointer (some ⟨p.qb, 0, none⟩), .pointer (some ⟨p.rb, 0, none⟩)] 36 (0, 0))) (D := [8, 9, 10, 11, 12, 13]) (E := [4]) (some 57) rfl rfl (by kernel_rfl) (fun j hj oj ho => ?_) (fun _ _ _ h => h) hx ⟨rfl, fun X hX => ?_⟩ ?_
  · obtain rfl : j = 4 := by simpa using hj
    cases ho
    exact stays_loadC rfl Try.isAgg26
  · exact run_load1 rfl rfl Try.isAgg31 (by simp only [World.cell?, hX]; simp)
  simp only [Act.put, List.setIfInBounds_toArray, List.set_cons_zero, List.set_cons_succ]
  refine A_take (i := 8) (v := .agg #[.func (.func 26) #[] #[.pointer (some ⟨cb, 0, none⟩)], .pointer (some ⟨p.rb, 0, none⟩)]) (some 58) rfl rfl (by kernel_rfl) (by kernel_rfl) (by kernel_rfl) (fun _ _ _ h => h) (.inl ⟨rfl, fun w => ?_⟩) ?_
  · exact run_build1 rfl (by kernel_rfl)
  simp only [Act.put, List.setIfInBounds_toArray, List.set_cons_zero, List.set_cons_succ]
  refine wpAny_all (rs := [4, 9]) (by kernel_rfl) (by decide) (fun i hi => ?_)
  have hi2 : i = 4 ∨ i = 9 := by simpa using hi
  rcases hi2 with rfl | rfl
  · refine D_value (v := .slice ak K.length ck) (w' := W2.drew) (some 54) rfl rfl rfl ?_ ?_
    · have kb := hd.box
      have kc : (W2.drew).cell? ⟨db, 1, none⟩ = some (.slice ak K.length ck) := by simp only [World.cell?, kb]; simp
      exact run_load1 rfl rfl Try.isAgg26 kc
    simp only [Act.put, List.setIfInBounds_toArray, List.set_cons_zero, List.set_cons_succ]
    refine wpAny_all (rs := [9]) (by kernel_rfl) (by decide) (fun i hi => ?_)
    obtain rfl : i = 9 := by simpa using hi
    refine D_value (v := .slice (some ⟨W2.heap.size, 0, none⟩) 1 1) (w' := (W2.drew.alloc (.cells #[.func (.func 26) #[] #[.pointer (some ⟨cb, 0, none⟩)], .pointer (some ⟨p.rb, 0, none⟩)] 92))) (some 59) rfl rfl rfl (run_made rfl Try.underlying26 info_keptQ _ _ rfl (by kernel_rfl)) ?_
    simp only [Act.put, List.setIfInBounds_toArray, List.set_cons_zero, List.set_cons_succ]
    have ha : DkAt w0 (W2.drew.alloc (.cells #[.func (.func 26) #[] #[.pointer (some ⟨cb, 0, none⟩)], .pointer (some ⟨p.rb, 0, none⟩)] 92)) db P L vl K (.slice ak K.length ck) N := hd.later ((Below.refl _ W2.drew).alloc (Nat.le_refl _) _)
    have hka : KIn (W2.drew.alloc (.cells #[.func (.func 26) #[] #[.pointer (some ⟨cb, 0, none⟩)], .pointer (some ⟨p.rb, 0, none⟩)] 92)) P (cb, p.rb, i) := hkin.kept (Q := fun _ => False) (Kept.ofBelow ((Below.refl _ W2.drew).alloc (Nat.le_refl _) _)) (fun _ _ _ h => h)
    refine wpAny_all (rs := [10]) (by kernel_rfl) (by decide) (fun i hi => ?_)
    obtain rfl : i = 10 := by simpa using hi
    refine D_push (some 60) rfl rfl rfl (.tmp 54) (.tmp 59) 26 92 (.agg #[.nilFunc, .pointer none]) rfl Try.underlying26 info_keptQ rfl w0.heap.size (.slice ak K.length ck) (K.map kval) rfl ha.rk (kval (cb, p.rb, i)) W2.heap.size rfl (heap_alloc_new W2.drew _) rfl rfl (by rw [List.length_map]; omega) ha.bel.size ?_
    intro v6 W6 r6 k6
    obtain ⟨d7, bx6⟩ := ha.putK (K' := K ++ [(cb, p.rb, i)]) k6 (by rw [List.map_append]; exact r6) (fun x hx => by
      rcases List.mem_append.1 hx with hx | hx
      · exact ha.ik x hx
      · obtain rfl : x = (cb, p.rb, i) := by simpa using hx
        exact hka) (by simp; omega)
    obtain ⟨a6, c6, hv6⟩ := r6.form
    rw [List.length_append, List.length_map, List.length_singleton] at hv6
    subst hv6
    simp only [Act.put, List.setIfInBounds_toArray, List.set_cons_zero, List.set_cons_succ]
    refine A_take (i := 11) (v := .pointer (some ⟨db, 0, none⟩)) (some 61) rfl rfl (by kernel_rfl) (by kernel_rfl) (by kernel_rfl) (fun _ _ _ h => h) (.inl ⟨rfl, fun w => ?_⟩) ?_
    · simp [go_sem]
    simp only [Act.put, List.setIfInBounds_toArray, List.set_cons_zero, List.set_cons_succ]
    refine A_take (i := 12) (v := .pointer (some ⟨db, 1, none⟩)) (some 62) rfl rfl (by kernel_rfl) (by kernel_rfl) (by kernel_rfl) (fun _ _ _ h => h) (.inl ⟨rfl, fun w => ?_⟩) ?_
    · simp [go_sem]
    simp only [Act.put, List.setIfInBounds_toArray, List.set_cons_zero, List.set_cons_succ]
    refine wpAny_all (rs := [13]) (by kernel_rfl) (by decide) (fun i hi => ?_)
    obtain rfl : i = 13 := by simpa using hi
    refine D_skip rfl rfl rfl (run_storeK rfl rfl rfl (u := .slice ak K.length ck) (by simp only [World.cell?, bx6]; simp) (by simp only [World.frozen?, bx6]; simp)) ?_
    refine wpAny_done (by kernel_rfl) ?_ _
    generalize W6.setCell ⟨db, 1, none⟩ (.slice a6 (K.length + 1) c6) = W7 at d7
    have D7 := hideR d7
    have k1 : W7.cell? ⟨db, 1, none⟩ = some (.slice a6 (K.length + 1) c6) := by have kb := d7.box; simp only [World.cell?, kb]; simp
    have f1 : W7.frozen? ⟨db, 1, none⟩ = false := by have kb := d7.box; simp only [World.frozen?, kb]; rfl
    clear d7 bx6 r6 k6 ha hka hd hx hkin
    have HK4 := hideR hK4
    clear hK4
    by_cases h5 : K.length < 4
    · have t5 : ¬ ((K.length + 1 : Nat) : Int) > 4 := by omega
      have t6 : ¬ (4 : Int) < (K.length : Int) + 1 := by omega
      go_wp2_with fail
      go_ret
      exact ⟨rfl, DkN.mk' (D7.out.mono (Nat.le_succ N)) HKL.out.1 (by rw [List.length_append, List.length_singleton]; omega)⟩
    · have e5 : K.length = 4 := by have := HK4.out; omega
      obtain ⟨y, K2, hyk⟩ : ∃ y K2, K = y :: K2 := by
        cases K with
        | nil => simp at e5
        | cons y K2 => exact ⟨y, K2, rfl⟩
      have D8 := D7.out
      rw [show K ++ [(cb, p.rb, i)] = y :: (K2 ++ [(cb, p.rb, i)]) by rw [hyk]; rfl] at D8
      rw [e5] at k1 D8
      have r8 := D8.rk
      rw [List.map_cons] at r8
      obtain ⟨b8, o8, rfl⟩ : ∃ b8 o8, a6 = some ⟨b8, o8, none⟩ := by
        obtain ⟨b8, o8, e, _⟩ := r8.cell (j := 0) rfl
        exact ⟨b8, o8, e⟩
      obtain ⟨r9, e9, c9⟩ := r8.tail
      have hc6 : ¬ c6 = 1 := by omega
      have hc7 : 5 ≤ c6 := by omega
      have d9 := D8.putK (K' := K2 ++ [(cb, p.rb, i)]) (Kept.refl _ _) r9 (fun x hx => D8.ik x (List.mem_cons_of_mem _ hx)) (by have := D8.ck; simp at this ⊢; omega)
      have D9 := hideR d9.1
      have HE := hideR (And.intro hyk e5)
      clear d9 r9 r8 D8 D7 e9 c9 hyk
      go_wp2_with fail
      go_ret
      exact ⟨rfl, DkN.mk' (D9.out.mono (Nat.le_succ N)) HKL.out.1 (by have e := HE.out.2; rw [HE.out.1] at e; simp at e ⊢; omega)⟩
  · refine D_value (v := .slice (some ⟨W2.heap.size, 0, none⟩) 1 1) (w' := (W2.drew.alloc (.cells #[.func (.func 26) #[] #[.pointer (some ⟨cb, 0, none⟩)], .pointer (some ⟨p.rb, 0, none⟩)] 92))) (some 59) rfl rfl rfl (run_made rfl Try.underlying26 info_keptQ _ _ rfl (by kernel_rfl)) ?_
    simp only [Act.put, List.setIfInBounds_toArray, List.set_cons_zero, List.set_cons_succ]
    refine wpAny_all (rs := [4]) (by kernel_rfl) (by decide) (fun i hi => ?_)
    obtain rfl : i = 4 := by simpa using hi
    have hb : DkAt w0 (W2.drew.alloc (.cells #[.func (.func 26) #[] #[.pointer (some ⟨cb, 0, none⟩)], .pointer (some ⟨p.rb, 0, none⟩)] 92)) db P L vl K (.slice ak K.length ck) N := hd.later ((Below.refl _ W2.drew).alloc (Nat.le_refl _) _)
    refine D_value (v := .slice ak K.length ck) (w' := (W2.drew.alloc (.cells #[.func (.func 26) #[] #[.pointer (some ⟨cb, 0, none⟩)], .pointer (some ⟨p.rb, 0, none⟩)] 92))) (some 54) rfl rfl rfl ?_ ?_
    · have kb := hb.box
      have kc : ((W2.drew.alloc (.cells #[.func (.func 26) #[] #[.pointer (some ⟨cb, 0, none⟩)], .pointer (some ⟨p.rb, 0, none⟩)] 92))).cell? ⟨db, 1, none⟩ = some (.slice ak K.length ck) := by simp only [World.cell?, kb]; simp
      exact run_load1 rfl rfl Try.isAgg26 kc
    simp only [Act.put, List.setIfInBounds_toArray, List.set_cons_zero, List.set_cons_succ]
    clear hb
    have ha : DkAt w0 (W2.drew.alloc (.cells #[.func (.func 26) #[] #[.pointer (some ⟨cb, 0, none⟩)], .pointer (some ⟨p.rb, 0, none⟩)] 92)) db P L vl K (.slice ak K.length ck) N := hd.later ((Below.refl _ W2.drew).alloc (Nat.le_refl _) _)
    have hka : KIn (W2.drew.alloc (.cells #[.func (.func 26) #[] #[.pointer (some ⟨cb, 0, none⟩)], .pointer (some ⟨p.rb, 0, none⟩)] 92)) P (cb, p.rb, i) := hkin.kept (Q := fun _ => False) (Kept.ofBelow ((Below.refl _ W2.drew).alloc (Nat.le_refl _) _)) (fun _ _ _ h => h)
    refine wpAny_all (rs := [10]) (by kernel_rfl) (by decide) (fun i hi => ?_)
    obtain rfl : i = 10 := by simpa using hi
    refine D_push (some 60) rfl rfl rfl (.tmp 54) (.tmp 59) 26 92 (.agg #[.nilFunc, .pointer none]) rfl Try.underlying26 info_keptQ rfl w0.heap.size (.slice ak K.length ck) (K.map kval) rfl ha.rk (kval (cb, p.rb, i)) W2.heap.size rfl (heap_alloc_new W2.drew _) rfl rfl (by rw [List.length_map]; omega) ha.bel.size ?_
    intro v6 W6 r6 k6
    obtain ⟨d7, bx6⟩ := ha.putK (K' := K ++ [(cb, p.rb, i)]) k6 (by rw [List.map_append]; exact r6) (fun x hx => by
      rcases List.mem_append.1 hx with hx | hx
      · exact ha.ik x hx
      · obtain rfl : x = (cb, p.rb, i) := by simpa using hx
        exact hka) (by simp; omega)
    obtain ⟨a6, c6, hv6⟩ := r6.form
    rw [List.length_append, List.length_map, List.length_singleton] at hv6
    subst hv6
    simp only [Act.put, List.setIfInBounds_toArray, List.set_cons_zero, List.set_cons_succ]
    refine A_take (i := 11) (v := .pointer (some ⟨db, 0, none⟩)) (some 61) rfl rfl (by kernel_rfl) (by kernel_rfl) (by kernel_rfl) (fun _ _ _ h => h) (.inl ⟨rfl, fun w => ?_⟩) ?_
    · simp [go_sem]
    simp only [Act.put, List.setIfInBounds_toArray, List.set_cons_zero, List.set_cons_succ]
    refine A_take (i := 12) (v := .pointer (some ⟨db, 1, none⟩)) (some 62) rfl rfl (by kernel_rfl) (by kernel_rfl) (by kernel_rfl) (fun _ _ _ h => h) (.inl ⟨rfl, fun w => ?_⟩) ?_
    · simp [go_sem]
    simp only [Act.put, List.setIfInBounds_toArray, List.set_cons_zero, List.set_cons_succ]
    refine wpAny_all (rs := [13]) (by kernel_rfl) (by decide) (fun i hi => ?_)
    obtain rfl : i = 13 := by simpa using hi
    refine D_skip rfl rfl rfl (run_storeK rfl rfl rfl (u := .slice ak K.length ck) (by simp only [World.cell?, bx6]; simp) (by simp only [World.frozen?, bx6]; simp)) ?_
    refine wpAny_done (by kernel_rfl) ?_ _
    generalize W6.setCell ⟨db, 1, none⟩ (.slice a6 (K.length + 1) c6) = W7 at d7
    have D7 := hideR d7
    have k1 : W7.cell? ⟨db, 1, none⟩ = some (.slice a6 (K.length + 1) c6) := by have kb := d7.box; simp only [World.cell?, kb]; simp
    have f1 : W7.frozen? ⟨db, 1, none⟩ = false := by have kb := d7.box; simp only [World.frozen?, kb]; rfl
    clear d7 bx6 r6 k6 ha hka hd hx hkin
    have HK4 := hideR hK4
    clear hK4
    by_cases h5 : K.length < 4
    · have t5 : ¬ ((K.length + 1 : Nat) : Int) > 4 := by omega
      have t6 : ¬ (4 : Int) < (K.length : Int) + 1 := by omega
      go_wp2_with fail
      go_ret
      exact ⟨rfl, DkN.mk' (D7.out.mono (Nat.le_succ N)) HKL.out.1 (by rw [List.length_append, List.length_singleton]; omega)⟩
    · have e5 : K.length = 4 := by have := HK4.out; omega
      obtain ⟨y, K2, hyk⟩ : ∃ y K2, K = y :: K2 := by
        cases K with
        | nil => simp at e5
        | cons y K2 => exact ⟨y, K2, rfl⟩
      have D8 := D7.out
      rw [show K ++ [(cb, p.rb, i)] = y :: (K2 ++ [(cb, p.rb, i)]) by rw [hyk]; rfl] at D8
      rw [e5] at k1 D8
      have r8 := D8.rk
      rw [List.map_cons] at r8
      obtain ⟨b8, o8, rfl⟩ : ∃ b8 o8, a6 = some ⟨b8, o8, none⟩ := by
        obtain ⟨b8, o8, e, _⟩ := r8.cell (j := 0) rfl
        exact ⟨b8, o8, e⟩
      obtain ⟨r9, e9, c9⟩ := r8.tail
      have hc6 : ¬ c6 = 1 := by omega
      have hc7 : 5 ≤ c6 := by omega
      have d9 := D8.putK (K' := K2 ++ [(cb, p.rb, i)]) (Kept.refl _ _) r9 (fun x hx => D8.ik x (List.mem_cons_of_mem _ hx)) (by have := D8.ck; simp at this ⊢; omega)
      have D9 := hideR d9.1
      have HE := hideR (And.intro hyk e5)
      clear d9 r9 r8 D8 D7 e9 c9 hyk
      go_wp2_with fail
      go_ret
      exact ⟨rfl, DkN.mk' (D9.out.mono (Nat.le_succ N)) HKL.out.1 (by have e := HE.out.2; rw [HE.out.1] at e; simp at e ⊢; omega)⟩
end Go.Proofs.Ytccpaapbgdpghaa


namespace Go.Proofs.Ytccpaapbgdpghaa
open Go.RowKit

set_option maxHeartbeats 4000000 in
set_option maxRecDepth 1000000 in
theorem goes10 (w0 w : World) (db N i : Nat) (on n x : Int) (P : List Pq) (L K : List Ref3) (vl vk : Value) (p : Pq) (h : DkAt w0 w db P L vl K vk N) (hL : L ≠ []) (hK : K.length ≤ 4) (hi : P[i]? = some p) (hN : N ≤ 1048576) (hn : -9223372036854775808 ≤ n ∧ n ≤ 9223372036854775807) (hx : -9223372036854775808 ≤ x ∧ x ≤ 9223372036854775807) :
    Calls Try.prog 23 #[.pointer (some ⟨db, 0, none⟩), .agg #[.pointer (some ⟨p.qb, 0, none⟩), .pointer (some ⟨p.rb, 0, none⟩)], .agg #[.int .i64 10, .int .i64 on, .int .i64 n, .int .i64 x]] w fun e w' => e = .returned (.bool true) ∧ DkN w0 db (N + 1) w' := by
  have hff := fun w f caps => fq_not_nil w f caps
  obtain ⟨W0, hW0⟩ : ∃ W0, W0 = (w.alloc (.cells #[.pointer (some ⟨p.qb, 0, none⟩), .pointer (some ⟨p.rb, 0, none⟩)] 36)).alloc (.cells #[.int .i64 10, .int .i64 on, .int .i64 n, .int .i64 x] 39) := ⟨_, rfl⟩
  have b0 : Below w.heap.size w W0 := by rw [hW0]; exact ((Below.refl _ w).alloc (Nat.le_refl _) _).alloc (by simp) _
  obtain ⟨bp, hbp⟩ : ∃ bp, bp = w.heap.size := ⟨_, rfl⟩
  obtain ⟨bo, hbo⟩ : ∃ bo, bo = w.heap.size + 1 := ⟨_, rfl⟩
  have xp0 : W0.heap[bp]? = some (.cells #[.pointer (some ⟨p.qb, 0, none⟩), .pointer (some ⟨p.rb, 0, none⟩)] 36 (0, 0)) := by
    rw [hW0, hbp]
    exact (heap_alloc_old (w.alloc (.cells #[.pointer (some ⟨p.qb, 0, none⟩), .pointer (some ⟨p.rb, 0, none⟩)] 36)) _ (by simp)).trans (heap_alloc_new w _)
  have xo0 : W0.heap[bo]? = some (.cells #[.int .i64 10, .int .i64 on, .int .i64 n, .int .i64 x] 39 (0, 0)) := by
    rw [hW0, hbo]
    have := heap_alloc_new (w.alloc (.cells #[.pointer (some ⟨p.qb, 0, none⟩), .pointer (some ⟨p.rb, 0, none⟩)] 36)) (.cells #[.int .i64 10, .int .i64 on, .int .i64 n, .int .i64 x] 39)
    rw [World.size_alloc] at this
    exact this
  have p0 : W0.cell? ⟨bp, 0, none⟩ = some (.pointer (some ⟨p.qb, 0, none⟩)) := by simp [World.cell?, xp0]
  have few := h.prs.few i p hi
  have h0 := h.later b0
  have AL := hideR (fun w => allI w p.qb)
  have HBP := hideR (And.intro hW0 (And.intro hbp hbo))
  have HX0 := hideR (And.intro xp0 xo0)
  have H0 := hideR h0
  have HB0 := hideR b0
  have HNN := hideR (And.intro hn hx)
  have HKL := hideR (And.intro hL hK)
  have HI := hideR hi
  have HF := hideR few
  clear h xp0 xo0 b0 h0 hW0 hbp hbo hn hx hL hK hi few
  go_enter Try.func23, Try.ntmps23
  go_upto_region 1 with fail
  rw [← HBP.out.1, ← HBP.out.2.2, ← HBP.out.2.1]
  go_wp2_with fail
  refine (AL.out _).mono ?_
  rintro e W2 ⟨rfl, hW2⟩
  obtain ⟨cb, hcb⟩ : ∃ cb, cb = W0.heap.size := ⟨_, rfl⟩
  rw [← hcb]
  have b2 : Below W0.heap.size W0 W2 := by rw [hW2]; exact (Below.refl _ W0).alloc (Nat.le_refl _) _
  have xc : W2.heap[cb]? = some (.cells #[.pointer (some ⟨p.qb, 0, none⟩)] 29 (0, 0)) := by rw [hW2, hcb]; exact heap_alloc_new W0 _
  have xp := (b2.block _ (Array.getElem?_eq_some_iff.1 HX0.out.1).1).trans HX0.out.1
  have xo := (b2.block _ (Array.getElem?_eq_some_iff.1 HX0.out.2).1).trans HX0.out.2
  have o0 : W2.cell? ⟨bo, 0, none⟩ = some (.int .i64 10) := by simp [World.cell?, xo]
  have h2 := H0.out.later b2
  have e2 := h2.prs.each i p HI.out
  have H2 := hideR (And.intro h2 (And.intro e2 (And.intro xc (And.intro xp xo))))
  clear hW2 hcb b2 xc xp xo h2 e2 p0
  obtain ⟨ak, ck, hvk⟩ := H2.out.1.rk.form
  rw [List.length_map] at hvk
  subst hvk
  have k0 : W2.cell? ⟨db, 1, none⟩ = some (.slice ak K.length ck) := by have kb := H2.out.1.box; simp only [World.cell?, kb]; simp
  by_cases hz : K.length = 0
  · have t0 : ¬ (0 : Int) < (K.length : Int) := by omega
    go_wp2_with fail
    go_ret
    exact ⟨rfl, DkN.mk' (H2.out.1.mono (Nat.le_succ N)) HKL.out.1 HKL.out.2⟩
  · have t0 : (0 : Int) < (K.length : Int) := by omega
    have hK4 := HKL.out.2
    obtain ⟨gk, off, rfl, hgk, _⟩ := H2.out.1.rk.range (j := 0) (x := kval (K[0]'(by omega))) (by rw [List.getElem?_map, List.getElem?_eq_getElem (by omega)]; rfl)
    go_upto_region 19 with fail
    clear k0 o0
    have hd : DkAt w0 W2.drew db P L vl K (.slice (some ⟨gk, off, none⟩) K.length ck) N := H2.out.1.later ⟨rfl, rfl, rfl, Nat.le_refl _, fun _ _ => rfl⟩
    have sq : (fun X : World => X.heap[db]? = some (.cells #[vl, .slice (some ⟨gk, off, none⟩) K.length ck] 28 (0, 0)) ∧ X.heap[bo]? = some (.cells #[.int .i64 10, .int .i64 on, .int .i64 n, .int .i64 x] 39 (0, 0)) ∧ X.heap[gk]? = W2.drew.heap[gk]?) W2.drew := ⟨hd.box, H2.out.2.2.2.2, rfl⟩
    have HD := hideR hd
    have HG := hideR hgk
    clear hd hgk
    refine wp_region_held_drew (S := (fun X : World => X.heap[db]? = some (.cells #[vl, .slice (some ⟨gk, off, none⟩) K.length ck] 28 (0, 0)) ∧ X.heap[bo]? = some (.cells #[.int .i64 10, .int .i64 on, .int .i64 n, .int .i64 x] 39 (0, 0)) ∧ X.heap[gk]? = W2.drew.heap[gk]?)) mixed sq (fun _ => ?_)
    refine H_take (i := 0) (v := .pointer (some ⟨db, 0, none⟩)) (some 85) rfl rfl (by kernel_rfl) (by kernel_rfl) (by kernel_rfl) (fun _ _ _ h => h) rfl (fun X hX => ?_) sq ?_
    · simp [go_sem]
    simp only [Act.put, List.setIfInBounds_toArray, List.set_cons_zero, List.set_cons_succ]
    refine H_take (i := 1) (v := .pointer (some ⟨db, 0, none⟩)) (some 86) rfl rfl (by kernel_rfl) (by kernel_rfl) (by kernel_rfl) (fun _ _ _ h => h) rfl (fun X hX => ?_) sq ?_
    · simp [go_sem]
    simp only [Act.put, List.setIfInBounds_toArray, List.set_cons_zero, List.set_cons_succ]
    refine H_take (i := 2) (v := .pointer (some ⟨db, 1, none⟩)) (some 87) rfl rfl (by kernel_rfl) (by kernel_rfl) (by kernel_rfl) (fun _ _ _ h => h) rfl (fun X hX => ?_) sq ?_
    · simp [go_sem]
    simp only [Act.put, List.setIfInBounds_toArray, List.set_cons_zero, List.set_cons_succ]
    refine H_take (i := 3) (v := .slice (some ⟨gk, off, none⟩) K.length ck) (some 88) rfl rfl (by kernel_rfl) (by kernel_rfl) (by kernel_rfl) (fun _ _ _ h => h) rfl (fun X hX => ?_) sq ?_
    · exact run_load1 rfl rfl Try.isAgg26 (by simp only [World.cell?, hX.1]; simp)
    simp only [Act.put, List.setIfInBounds_toArray, List.set_cons_zero, List.set_cons_succ]
    refine H_take (i := 4) (v := .pointer (some ⟨bo, 2, none⟩)) (some 89) rfl rfl (by kernel_rfl) (by kernel_rfl) (by kernel_rfl) (fun _ _ _ h => h) rfl (fun X hX => ?_) sq ?_
    · simp [go_sem]
    simp only [Act.put, List.setIfInBounds_toArray, List.set_cons_zero, List.set_cons_succ]
    refine H_take (i := 5) (v := .int .i64 n) (some 90) rfl rfl (by kernel_rfl) (by kernel_rfl) (by kernel_rfl) (fun _ _ _ h => h) rfl (fun X hX => ?_) sq ?_
    · simp [go_sem, World.cell?, hX.2.1]
    simp only [Act.put, List.setIfInBounds_toArray, List.set_cons_zero, List.set_cons_succ]
    refine H_take (i := 6) (v := .pointer (some ⟨db, 0, none⟩)) (some 91) rfl rfl (by kernel_rfl) (by kernel_rfl) (by kernel_rfl) (fun _ _ _ h => h) rfl (fun X hX => ?_) sq ?_
    · simp [go_sem]
    simp only [Act.put, List.setIfInBounds_toArray, List.set_cons_zero, List.set_cons_succ]
    refine H_take (i := 7) (v := .pointer (some ⟨db, 0, none⟩)) (some 92) rfl rfl (by kernel_rfl) (by kernel_rfl) (by kernel_rfl) (fun _ _ _ h => h) rfl (fun X hX => ?_) sq ?_
    · simp [go_sem]
    simp only [Act.put, List.setIfInBounds_toArray, List.set_cons_zero, List.set_cons_succ]
    refine H_take (i := 8) (v := .pointer (some ⟨db, 1, none⟩)) (some 93) rfl rfl (by kernel_rfl) (by kernel_rfl) (by kernel_rfl) (fun _ _ _ h => h) rfl (fun X hX => ?_) sq ?_
    · simp [go_sem]
    simp only [Act.put, List.setIfInBounds_toArray, List.set_cons_zero, List.set_cons_succ]
    refine H_take (i := 9) (v := .slice (some ⟨gk, off, none⟩) K.length ck) (some 94) rfl rfl (by kernel_rfl) (by kernel_rfl) (by kernel_rfl) (fun _ _ _ h => h) rfl (fun X hX => ?_) sq ?_
    · exact run_load1 rfl rfl Try.isAgg26 (by simp only [World.cell?, hX.1]; simp)
    simp only [Act.put, List.setIfInBounds_toArray, List.set_cons_zero, List.set_cons_succ]
    refine H_take (i := 10) (v := .int .i64 (K.length : Int)) (some 95) rfl rfl (by kernel_rfl) (by kernel_rfl) (by kernel_rfl) (fun _ _ _ h => h) rfl (fun X hX => ?_) sq ?_
    · simp [go_sem]
    simp only [Act.put, List.setIfInBounds_toArray, List.set_cons_zero, List.set_cons_succ]
    refine wpAnyH_all (rs := [11, 14]) (by kernel_rfl) (by decide) (fun j hj => ?_)
    have hj2 : j = 11 ∨ j = 14 := by simpa using hj
    rcases hj2 with rfl | rfl
    · refine D_call (f := 16) (args := #[.int .i64 n, .int .i64 (K.length : Int)]) (some 96) rfl rfl rfl (by simp [go_sem]) ((pick_any W2.drew n K.length HNN.out.1 (by omega) (by omega)).mono ?_)
      rintro e W' ⟨⟨r, hr, rfl⟩, rfl⟩
      refine ⟨_, rfl, sq, ?_⟩
      simp only [Act.put, List.setIfInBounds_toArray, List.set_cons_zero, List.set_cons_succ]
      obtain ⟨y, hy⟩ : ∃ y, K[r]? = some y := ⟨_, List.getElem?_eq_getElem hr⟩
      obtain ⟨gk', off', eg, _, _, _, hall⟩ := HD.out.rk.range (j := r) (x := kval y) (by simp [hy])
      simp only [Option.some.injEq, Addr.mk.injEq, and_true] at eg
      obtain ⟨rfl, rfl⟩ := eg
      have ri : (r : Int) < (K.length : Int) := by omega
      refine H_take (i := 12) (v := .pointer (some ⟨gk, off + 2 * r, none⟩)) (some 97) rfl rfl (by kernel_rfl) (by kernel_rfl) (by kernel_rfl) (fun _ _ _ h => h) rfl (fun X hX => ?_) sq ?_
      · simp [go_sem, ri]
      simp only [Act.put, List.setIfInBounds_toArray, List.set_cons_zero, List.set_cons_succ]
      refine H_take (i := 13) (v := .agg #[.func (.func 26) #[] #[.pointer (some ⟨y.1, 0, none⟩)], .pointer (some ⟨y.2.1, 0, none⟩)]) (some 98) rfl rfl (by kernel_rfl) (by kernel_rfl) (by kernel_rfl) (fun _ _ _ h => h) rfl (fun X hX => ?_) sq ?_
      · exact run_loadMid rfl rfl (hall X hX.2.2).1 Try.underlying92 rfl rfl
      simp only [Act.put, List.setIfInBounds_toArray, List.set_cons_zero, List.set_cons_succ]
      have bA : Below W2.drew.heap.size W2.drew (W2.drew.alloc (.cells #[.nilFunc, .pointer none] 92)) := (Below.refl _ W2.drew).alloc (Nat.le_refl _) _
      have sqA : (fun X : World => X.heap[db]? = some (.cells #[vl, .slice (some ⟨gk, off, none⟩) K.length ck] 28 (0, 0)) ∧ X.heap[bo]? = some (.cells #[.int .i64 10, .int .i64 on, .int .i64 n, .int .i64 x] 39 (0, 0)) ∧ X.heap[gk]? = W2.drew.heap[gk]?) (W2.drew.alloc (.cells #[.nilFunc, .pointer none] 92)) := ⟨(bA.block _ (Array.getElem?_eq_some_iff.1 sq.1).1).trans sq.1, (bA.block _ (Array.getElem?_eq_some_iff.1 sq.2.1).1).trans sq.2.1, bA.block gk HG.out⟩
      clear bA
      refine H_value (i := 14) (v := .pointer (some ⟨W2.heap.size, 0, none⟩)) (w' := (W2.drew.alloc (.cells #[.nilFunc, .pointer none] 92))) (some 10) rfl rfl (by kernel_rfl) rfl (run_allocK rfl) sqA ?_
      simp only [Act.put, List.setIfInBounds_toArray, List.set_cons_zero, List.set_cons_succ]
      obtain ⟨bN, xN⟩ := setRow_newQ W2.drew #[.nilFunc, .pointer none] #[.func (.func 26) #[] #[.pointer (some ⟨y.1, 0, none⟩)], .pointer (some ⟨y.2.1, 0, none⟩)] 92
      have sqN : (fun X : World => X.heap[db]? = some (.cells #[vl, .slice (some ⟨gk, off, none⟩) K.length ck] 28 (0, 0)) ∧ X.heap[bo]? = some (.cells #[.int .i64 10, .int .i64 on, .int .i64 n, .int .i64 x] 39 (0, 0)) ∧ X.heap[gk]? = W2.drew.heap[gk]?) ((W2.drew.alloc (.cells #[.nilFunc, .pointer none] 92)).setRow W2.heap.size #[.func (.func 26) #[] #[.pointer (some ⟨y.1, 0, none⟩)], .pointer (some ⟨y.2.1, 0, none⟩)]) := ⟨(bN.block _ (Array.getElem?_eq_some_iff.1 sq.1).1).trans sq.1, (bN.block _ (Array.getElem?_eq_some_iff.1 sq.2.1).1).trans sq.2.1, bN.block gk HG.out⟩
      refine H_skip (i := 15) (w' := (W2.drew.alloc (.cells #[.nilFunc, .pointer none] 92)).setRow W2.heap.size #[.func (.func 26) #[] #[.pointer (some ⟨y.1, 0, none⟩)], .pointer (some ⟨y.2.1, 0, none⟩)]) rfl rfl (by kernel_rfl) rfl (run_storeRow rfl W2.heap.size #[.func (.func 26) #[] #[.pointer (some ⟨y.1, 0, none⟩)], .pointer (some ⟨y.2.1, 0, none⟩)] rfl rfl 92 #[.nilFunc, .pointer none] (heap_alloc_new W2.drew _) rfl rfl (by simp [Value.oneCell'])) sqN ?_
      refine wpAnyH_done (by kernel_rfl) ?_ _
      have b2 : Below W2.heap.size W2 ((W2.drew.alloc (.cells #[.nilFunc, .pointer none] 92)).setRow W2.heap.size #[.func (.func 26) #[] #[.pointer (some ⟨y.1, 0, none⟩)], .pointer (some ⟨y.2.1, 0, none⟩)]) := ⟨bN.1, bN.2, bN.3, bN.4, bN.5⟩
      have xM : ((W2.drew.alloc (.cells #[.nilFunc, .pointer none] 92)).setRow W2.heap.size #[.func (.func 26) #[] #[.pointer (some ⟨y.1, 0, none⟩)], .pointer (some ⟨y.2.1, 0, none⟩)]).heap[W2.heap.size]? = some (.cells #[.func (.func 26) #[] #[.pointer (some ⟨y.1, 0, none⟩)], .pointer (some ⟨y.2.1, 0, none⟩)] 92 (0, 0)) := xN
      clear sqN xN bN
      generalize (W2.drew.alloc (.cells #[.nilFunc, .pointer none] 92)).setRow W2.heap.size #[.func (.func 26) #[] #[.pointer (some ⟨y.1, 0, none⟩)], .pointer (some ⟨y.2.1, 0, none⟩)] = W3 at xM b2
      have d3 := H2.out.1.later b2
      obtain ⟨p3, hp3, hb3, hr3⟩ := d3.ik y (List.mem_of_getElem? hy)
      have e3 := d3.prs.each _ _ hp3
      have few3 := d3.prs.few _ _ hp3
      have q0 : W3.cell? ⟨W2.heap.size, 0, none⟩ = some (.func (.func 26) #[] #[.pointer (some ⟨y.1, 0, none⟩)]) := by simp only [World.cell?, xM]; simp
      have q1 : W3.cell? ⟨W2.heap.size, 1, none⟩ = some (.pointer (some ⟨y.2.1, 0, none⟩)) := by simp only [World.cell?, xM]; simp
      have WH := whole_any w0.heap.size W3 p3.qb p3.mb y.1 p3.rb p3.g p3.g p3.R p3.vt p3.vh p3.T p3.H e3.q hb3 e3.r e3.al (by omega)
      rw [hr3] at WH
      have HWH := hideR WH
      have D3 := hideR d3
      clear xM b2 d3 hp3 hb3 hr3 e3 few3 WH hy ri sq hall hr
      go_wp2_with fail
      refine HWH.out.mono ?_
      rintro e W5 ⟨rfl, b5⟩
      have HB5 := hideR b5
      clear b5
      go_wp2_with fail
      go_ret
      exact ⟨rfl, DkN.mk' ((D3.out.later HB5.out).mono (Nat.le_succ N)) HKL.out.1 HKL.out.2⟩
    · have bA : Below W2.drew.heap.size W2.drew (W2.drew.alloc (.cells #[.nilFunc, .pointer none] 92)) := (Below.refl _ W2.drew).alloc (Nat.le_refl _) _
      have sqA : (fun X : World => X.heap[db]? = some (.cells #[vl, .slice (some ⟨gk, off, none⟩) K.length ck] 28 (0, 0)) ∧ X.heap[bo]? = some (.cells #[.int .i64 10, .int .i64 on, .int .i64 n, .int .i64 x] 39 (0, 0)) ∧ X.heap[gk]? = W2.drew.heap[gk]?) (W2.drew.alloc (.cells #[.nilFunc, .pointer none] 92)) := ⟨(bA.block _ (Array.getElem?_eq_some_iff.1 sq.1).1).trans sq.1, (bA.block _ (Array.getElem?_eq_some_iff.1 sq.2.1).1).trans sq.2.1, bA.block gk HG.out⟩
      clear bA
      refine D_value (v := .pointer (some ⟨W2.heap.size, 0, none⟩)) (w' := (W2.drew.alloc (.cells #[.nilFunc, .pointer none] 92))) (some 10) rfl rfl rfl (run_allocK rfl) ⟨sqA, ?_⟩
      simp only [Act.put, List.setIfInBounds_toArray, List.set_cons_zero, List.set_cons_succ]
      refine H_call (i := 11) (f := 16) (args := #[.int .i64 n, .int .i64 (K.length : Int)]) (some 96) rfl rfl (by kernel_rfl) rfl (by simp [go_sem]) ((pick_any (W2.drew.alloc (.cells #[.nilFunc, .pointer none] 92)) n K.length HNN.out.1 (by omega) (by omega)).mono ?_)
      rintro e W' ⟨⟨r, hr, rfl⟩, hw'⟩
      subst hw'
      refine ⟨_, rfl, sqA, ?_⟩
      simp only [Act.put, List.setIfInBounds_toArray, List.set_cons_zero, List.set_cons_succ]
      obtain ⟨y, hy⟩ : ∃ y, K[r]? = some y := ⟨_, List.getElem?_eq_getElem hr⟩
      obtain ⟨gk', off', eg, _, _, _, hall⟩ := HD.out.rk.range (j := r) (x := kval y) (by simp [hy])
      simp only [Option.some.injEq, Addr.mk.injEq, and_true] at eg
      obtain ⟨rfl, rfl⟩ := eg
      have ri : (r : Int) < (K.length : Int) := by omega
      refine H_take (i := 12) (v := .pointer (some ⟨gk, off + 2 * r, none⟩)) (some 97) rfl rfl (by kernel_rfl) (by kernel_rfl) (by kernel_rfl) (fun _ _ _ h => h) rfl (fun X hX => ?_) sqA ?_
      · simp [go_sem, ri]
      simp only [Act.put, List.setIfInBounds_toArray, List.set_cons_zero, List.set_cons_succ]
      refine H_take (i := 13) (v := .agg #[.func (.func 26) #[] #[.pointer (some ⟨y.1, 0, none⟩)], .pointer (some ⟨y.2.1, 0, none⟩)]) (some 98) rfl rfl (by kernel_rfl) (by kernel_rfl) (by kernel_rfl) (fun _ _ _ h => h) rfl (fun X hX => ?_) sqA ?_
      · exact run_loadMid rfl rfl (hall X hX.2.2).1 Try.underlying92 rfl rfl
      simp only [Act.put, List.setIfInBounds_toArray, List.set_cons_zero, List.set_cons_succ]
      obtain ⟨bN, xN⟩ := setRow_newQ W2.drew #[.nilFunc, .pointer none] #[.func (.func 26) #[] #[.pointer (some ⟨y.1, 0, none⟩)], .pointer (some ⟨y.2.1, 0, none⟩)] 92
      have sqN : (fun X : World => X.heap[db]? = some (.cells #[vl, .slice (some ⟨gk, off, none⟩) K.length ck] 28 (0, 0)) ∧ X.heap[bo]? = some (.cells #[.int .i64 10, .int .i64 on, .int .i64 n, .int .i64 x] 39 (0, 0)) ∧ X.heap[gk]? = W2.drew.heap[gk]?) ((W2.drew.alloc (.cells #[.nilFunc, .pointer none] 92)).setRow W2.heap.size #[.func (.func 26) #[] #[.pointer (some ⟨y.1, 0, none⟩)], .pointer (some ⟨y.2.1, 0, none⟩)]) := ⟨(bN.block _ (Array.getElem?_eq_some_iff.1 sq.1).1).trans sq.1, (bN.block _ (Array.getElem?_eq_some_iff.1 sq.2.1).1).trans sq.2.1, bN.block gk HG.out⟩
      refine H_skip (i := 15) (w' := (W2.drew.alloc (.cells #[.nilFunc, .pointer none] 92)).setRow W2.heap.size #[.func (.func 26) #[] #[.pointer (some ⟨y.1, 0, none⟩)], .pointer (some ⟨y.2.1, 0, none⟩)]) rfl rfl (by kernel_rfl) rfl (run_storeRow rfl W2.heap.size #[.func (.func 26) #[] #[.pointer (some ⟨y.1, 0, none⟩)], .pointer (some ⟨y.2.1, 0, none⟩)] rfl rfl 92 #[.nilFunc, .pointer none] (heap_alloc_new W2.drew _) rfl rfl (by simp [Value.oneCell'])) sqN ?_
      refine wpAnyH_done (by kernel_rfl) ?_ _
      have b2 : Below W2.heap.size W2 ((W2.drew.alloc (.cells #[.nilFunc, .pointer none] 92)).setRow W2.heap.size #[.func (.func 26) #[] #[.pointer (some ⟨y.1, 0, none⟩)], .pointer (some ⟨y.2.1, 0, none⟩)]) := ⟨bN.1, bN.2, bN.3, bN.4, bN.5⟩
      have xM : ((W2.drew.alloc (.cells #[.nilFunc, .pointer none] 92)).setRow W2.heap.size #[.func (.func 26) #[] #[.pointer (some ⟨y.1, 0, none⟩)], .pointer (some ⟨y.2.1, 0, none⟩)]).heap[W2.heap.size]? = some (.cells #[.func (.func 26) #[] #[.pointer (some ⟨y.1, 0, none⟩)], .pointer (some ⟨y.2.1, 0, none⟩)] 92 (0, 0)) := xN
      clear sqN xN bN
      generalize (W2.drew.alloc (.cells #[.nilFunc, .pointer none] 92)).setRow W2.heap.size #[.func (.func 26) #[] #[.pointer (some ⟨y.1, 0, none⟩)], .pointer (some ⟨y.2.1, 0, none⟩)] = W3 at xM b2
      have d3 := H2.out.1.later b2
      obtain ⟨p3, hp3, hb3, hr3⟩ := d3.ik y (List.mem_of_getElem? hy)
      have e3 := d3.prs.each _ _ hp3
      have few3 := d3.prs.few _ _ hp3
      have q0 : W3.cell? ⟨W2.heap.size, 0, none⟩ = some (.func (.func 26) #[] #[.pointer (some ⟨y.1, 0, none⟩)]) := by simp only [World.cell?, xM]; simp
      have q1 : W3.cell? ⟨W2.heap.size, 1, none⟩ = some (.pointer (some ⟨y.2.1, 0, none⟩)) := by simp only [World.cell?, xM]; simp
      have WH := whole_any w0.heap.size W3 p3.qb p3.mb y.1 p3.rb p3.g p3.g p3.R p3.vt p3.vh p3.T p3.H e3.q hb3 e3.r e3.al (by omega)
      rw [hr3] at WH
      have HWH := hideR WH
      have D3 := hideR d3
      clear xM b2 d3 hp3 hb3 hr3 e3 few3 WH hy ri sq hall hr
      go_wp2_with fail
      refine HWH.out.mono ?_
      rintro e W5 ⟨rfl, b5⟩
      have HB5 := hideR b5
      clear b5
      go_wp2_with fail
      go_ret
      exact ⟨rfl, DkN.mk' ((D3.out.later HB5.out).mono (Nat.le_succ N)) HKL.out.1 HKL.out.2⟩
end Go.Proofs.Ytccpaapbgdpghaa
