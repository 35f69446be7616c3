/-
  The walk of the document's Clone. (Written by genrc.py.)
-/
import Derived.Test.YtccpaapbgdpghaaRefLeave
import Derived.Test.YtccpaapbgdpghaaKeepsG
import Derived.Test.YtccpaapbgdpghaaHandS
import Derived.Test.YtccpaapbgdpghaaDrawD
import Derived.Deep.Cut
namespace Go.Proofs.Ytccpaapbgdpghaa
open Go.RowKit

structure HidR (p : Prop) : Prop where
  out : p
theorem hideR {p : Prop} (h : p) : HidR p := ⟨h⟩
/-- 'append' of numbers, in a region that draws. -/
theorem op_ints {w : World} {ops : Array Oper} {i : Nat} {o : Oper} {a : Act} {K : Act → World → Prop} {Q : Exit → Act → World → Prop} (hi : ops[i]? = some o) (hg : Region.wanted o (yielded ops a.tmps) = true) (s x : Operand)
    (ho : o.op = .call { callee := .builtin .append, args := #[s, x], argTypes := #[32, 32] })
    (B : Nat) (v : Value) (l : List Int) (hs : a.eval s = v) (hown : Nums w B v l) (u : Value) (m : List Int) (hx : a.eval x = u) (hsrc : ∃ ad c, u = .slice ad m.length c ∧ ((ad = none ∧ m.length = 0) ∨ ∃ p, ad = some p ∧ ∀ j z, (ints m)[j]? = some z → w.cell? (p.add j) = some z))
    (hb : l.length + m.length ≤ 4294967296) (hbase : B ≤ w.heap.size)
    (h : ∀ v' w', Nums w' B v' (l ++ m) → w.grownBy w' v.ownBlock → (v'.ownBlock = v.ownBlock ∨ v'.ownBlock = some w.heap.size) → K (a.put o.dst v') w') : wpOp Try.prog ops Q i K a w := by
  obtain ⟨i0, hi0, hz0, hz1, hz2⟩ := info_parts info_int
  obtain ⟨ad, c, rfl, hs2⟩ := hsrc
  obtain ⟨v', w', hr, h2, h3, _, h5, _⟩ := run_append_keepsG (P := Try.prog) w 1 B 32 o.type 3 i0 _ Try.underlying32 hi0 hz0 hz1 rfl v l.length (ints l) hown ad m.length c (ints m) (by simp [ints]) hs2 (by intro y hy; simp [ints] at hy; obtain ⟨z, _, rfl⟩ := hy; rfl) (by unfold maxLen; omega) (by rw [hz2]; omega) hbase
  refine op_value hi hg (v := v') (w' := w') ?_ (h v' w' (by show World.ownsRow _ _ _ _ _ _ _; rw [ints_append, List.length_append]; exact h2) h3 h5)
  unfold execOp
  simp only [ho, resolve, invoke, builtin, Sem.run_bind, Sem.run_pure, Result.andThen_ok, List.map_toArray, List.map_cons, List.map_nil, hs, hx, hr]
/-- The same, with the slot written out. -/
theorem H_ints {w : World} {ops : Array Oper} {i : Nat} {o : Oper} {fuel : Nat} {listed : Array Bool} {a : Act} {md : Region.Mode} {S : World → Prop} {Q : Exit → Act → World → Prop} (d : Option Tmp) (hi : ops[i]? = some o) (hd : o.dst = d) (hr : Region.ready md ops listed = [i]) (hg : Region.wanted o (yielded ops a.tmps) = true) (s x : Operand)
    (ho : o.op = .call { callee := .builtin .append, args := #[s, x], argTypes := #[32, 32] })
    (B : Nat) (v : Value) (l : List Int) (hs : a.eval s = v) (hown : Nums w B v l) (u : Value) (m : List Int) (hx : a.eval x = u) (hsrc : ∃ ad c, u = .slice ad m.length c ∧ ((ad = none ∧ m.length = 0) ∨ ∃ p, ad = some p ∧ ∀ j z, (ints m)[j]? = some z → w.cell? (p.add j) = some z))
    (hb : l.length + m.length ≤ 4294967296) (hbase : B ≤ w.heap.size)
    (h : ∀ v' w', Nums w' B v' (l ++ m) → w.grownBy w' v.ownBlock → (v'.ownBlock = v.ownBlock ∨ v'.ownBlock = some w.heap.size) → S w' ∧ wpAnyH Try.prog md ops Q S fuel (listed.setIfInBounds i true) (a.put d v') w') : wpAnyH Try.prog md ops Q S (fuel + 1) listed a w := by
  subst hd
  refine wpAnyH_all hr (by simp) (fun j hj => ?_)
  obtain rfl : j = i := by simpa using hj
  exact op_ints hi hg s x ho B v l hs hown u m hx hsrc hb hbase h
theorem src_ints {w : World} {B : Nat} {u : Value} {m : List Int} (h : Nums w B u m) : ∃ ad c, u = .slice ad m.length c ∧ ((ad = none ∧ m.length = 0) ∨ ∃ p, ad = some p ∧ ∀ j z, (ints m)[j]? = some z → w.cell? (p.add j) = some z) := by
  rcases h.2 with ⟨rfl, h0⟩ | ⟨g, cap, cur, rfl, _⟩
  · exact ⟨none, 0, by rw [h0], .inl ⟨rfl, h0⟩⟩
  · exact ⟨_, cap, rfl, .inr ⟨_, rfl, fun j z hz => World.ownsRow.cells h (g := g) rfl j z hz⟩⟩
theorem Nums.keptK {K : Nat → Prop} {w w' : World} {B : Nat} {v : Value} {l : List Int} (h : Nums w B v l) (hk : Kept K w w') (hK : ∀ g, v.ownBlock = some g → ¬ K g) : Nums w' B v l := hk.own h hK
theorem Nums.drewN1 {w : World} {B : Nat} {v : Value} {l : List Int} (h : Nums w B v l) : Nums w.drew B v l := h
set_option maxHeartbeats 4000000 in
set_option maxRecDepth 1000000 in
theorem refCloneQ (B : Nat) (w : World) (rb : Nat) (J : Int) (vt vh : Value) (T H : List Int) (h : RefAt B w rb J vt vh T H) (hT : T.length ≤ 1073741823) (hH : H.length ≤ 1073741823) :
    Calls Try.prog 25 #[.pointer (some ⟨rb, 0, none⟩)] w fun e w' => Below w.heap.size w w' ∧ e = .returned (.pointer (some ⟨w.heap.size, 0, none⟩)) ∧ ∃ vt' vh', RefAt w.heap.size w' w.heap.size J vt' vh' T H := by
  have k2 : w.cell? ⟨rb, 2, none⟩ = some (.int .i64 J) := by simp [World.cell?, h.box]
  have hrb := (Array.getElem?_eq_some_iff.1 h.box).1
  obtain ⟨rc, hrc⟩ : ∃ rc, rc = w.heap.size := ⟨_, rfl⟩
  obtain ⟨w1, hw1⟩ : ∃ w1, w1 = w.alloc (.cells #[.slice none 0 0, .slice none 0 0, .int .i64 J] 34) := ⟨_, rfl⟩
  have b1 : Below w.heap.size w w1 := by rw [hw1]; exact (Below.refl _ w).alloc (Nat.le_refl _) _
  have z1 : w1.heap.size = w.heap.size + 1 := by rw [hw1]; simp
  have x1 : w1.heap[rc]? = some (.cells #[.slice none 0 0, .slice none 0 0, .int .i64 J] 34 (0, 0)) := by rw [hw1, hrc]; exact heap_alloc_new w _
  have xr1 := (b1.block rb hrb).trans h.box
  have HB2 := hideR (And.intro xr1 x1)
  have HS2 := hideR (h.below b1).rt
  have HH := hideR h
  have HB1 := hideR b1
  have hz2 : w.heap.size ≤ w1.heap.size := by omega
  have hrcz : rc = w.heap.size := hrc
  go_enter Try.func25, Try.ntmps25
  go_upto_region 2 with fail
  rw [← hw1, ← hrc]
  have HRC := hideR hrcz
  have hlo : w.heap.size ≤ rc ∧ rc < w1.heap.size ∧ rb < rc := by omega
  clear hw1 hrc hrcz k2 h b1 x1 xr1
  go_upto_region 2 with fail
  have sq2 : (fun X : World => X.heap[rb]? = some (.cells #[vt, vh, .int .i64 J] 34 (0, 0))) w1.drew := HB2.out.1
  refine wp_region_held_drew (S := fun X => X.heap[rb]? = some (.cells #[vt, vh, .int .i64 J] 34 (0, 0))) (by kernel_rfl) sq2 (fun _ => ?_)
  refine H_take (i := 0) (v := .pointer (some ⟨rc, 0, none⟩)) (some 10) rfl rfl (by kernel_rfl) (by kernel_rfl) (by kernel_rfl) (fun _ _ _ h => h) rfl (fun X hX => ?_) sq2 ?_
  · simp [go_sem]
  simp only [Act.put, List.setIfInBounds_toArray, List.set_cons_zero, List.set_cons_succ]
  refine H_take (i := 1) (v := .pointer (some ⟨rc, 0, none⟩)) (some 11) rfl rfl (by kernel_rfl) (by kernel_rfl) (by kernel_rfl) (fun _ _ _ h => h) rfl (fun X hX => ?_) sq2 ?_
  · simp [go_sem]
  simp only [Act.put, List.setIfInBounds_toArray, List.set_cons_zero, List.set_cons_succ]
  refine H_take (i := 2) (v := .pointer (some ⟨rc, 0, none⟩)) (some 12) rfl rfl (by kernel_rfl) (by kernel_rfl) (by kernel_rfl) (fun _ _ _ h => h) rfl (fun X hX => ?_) sq2 ?_
  · simp [go_sem]
  simp only [Act.put, List.setIfInBounds_toArray, List.set_cons_zero, List.set_cons_succ]
  refine H_take (i := 3) (v := .pointer (some ⟨rc, 0, none⟩)) (some 13) rfl rfl (by kernel_rfl) (by kernel_rfl) (by kernel_rfl) (fun _ _ _ h => h) rfl (fun X hX => ?_) sq2 ?_
  · simp [go_sem]
  simp only [Act.put, List.setIfInBounds_toArray, List.set_cons_zero, List.set_cons_succ]
  refine H_take (i := 5) (v := .pointer (some ⟨rb, 0, none⟩)) (some 15) rfl rfl (by kernel_rfl) (by kernel_rfl) (by kernel_rfl) (fun _ _ _ h => h) rfl (fun X hX => ?_) sq2 ?_
  · simp [go_sem]
  simp only [Act.put, List.setIfInBounds_toArray, List.set_cons_zero, List.set_cons_succ]
  refine H_take (i := 6) (v := .pointer (some ⟨rb, 0, none⟩)) (some 16) rfl rfl (by kernel_rfl) (by kernel_rfl) (by kernel_rfl) (fun _ _ _ h => h) rfl (fun X hX => ?_) sq2 ?_
  · simp [go_sem]
  simp only [Act.put, List.setIfInBounds_toArray, List.set_cons_zero, List.set_cons_succ]
  refine H_take (i := 7) (v := .pointer (some ⟨rb, 0, none⟩)) (some 17) rfl rfl (by kernel_rfl) (by kernel_rfl) (by kernel_rfl) (fun _ _ _ h => h) rfl (fun X hX => ?_) sq2 ?_
  · simp [go_sem]
  simp only [Act.put, List.setIfInBounds_toArray, List.set_cons_zero, List.set_cons_succ]
  refine H_take (i := 8) (v := vt) (some 18) rfl rfl (by kernel_rfl) (by kernel_rfl) (by kernel_rfl) (fun _ _ _ h => h) rfl (fun X hX => ?_) sq2 ?_
  · simp [go_sem, World.cell?, hX]
  simp only [Act.put, List.setIfInBounds_toArray, List.set_cons_zero, List.set_cons_succ]
  refine H_value (i := 4) (v := .slice none 0 0) (w' := w1.drew) (some 14) rfl rfl (by kernel_rfl) rfl (by have h0 : w1.drew.heap[rc]? = some (.cells #[.slice none 0 0, .slice none 0 0, .int .i64 J] 34 (0, 0)) := HB2.out.2; simp [go_sem, World.cell?, h0]) sq2 ?_
  simp only [Act.put, List.setIfInBounds_toArray, List.set_cons_zero, List.set_cons_succ]
  refine H_ints (i := 9) (some 19) rfl rfl (by kernel_rfl) rfl (.tmp 14) (.tmp 18) rfl w.heap.size (.slice none 0 0) [] rfl (World.ownsRow_nil _ _ _ _) vt T rfl (src_ints HS2.out.drewN1) (by simp; omega) (by have := hz2; show _ ≤ w1.heap.size; omega) ?_
  intro v2 w2a o2 g2 l2
  have K2 : HidR (Below w1.heap.size w1 w2a) := ⟨⟨g2.os, g2.tape, g2.output, g2.size, fun j hj => g2.block j hj (fun e => by have e2 : some j = none := e; cases e2)⟩⟩
  have O2 : HidR (Nums w2a w.heap.size v2 T ∧ (v2.ownBlock = none ∨ v2.ownBlock = some w1.heap.size)) := ⟨⟨o2, l2⟩⟩
  have hza2 := K2.out.size
  have xa2 := (K2.out.block rc (by omega)).trans HB2.out.2
  have xb2 := (K2.out.block rb (by omega)).trans HB2.out.1
  obtain ⟨w2, hw2⟩ : ∃ X, X = w2a.setCell ⟨rc, 0, none⟩ v2 := ⟨_, rfl⟩
  have y2 : w2.heap[rc]? = some (.cells #[v2, .slice none 0 0, .int .i64 J] 34 (0, 0)) := by rw [hw2, (set_cells xa2 0 _).1]; simp
  have ks2 : Kept (fun g => g = rc) w2a w2 := by rw [hw2]; exact Kept.setCell _ _ _ _ _ rfl
  have yb2 := (ks2.block rb (Array.getElem?_eq_some_iff.1 xb2).1 (fun e => by omega)).trans xb2
  have hzs2 := ks2.size
  have N2 := hideR (And.intro y2 (And.intro ks2 yb2))
  have s92 : (fun X : World => X.heap[rb]? = some (.cells #[vt, vh, .int .i64 J] 34 (0, 0))) w2a := xb2
  clear o2 g2 l2 y2 ks2 yb2
  refine ⟨s92, ?_⟩
  simp only [Act.put, List.setIfInBounds_toArray, List.set_cons_zero, List.set_cons_succ]
  refine H_take (i := 10) (v := .pointer (some ⟨rc, 0, none⟩)) (some 20) rfl rfl (by kernel_rfl) (by kernel_rfl) (by kernel_rfl) (fun _ _ _ h => h) rfl (fun X hX => ?_) s92 ?_
  · simp [go_sem]
  simp only [Act.put, List.setIfInBounds_toArray, List.set_cons_zero, List.set_cons_succ]
  refine H_take (i := 11) (v := .pointer (some ⟨rc, 0, none⟩)) (some 21) rfl rfl (by kernel_rfl) (by kernel_rfl) (by kernel_rfl) (fun _ _ _ h => h) rfl (fun X hX => ?_) s92 ?_
  · simp [go_sem]
  simp only [Act.put, List.setIfInBounds_toArray, List.set_cons_zero, List.set_cons_succ]
  refine H_skip (i := 12) (w' := w2) rfl rfl (by kernel_rfl) rfl (by rw [hw2]; obtain ⟨fa, fc, fe⟩ := O2.out.1.form; rw [fe]; simp [go_sem, World.cell?, World.frozen?, xa2]) N2.out.2.2 ?_
  refine wpAnyH_done (by kernel_rfl) ?_ _
  clear hw2 xa2 xb2 s92 sq2
  have HB3 := hideR (And.intro N2.out.2.2 N2.out.1)
  have b12 : Below w.heap.size w w2 := HB1.out.trans ((K2.out.mono hz2).trans (N2.out.2.1.below (by omega) (fun j hj e => by omega)))
  have HS3 := hideR (HH.out.below b12).rh
  have HB12 := hideR b12
  have hz3 := b12.size
  clear b12
  go_upto_region 3 with fail
  have sq3 : (fun X : World => X.heap[rb]? = some (.cells #[vt, vh, .int .i64 J] 34 (0, 0))) w2.drew := HB3.out.1
  refine wp_region_held_drew (S := fun X => X.heap[rb]? = some (.cells #[vt, vh, .int .i64 J] 34 (0, 0))) (by kernel_rfl) sq3 (fun _ => ?_)
  refine H_take (i := 0) (v := .pointer (some ⟨rc, 0, none⟩)) (some 22) rfl rfl (by kernel_rfl) (by kernel_rfl) (by kernel_rfl) (fun _ _ _ h => h) rfl (fun X hX => ?_) sq3 ?_
  · simp [go_sem]
  simp only [Act.put, List.setIfInBounds_toArray, List.set_cons_zero, List.set_cons_succ]
  refine H_take (i := 1) (v := .pointer (some ⟨rc, 0, none⟩)) (some 23) rfl rfl (by kernel_rfl) (by kernel_rfl) (by kernel_rfl) (fun _ _ _ h => h) rfl (fun X hX => ?_) sq3 ?_
  · simp [go_sem]
  simp only [Act.put, List.setIfInBounds_toArray, List.set_cons_zero, List.set_cons_succ]
  refine H_take (i := 2) (v := .pointer (some ⟨rc, 0, none⟩)) (some 24) rfl rfl (by kernel_rfl) (by kernel_rfl) (by kernel_rfl) (fun _ _ _ h => h) rfl (fun X hX => ?_) sq3 ?_
  · simp [go_sem]
  simp only [Act.put, List.setIfInBounds_toArray, List.set_cons_zero, List.set_cons_succ]
  refine H_take (i := 3) (v := .pointer (some ⟨rc, 1, none⟩)) (some 25) rfl rfl (by kernel_rfl) (by kernel_rfl) (by kernel_rfl) (fun _ _ _ h => h) rfl (fun X hX => ?_) sq3 ?_
  · simp [go_sem]
  simp only [Act.put, List.setIfInBounds_toArray, List.set_cons_zero, List.set_cons_succ]
  refine H_take (i := 5) (v := .pointer (some ⟨rb, 0, none⟩)) (some 27) rfl rfl (by kernel_rfl) (by kernel_rfl) (by kernel_rfl) (fun _ _ _ h => h) rfl (fun X hX => ?_) sq3 ?_
  · simp [go_sem]
  simp only [Act.put, List.setIfInBounds_toArray, List.set_cons_zero, List.set_cons_succ]
  refine H_take (i := 6) (v := .pointer (some ⟨rb, 0, none⟩)) (some 28) rfl rfl (by kernel_rfl) (by kernel_rfl) (by kernel_rfl) (fun _ _ _ h => h) rfl (fun X hX => ?_) sq3 ?_
  · simp [go_sem]
  simp only [Act.put, List.setIfInBounds_toArray, List.set_cons_zero, List.set_cons_succ]
  refine H_take (i := 7) (v := .pointer (some ⟨rb, 1, none⟩)) (some 29) rfl rfl (by kernel_rfl) (by kernel_rfl) (by kernel_rfl) (fun _ _ _ h => h) rfl (fun X hX => ?_) sq3 ?_
  · simp [go_sem]
  simp only [Act.put, List.setIfInBounds_toArray, List.set_cons_zero, List.set_cons_succ]
  refine H_take (i := 8) (v := vh) (some 30) rfl rfl (by kernel_rfl) (by kernel_rfl) (by kernel_rfl) (fun _ _ _ h => h) rfl (fun X hX => ?_) sq3 ?_
  · simp [go_sem, World.cell?, hX]
  simp only [Act.put, List.setIfInBounds_toArray, List.set_cons_zero, List.set_cons_succ]
  refine H_value (i := 4) (v := .slice none 0 0) (w' := w2.drew) (some 26) rfl rfl (by kernel_rfl) rfl (by have h0 : w2.drew.heap[rc]? = some (.cells #[v2, .slice none 0 0, .int .i64 J] 34 (0, 0)) := HB3.out.2; simp [go_sem, World.cell?, h0]) sq3 ?_
  simp only [Act.put, List.setIfInBounds_toArray, List.set_cons_zero, List.set_cons_succ]
  refine H_ints (i := 9) (some 31) rfl rfl (by kernel_rfl) rfl (.tmp 26) (.tmp 30) rfl w.heap.size (.slice none 0 0) [] rfl (World.ownsRow_nil _ _ _ _) vh H rfl (src_ints HS3.out.drewN1) (by simp; omega) (by have := hz3; show _ ≤ w2.heap.size; omega) ?_
  intro v3 w3a o3 g3 l3
  have K3 : HidR (Below w2.heap.size w2 w3a) := ⟨⟨g3.os, g3.tape, g3.output, g3.size, fun j hj => g3.block j hj (fun e => by have e2 : some j = none := e; cases e2)⟩⟩
  have O3 : HidR (Nums w3a w.heap.size v3 H ∧ (v3.ownBlock = none ∨ v3.ownBlock = some w2.heap.size)) := ⟨⟨o3, l3⟩⟩
  have hza3 := K3.out.size
  have xa3 := (K3.out.block rc (by omega)).trans HB3.out.2
  have xb3 := (K3.out.block rb (by omega)).trans HB3.out.1
  obtain ⟨w3, hw3⟩ : ∃ X, X = w3a.setCell ⟨rc, 1, none⟩ v3 := ⟨_, rfl⟩
  have y3 : w3.heap[rc]? = some (.cells #[v2, v3, .int .i64 J] 34 (0, 0)) := by rw [hw3, (set_cells xa3 1 _).1]; simp
  have ks3 : Kept (fun g => g = rc) w3a w3 := by rw [hw3]; exact Kept.setCell _ _ _ _ _ rfl
  have yb3 := (ks3.block rb (Array.getElem?_eq_some_iff.1 xb3).1 (fun e => by omega)).trans xb3
  have hzs3 := ks3.size
  have N3 := hideR (And.intro y3 (And.intro ks3 yb3))
  have s93 : (fun X : World => X.heap[rb]? = some (.cells #[vt, vh, .int .i64 J] 34 (0, 0))) w3a := xb3
  clear o3 g3 l3 y3 ks3 yb3
  refine ⟨s93, ?_⟩
  simp only [Act.put, List.setIfInBounds_toArray, List.set_cons_zero, List.set_cons_succ]
  refine H_take (i := 10) (v := .pointer (some ⟨rc, 0, none⟩)) (some 32) rfl rfl (by kernel_rfl) (by kernel_rfl) (by kernel_rfl) (fun _ _ _ h => h) rfl (fun X hX => ?_) s93 ?_
  · simp [go_sem]
  simp only [Act.put, List.setIfInBounds_toArray, List.set_cons_zero, List.set_cons_succ]
  refine H_take (i := 11) (v := .pointer (some ⟨rc, 1, none⟩)) (some 33) rfl rfl (by kernel_rfl) (by kernel_rfl) (by kernel_rfl) (fun _ _ _ h => h) rfl (fun X hX => ?_) s93 ?_
  · simp [go_sem]
  simp only [Act.put, List.setIfInBounds_toArray, List.set_cons_zero, List.set_cons_succ]
  refine H_skip (i := 12) (w' := w3) rfl rfl (by kernel_rfl) rfl (by rw [hw3]; obtain ⟨fa, fc, fe⟩ := O3.out.1.form; rw [fe]; simp [go_sem, World.cell?, World.frozen?, xa3]) N3.out.2.2 ?_
  refine wpAnyH_done (by kernel_rfl) ?_ _
  clear hw3 xa3 xb3 s93 sq3
  go_wp2_with fail
  go_ret
  have b3 : Below w2.heap.size w2 w3a := K3.out
  have o2 : Nums w2 w.heap.size v2 T := O2.out.1.keptK N2.out.2.1 (fun g e e2 => by
    obtain ⟨cur, hc, _⟩ := O2.out.1.block e
    have hx := K2.out.block rc (by omega)
    rw [e2, hx, HB2.out.2] at hc
    simp at hc)
  have o3 : Nums w3 w.heap.size v2 T := (o2.keptK (K := fun _ => False) (Kept.ofBelow b3) (fun _ _ h => h)).keptK N3.out.2.1 (fun g e e2 => by
    obtain ⟨cur, hc, _⟩ := o2.block e
    rw [e2, HB3.out.2] at hc
    simp at hc)
  have p3 : Nums w3 w.heap.size v3 H := O3.out.1.keptK N3.out.2.1 (fun g e e2 => by
    obtain ⟨cur, hc, _⟩ := O3.out.1.block e
    have hx := K3.out.block rc (by omega)
    rw [e2, hx, HB3.out.2] at hc
    simp at hc)
  have hr := HRC.out
  refine ⟨HB12.out.trans ((K3.out.mono hz3).trans (N3.out.2.1.below (by omega) (fun j hj e => by omega))), by rw [← hr]; rfl, v2, v3, ⟨by rw [← hr]; exact N3.out.1, o3, p3, ?_, Nat.le_refl _⟩⟩
  rcases O2.out.2 with e | e
  · exact .inl e
  · right
    intro e2
    rcases O3.out.2 with e3 | e3
    · rw [e3, e] at e2
      cases e2
    · rw [e3, e] at e2
      simp only [Option.some.injEq] at e2
      have := (O2.out.1.block e).choose_spec.1
      have := (Array.getElem?_eq_some_iff.1 this).1
      omega
end Go.Proofs.Ytccpaapbgdpghaa
