/-
  The document's queue: its walks.
-/
import Derived.Test.YtccpaapbgdpghaaKit
import Derived.Deep.AppendLies
import Derived.Deep.RegionLaw
import Derived.Maps.AppendAt
namespace Go.Proofs.Ytccpaapbgdpghaa
open Go.RowKit

theorem info_int : (Try.prog.info? 3).map (fun i => (i.zero, i.size, i.bytes)) = some (some (.int .i64 0), 1, 8) := by kernel_rfl
def ints (l : List Int) : List Value := l.map (Value.int .i64)
theorem ints_length (l : List Int) : (ints l).length = l.length := by simp [ints]
theorem ints_append (a b : List Int) : ints (a ++ b) = ints a ++ ints b := by simp [ints]
abbrev Nums (W : World) (B : Nat) (v : Value) (l : List Int) : Prop := W.ownsRow B 3 1 v l.length (ints l)
theorem Nums.form {W : World} {B : Nat} {v : Value} {l : List Int} (h : Nums W B v l) : ∃ a c, v = .slice a l.length c := by
  rcases h.2 with ⟨rfl, h0⟩ | ⟨g, cap, cur, rfl, _⟩
  · exact ⟨none, 0, by rw [h0]⟩
  · exact ⟨_, _, rfl⟩
theorem Nums.cell {W : World} {B : Nat} {a : Option Addr} {n c : Nat} {l : List Int} (h : Nums W B (.slice a n c) l) {i : Nat} {x : Int} (hx : l[i]? = some x) : ∃ g, a = some ⟨g, 0, none⟩ ∧ W.cell? ⟨g, i, none⟩ = some (.int .i64 x) := by
  have hil := (List.getElem?_eq_some_iff.1 hx).1
  rcases h.2 with ⟨_, h0⟩ | ⟨g, cap, cur, hv, _, hg, h1, h2, h3, h4⟩
  · omega
  · simp only [Value.slice.injEq] at hv
    refine ⟨g, hv.1, ?_⟩
    have h5 : (ints l)[i]? = some (.int .i64 x) := by simp [ints, hx]
    rw [← h4, List.getElem?_take_of_lt (by omega)] at h5
    simpa [World.cell?, hg] using h5
theorem Nums.block {W : World} {B : Nat} {v : Value} {l : List Int} (h : Nums W B v l) {g : Nat} (hg : v.ownBlock = some g) : ∃ cur, W.heap[g]? = some (.cells cur 3 (0, 0)) ∧ B ≤ g := by
  rcases h.2 with ⟨rfl, _⟩ | ⟨g', cap, cur, rfl, hB, hc, _⟩
  · cases hg
  · cases hg; exact ⟨cur, hc, hB⟩

/-- The document's queue at rb. -/
structure RefAt (B : Nat) (W : World) (rb : Nat) (J : Int) (vt vh : Value) (T H : List Int) : Prop where
  box : W.heap[rb]? = some (.cells #[vt, vh, .int .i64 J] 34 (0, 0))
  rt : Nums W B vt T
  rh : Nums W B vh H
  ap : vt.ownBlock = none ∨ vt.ownBlock ≠ vh.ownBlock
  le : B ≤ rb
def RMine (rb : Nat) (vt vh : Value) (k : Nat) : Prop := k = rb ∨ vt.ownBlock = some k ∨ vh.ownBlock = some k

theorem RefAt.kept {B : Nat} {W W' : World} {rb : Nat} {J : Int} {vt vh : Value} {T H : List Int} (h : RefAt B W rb J vt vh T H) {P : Nat → Prop} (hk : Kept P W W') (hP : ∀ k, RMine rb vt vh k → ¬ P k) : RefAt B W' rb J vt vh T H :=
  ⟨(hk.block rb (Array.getElem?_eq_some_iff.1 h.box).1 (hP _ (.inl rfl))).trans h.box, hk.own h.rt (fun g e => hP g (.inr (.inl e))), hk.own h.rh (fun g e => hP g (.inr (.inr e))), h.ap, h.le⟩
theorem RefAt.below {B : Nat} {W W' : World} {rb : Nat} {J : Int} {vt vh : Value} {T H : List Int} (h : RefAt B W rb J vt vh T H) (hb : Below W.heap.size W W') : RefAt B W' rb J vt vh T H := h.kept (P := fun _ => False) (Kept.ofBelow hb) (fun _ _ h => h)
theorem RefAt.base {B : Nat} {W : World} {rb : Nat} {J : Int} {vt vh : Value} {T H : List Int} (h : RefAt B W rb J vt vh T H) {k : Nat} (hk : RMine rb vt vh k) : B ≤ k := by
  rcases hk with rfl | hk | hk
  · exact h.le
  · exact (h.rt.block hk).choose_spec.2
  · exact (h.rh.block hk).choose_spec.2
theorem RefAt.lt {B : Nat} {W : World} {rb : Nat} {J : Int} {vt vh : Value} {T H : List Int} (h : RefAt B W rb J vt vh T H) {k : Nat} (hk : RMine rb vt vh k) : k < W.heap.size := by
  rcases hk with rfl | hk | hk
  · exact (Array.getElem?_eq_some_iff.1 h.box).1
  · exact (Array.getElem?_eq_some_iff.1 (h.rt.block hk).choose_spec.1).1
  · exact (Array.getElem?_eq_some_iff.1 (h.rh.block hk).choose_spec.1).1
theorem RefAt.not {B : Nat} {W : World} {rb : Nat} {J : Int} {vt vh : Value} {T H : List Int} (h : RefAt B W rb J vt vh T H) {k : Nat} {o : Obj} (ho : W.heap[k]? = some o) (h1 : ∀ c, o ≠ .cells c 3 (0, 0)) (h2 : ∀ c, o ≠ .cells c 34 (0, 0)) : ¬ RMine rb vt vh k := by
  rintro (rfl | hk | hk)
  · rw [h.box] at ho
    exact h2 _ (Option.some.inj ho).symm
  · have := (h.rt.block hk).choose_spec.1
    rw [this] at ho
    exact h1 _ (Option.some.inj ho).symm
  · have := (h.rh.block hk).choose_spec.1
    rw [this] at ho
    exact h1 _ (Option.some.inj ho).symm
theorem own_set {W : World} {B b i : Nat} {v u : Value} {l : List Int} (h : Nums W B v l) (hb : ∃ c, W.heap[b]? = some (.cells c 34 (0, 0))) : Nums (W.setCell ⟨b, i, none⟩ u) B v l := by
  refine (Kept.setCell (fun k => k = b) W b i u rfl).own h (fun g e hg => ?_)
  obtain ⟨cur, hc, _⟩ := h.block e
  obtain ⟨c, hc'⟩ := hb
  rw [hg, hc'] at hc
  simp at hc
theorem RefAt.c2 {B : Nat} {W : World} {rb : Nat} {J : Int} {vt vh : Value} {T H : List Int} (h : RefAt B W rb J vt vh T H) : W.cell? ⟨rb, 2, none⟩ = some (.int .i64 J) := by simp [World.cell?, h.box]
theorem RefAt.setJ {B : Nat} {W : World} {rb : Nat} {J : Int} {vt vh : Value} {T H : List Int} (h : RefAt B W rb J vt vh T H) (J' : Int) : RefAt B (W.setCell ⟨rb, 2, none⟩ (.int .i64 J')) rb J' vt vh T H :=
  ⟨by rw [(set_cells h.box 2 _).1]; simp, own_set h.rt ⟨_, h.box⟩, own_set h.rh ⟨_, h.box⟩, h.ap, h.le⟩
/-- A new row of tickets. -/
theorem RefAt.putT {B : Nat} {W W2 : World} {rb : Nat} {J : Int} {vt vh vt' : Value} {T T' H : List Int} (h : RefAt B W rb J vt vh T H) (hk : Kept (fun k => vt.ownBlock = some k) W W2) (ho : Nums W2 B vt' T') (ap : vt'.ownBlock = none ∨ vt'.ownBlock ≠ vh.ownBlock) :
    RefAt B (W2.setCell ⟨rb, 0, none⟩ vt') rb J vt' vh T' H ∧ Kept (RMine rb vt vh) W (W2.setCell ⟨rb, 0, none⟩ vt') ∧ W2.cell? ⟨rb, 0, none⟩ = some vt ∧ W2.frozen? ⟨rb, 0, none⟩ = false := by
  have hne : vt.ownBlock ≠ some rb := fun e => by
    obtain ⟨cur, hc, _⟩ := h.rt.block e
    rw [h.box] at hc; simp at hc
  have hb2 := (hk.block rb (Array.getElem?_eq_some_iff.1 h.box).1 hne).trans h.box
  have hh2 : Nums W2 B vh H := hk.own h.rh (fun g e hg => by
    rcases h.ap with h0 | h0
    · rw [h0] at hg; cases hg
    · exact h0 (hg.trans e.symm))
  refine ⟨⟨by rw [(set_cells hb2 0 _).1]; simp, own_set ho ⟨_, hb2⟩, own_set hh2 ⟨_, hb2⟩, ap, h.le⟩, (hk.mono (fun k _ e => .inr (.inl e))).trans (Kept.setCell _ _ _ _ _ (.inl rfl)), by simp [World.cell?, hb2], by simp [World.frozen?, hb2]⟩
/-- A new row of things. -/
theorem RefAt.putH {B : Nat} {W W2 : World} {rb : Nat} {J : Int} {vt vh vh' : Value} {T H H' : List Int} (h : RefAt B W rb J vt vh T H) (hk : Kept (fun k => vh.ownBlock = some k) W W2) (ho : Nums W2 B vh' H') (ap : vt.ownBlock = none ∨ vt.ownBlock ≠ vh'.ownBlock) :
    RefAt B (W2.setCell ⟨rb, 1, none⟩ vh') rb J vt vh' T H' ∧ Kept (RMine rb vt vh) W (W2.setCell ⟨rb, 1, none⟩ vh') ∧ W2.cell? ⟨rb, 1, none⟩ = some vh ∧ W2.frozen? ⟨rb, 1, none⟩ = false := by
  have hne : vh.ownBlock ≠ some rb := fun e => by
    obtain ⟨cur, hc, _⟩ := h.rh.block e
    rw [h.box] at hc; simp at hc
  have hb2 := (hk.block rb (Array.getElem?_eq_some_iff.1 h.box).1 hne).trans h.box
  have hh2 : Nums W2 B vt T := hk.own h.rt (fun g e hg => by
    rcases h.ap with h0 | h0
    · rw [h0] at e; cases e
    · exact h0 (e.trans hg.symm))
  refine ⟨⟨by rw [(set_cells hb2 1 _).1]; simp, own_set hh2 ⟨_, hb2⟩, own_set ho ⟨_, hb2⟩, ap, h.le⟩, (hk.mono (fun k _ e => .inr (.inr e))).trans (Kept.setCell _ _ _ _ _ (.inl rfl)), by simp [World.cell?, hb2], by simp [World.frozen?, hb2]⟩

theorem step_int {ops : Array Oper} {o : Oper} {a : Act} {K : Act → World → Prop} {Q : Exit → Act → World → Prop} {E : Prop} (hgd : o.guard = none) (s x : Operand)
    (ho : o.op = .call { callee := .builtin .append, args := #[s, x], argTypes := #[32, 32] })
    (B : Nat) (w : World) (v : Value) (l : List Int) (y : Int) (hown : Nums w B v l) (hB : B ≤ w.heap.size) (hR : l.length ≤ 1073741823) (hs : a.eval s = v) (hx : a.eval x = .slice (some ⟨w.heap.size, 0, none⟩) 1 1)
    (h : ∀ g cap w', Nums w' B (.slice (some ⟨g, 0, none⟩) (l.length + 1) cap) (l ++ [y]) → w.grownBy w' v.ownBlock → (v.ownBlock = some g ∨ w.heap.size ≤ g) → K (a.put o.dst (.slice (some ⟨g, 0, none⟩) (l.length + 1) cap)) w') :
    if Region.wanted o (yielded ops a.tmps) = true then Oper.wp Try.prog o a ((w.alloc (.cells #[.int .i64 y] 3)).drew) K Q else E := by
  obtain ⟨i0, hi, hz0, hz1, hz2⟩ := info_parts info_int
  refine step_append_lies ((w.alloc (.cells #[.int .i64 y] 3)).drew) hgd s x 32 ho B 3 i0 (.int .i64 0) 1 8 Try.underlying32 hi hz0 hz1 hz2 rfl (by decide) v l.length (ints l) hs (World.ownsRow.alloc hown _) ⟨w.heap.size, 0, none⟩ 1 1 [.int .i64 y] hx rfl ?_ ?_ (by decide) (by unfold maxLen; omega) (by omega) (Nat.le_trans hB (by simp [World.drew])) _ rfl ?_
  · exact World.news_of_block (w := (w.alloc (.cells #[.int .i64 y] 3)).drew) (cs := #[.int .i64 y]) (heap_alloc_new w _)
  · intro u hu
    simp at hu
    subst hu; rfl
  · intro g cap w' h1 h2 h3 _
    refine h g cap w' ?_ ⟨h2.os, h2.tape, h2.output, Nat.le_trans (by simp [World.drew]) h2.size, fun k hk hne => (h2.block k (Nat.lt_of_lt_of_le hk (by simp [World.drew])) hne).trans (heap_alloc_old w _ hk)⟩ (h3.imp id (fun e => by rw [e]; simp [World.drew]))
    show World.ownsRow _ _ _ _ _ _ _
    rw [ints_append, List.length_append]
    exact h1

set_option maxHeartbeats 4000000 in
set_option maxRecDepth 1000000 in
theorem refJoinF (B : Nat) (w : World) (rb : Nat) (J x : Int) (vt vh : Value) (T H : List Int) (h : RefAt B w rb J vt vh T H) (hT : T.length ≤ 1073741823) (hH : H.length ≤ 1073741823) (hJ : 0 ≤ J ∧ J < 4611686018427387904) (hB : B ≤ w.heap.size) :
    Calls Try.prog 18 #[.pointer (some ⟨rb, 0, none⟩), .int .i64 x] w fun e w' => e = .returned (.int .i64 (J + 1)) ∧
      ∃ vt' vh', RefAt B w' rb (J + 1) vt' vh' (T ++ [J + 1]) (H ++ [x]) ∧ Kept (RMine rb vt vh) w w' ∧ (∀ k, RMine rb vt' vh' k → RMine rb vt vh k ∨ w.heap.size ≤ k) := by
  have k2 : w.cell? ⟨rb, 2, none⟩ = some (.int .i64 J) := by simp [World.cell?, h.box]
  have f2 : w.frozen? ⟨rb, 2, none⟩ = false := by simp [World.frozen?, h.box]
  have h1 := h.setJ (J + 1)
  have kk1 : Kept (RMine rb vt vh) w (w.setCell ⟨rb, 2, none⟩ (.int .i64 (J + 1))) := Kept.setCell _ _ _ _ _ (.inl rfl)
  have hs1 : (w.setCell ⟨rb, 2, none⟩ (.int .i64 (J + 1))).heap.size = w.heap.size := by simp
  obtain ⟨w1, hw1⟩ : ∃ w1, w1 = w.setCell ⟨rb, 2, none⟩ (.int .i64 (J + 1)) := ⟨_, rfl⟩
  rw [← hw1] at h1 kk1 hs1
  have m0 : w1.cell? ⟨rb, 0, none⟩ = some vt := by simp [World.cell?, h1.box]
  have m2 : w1.cell? ⟨rb, 2, none⟩ = some (.int .i64 (J + 1)) := by simp [World.cell?, h1.box]
  obtain ⟨at_, ct, rfl⟩ := h.rt.form
  obtain ⟨ah, ch, rfl⟩ := h.rh.form
  have hrl : rb < w1.heap.size := cell_lt m0
  have m0a : ((w1.alloc (.cells #[.int .i64 (J + 1)] 3)).drew).cell? ⟨rb, 0, none⟩ = some (.slice at_ T.length ct) := (World.cell?_alloc_past _ _ _ hrl).trans m0
  have H1 : Hid (RefAt B w1 rb (J + 1) (.slice at_ T.length ct) (.slice ah H.length ch) T H) := h1
  have K1 : Hid (Kept (RMine rb (.slice at_ T.length ct) (.slice ah H.length ch)) w w1) := kk1
  have HB1 : Hid (B ≤ w1.heap.size) := (show B ≤ w1.heap.size by omega)
  clear h h1 kk1 hs1
  go_enter Try.func18, Try.ntmps18
  go_wp2_with fail
  rw [← hw1]
  clear hw1 k2 f2
  go_region_law (refine step_int rfl (.tmp 16) (.tmp 21) rfl B w1 (.slice at_ T.length ct) T (J + 1) H1.out.rt HB1.out hT (by simp [Act.eval]) (by simp [Act.eval]) ?_; intro g cap w2 hown hgrow hat; obtain ⟨r3, kp3, c1, c2⟩ := H1.out.putT (Kept.ofGrown hgrow (fun _ e => e)) hown (.inr (fun e => by rcases hat with h | h; exact H1.out.ap.elim (fun h0 => by rw [h0] at h; cases h) (fun h0 => h0 (h.trans e)); have e2 : (Value.slice ah H.length ch).ownBlock = some g := e.symm; have := H1.out.lt (k := g) (.inr (.inr e2)); omega)))
  all_goals (
    obtain ⟨w3, hw3⟩ : ∃ w3, w3 = w2.setCell ⟨rb, 0, none⟩ (.slice (some ⟨g, 0, none⟩) (T.length + 1) cap) := ⟨_, rfl⟩
    rw [← hw3] at r3 kp3 ⊢
    have d1 : w3.cell? ⟨rb, 1, none⟩ = some (.slice ah H.length ch) := by simp [World.cell?, r3.box]
    have HB3 : Hid (B ≤ w3.heap.size) := Nat.le_trans HB1.out kp3.size
    have hrl3 : rb < w3.heap.size := cell_lt d1
    have R3 : Hid (RefAt B w3 rb (J + 1) (.slice (some ⟨g, 0, none⟩) (T.length + 1) cap) (.slice ah H.length ch) (T ++ [J + 1]) H) := r3
    have K3 : Hid (Kept (RMine rb (.slice at_ T.length ct) (.slice ah H.length ch)) w w3) := K1.out.trans kp3
    have AT : Hid (Value.ownBlock (.slice at_ T.length ct) = some g ∨ w1.heap.size ≤ g) := hat
    obtain ⟨i0, hi, hz0, hz1, hz2⟩ := info_parts info_int
    clear hw3 r3 kp3 c1 c2 m0 m0a m2 hrl hgrow hown hat
    go_wp2_with (at_builtin; go_must (refine wpList_append_own_at _ rfl _ _ 32 rfl B 3 i0 (.int .i64 0) 1 8 Try.underlying32 hi hz0 hz1 hz2 rfl (by decide) _ H.length (ints H) rfl (World.ownsRow.alloc R3.out.rh _) ⟨w3.heap.size, 0, none⟩ 1 1 [.int .i64 x] rfl rfl (by intro j u hj; cases j with | zero => simp at hj; subst hj; simp [Addr.add] | succ j => simp at hj) (by intro u hu; simp at hu; subst hu; rfl) (by unfold maxLen; omega) (by omega) (by have := HB3.out; simp; omega) ?_; intro v' w4 hown4 hgr4 _ hat4; have hn4 : Nums w4 B v' (H ++ [x]) := (show World.ownsRow _ _ _ _ _ _ _ by rw [ints_append, List.length_append]; exact hown4); obtain ⟨ah4, ch4, hv4⟩ : ∃ a c, v' = .slice a (H.length + 1) c := (by have := hn4.form; simpa using this); subst hv4; have hap4 : (Value.slice (some ⟨g, 0, none⟩) (T.length + 1) cap).ownBlock = none ∨ (Value.slice (some ⟨g, 0, none⟩) (T.length + 1) cap).ownBlock ≠ (Value.slice ah4 (H.length + 1) ch4).ownBlock := (.inr (fun e => by rcases hat4 with h | h; exact R3.out.ap.elim (fun h0 => by cases h0) (fun h0 => h0 (e.trans h)); have e2 : some g = some (w3.alloc (.cells #[.int .i64 x] 3)).heap.size := e.trans h; have e3 := Option.some.inj e2; have := R3.out.lt (k := g) (.inr (.inl rfl)); simp at e3; omega)); have hk4 : Kept (fun k => (Value.slice ah H.length ch).ownBlock = some k) w3 w4 := (Kept.ofBelow ((Below.refl _ w3).alloc (Nat.le_refl _) _)).trans (Kept.ofGrown hgr4 (fun _ e => e)); obtain ⟨r5, kp5, c1, c2⟩ := R3.out.putH hk4 hn4 hap4; have R5 : Hid (RefAt B (w4.setCell ⟨rb, 1, none⟩ (.slice ah4 (H.length + 1) ch4)) rb (J + 1) (.slice (some ⟨g, 0, none⟩) (T.length + 1) cap) (.slice ah4 (H.length + 1) ch4) (T ++ [J + 1]) (H ++ [x])) := r5; have KP5 : Hid (Kept (RMine rb (.slice (some ⟨g, 0, none⟩) (T.length + 1) cap) (.slice ah H.length ch)) w3 (w4.setCell ⟨rb, 1, none⟩ (.slice ah4 (H.length + 1) ch4))) := kp5; have d2 : (w4.setCell ⟨rb, 1, none⟩ (.slice ah4 (H.length + 1) ch4)).cell? ⟨rb, 2, none⟩ = some (.int .i64 (J + 1)) := r5.c2; have AT4 : Hid ((Value.slice ah4 (H.length + 1) ch4).ownBlock = (Value.slice ah H.length ch).ownBlock ∨ (Value.slice ah4 (H.length + 1) ch4).ownBlock = some (w3.alloc (.cells #[.int .i64 x] 3)).heap.size) := hat4; clear r5 kp5 hk4 hn4 hap4 hown4 hgr4 hat4))
    go_ret
    refine ⟨rfl, _, _, R5.out, ?_, fun k hk => ?_⟩
    rotate_left
    · rcases hk with e | e | e
      · exact .inl (.inl e)
      · have e2 : some g = some k := e
        obtain rfl := Option.some.inj e2
        rcases AT.out with h | h
        · exact .inl (.inr (.inl h))
        · have := K1.out.size
          exact .inr (by omega)
      · rcases AT4.out with h | h
        · exact .inl (.inr (.inr (h.symm.trans e)))
        · have e3 := Option.some.inj (e.symm.trans h)
          have := K3.out.size
          simp at e3
          exact .inr (by omega)
    refine K3.out.step KP5.out (fun k hk e => ?_)
    rcases e with e | e | e
    · exact .inl e
    · have e2 : some g = some k := e
      obtain rfl := Option.some.inj e2
      rcases AT.out with h | h
      · exact .inr (.inl h)
      · have := K1.out.size; omega
    · exact .inr (.inr e))
theorem refJoin (B : Nat) (w : World) (rb : Nat) (J x : Int) (vt vh : Value) (T H : List Int) (h : RefAt B w rb J vt vh T H) (hT : T.length ≤ 1073741823) (hH : H.length ≤ 1073741823) (hJ : 0 ≤ J ∧ J < 4611686018427387904) (hB : B ≤ w.heap.size) :
    Calls Try.prog 18 #[.pointer (some ⟨rb, 0, none⟩), .int .i64 x] w fun e w' => e = .returned (.int .i64 (J + 1)) ∧
      ∃ vt' vh', RefAt B w' rb (J + 1) vt' vh' (T ++ [J + 1]) (H ++ [x]) ∧ Kept (RMine rb vt vh) w w' := by
  refine (refJoinF B w rb J x vt vh T H h hT hH hJ hB).mono ?_
  rintro e w' ⟨h1, vt', vh', h2, h3, _⟩
  exact ⟨h1, vt', vh', h2, h3⟩
end Go.Proofs.Ytccpaapbgdpghaa
