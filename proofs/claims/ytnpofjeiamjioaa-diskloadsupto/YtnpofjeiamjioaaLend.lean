/-
  The walk of lend.
-/
import Derived.Test.YtnpofjeiamjioaaLnd
namespace Go.Proofs.Ytnpofjeiamjioaa
open Go.RowKit

theorem info_lent : (Try.prog.info? 79).map (·.size) = some 2 := by kernel_rfl
theorem under_lent : Try.prog.underlying 79 = some (.struct (Try.prog.fieldsOf 79)) := by kernel_rfl
/-- What was lent. -/
structure LentAt (w : World) (B : Nat) (av dv : Value) (Q : List Ln) : Prop where
  ra : w.ownsRow B 62 3 av (Q.length + 1) (lflat Q ++ [.int .i64 (-7), .slice none 0 0, .int .i64 0])
  rd : w.ownsRow B 37 1 dv Q.length (Q.map Ln.dv)
  own : ∀ x ∈ Q, Own w B x.dv (x.r.data ++ marks 8)
  ap : ∀ (i j : Nat) x y, Q[i]? = some x → Q[j]? = some y → i ≠ j → x.g ≠ y.g
def LendP (w : World) (R : List Rf) (e : Ending) (w' : World) : Prop :=
  Below w.heap.size w w' ∧ ∃ av dv Q, e = .returned (.agg #[av, dv]) ∧ LentAt w' w.heap.size av dv Q ∧ Q.map (·.r) = R
section
variable {w w' : World} {B ob : Nat} {av dv : Value} {Q : List Ln}
theorem LnAt.mid {w2 : World} {o1 : Obj} {av' : Value} (h : LnAt w B ob av dv Q) (hg1 : (w.alloc o1).grownBy w2 av.ownBlock) :
    w2.heap[ob]? = some (.cells #[av, dv] 79 (0, 0)) ∧ (w2.setCell ⟨ob, 0, none⟩ av').heap[ob]? = some (.cells #[av', dv] 79 (0, 0)) ∧ (w2.setCell ⟨ob, 0, none⟩ av').ownsRow B 37 1 dv Q.length (Q.map Ln.dv) := by
  have k1 : Kept (fun g => av.ownBlock = some g) w w2 := (Kept.ofBelow ((Below.refl _ w).alloc (Nat.le_refl _) o1)).trans (Kept.ofGrown hg1 (fun g e => e))
  have hlt := (Array.getElem?_eq_some_iff.1 h.box).1
  have b2 : w2.heap[ob]? = some (.cells #[av, dv] 79 (0, 0)) := (k1.block ob hlt (fun e => by
    obtain ⟨c, hc⟩ := row_typeR h.ra e
    exact clashF hc h.box (by decide))).trans h.box
  have k2 : Kept (fun g => g = ob) w2 (w2.setCell ⟨ob, 0, none⟩ av') := Kept.setCell _ _ _ _ _ rfl
  have b3 := (set_cells b2 0 av').1
  have d2 : w2.ownsRow B 37 1 dv Q.length (Q.map Ln.dv) := row_keptR h.rd k1 (fun g e e2 => by
    obtain ⟨c, hc⟩ := row_typeR h.rd e
    obtain ⟨c2, hc2⟩ := row_typeR h.ra e2
    exact clashF hc hc2 (by decide))
  exact ⟨b2, b3, row_keptR d2 k2 (fun g e e2 => by
    obtain ⟨c, hc⟩ := row_typeR d2 e
    rw [e2] at hc
    exact clashF hc b2 (by decide))⟩
/-- The last file, with which nothing is lent. -/
theorem LnAt.last {w2 : World} {av' : Value} {o1 : Obj} {rb : Nat} (h : LnAt w B ob av dv Q) (ho1 : w2.ownsRow B 62 3 av' (Q.length + 1) (lflat Q ++ [.int .i64 (-7), .slice none 0 0, .int .i64 0])) (hg1 : (w.alloc o1).grownBy w2 av.ownBlock)
    (hr : w.heap[rb]? = some (.cells #[.slice none 0 0, .slice none 0 0] 79 (0, 0))) (hne : rb ≠ ob) :
    (w2.setCell ⟨ob, 0, none⟩ av').heap[rb]? = some (.cells #[.slice none 0 0, .slice none 0 0] 79 (0, 0)) ∧ LentAt ((w2.setCell ⟨ob, 0, none⟩ av').setRow rb #[av', dv]) B av' dv Q ∧ Kept (fun g => av.ownBlock = some g ∨ g = ob ∨ g = rb) w ((w2.setCell ⟨ob, 0, none⟩ av').setRow rb #[av', dv]) := by
  have k1 : Kept (fun g => av.ownBlock = some g) w w2 := (Kept.ofBelow ((Below.refl _ w).alloc (Nat.le_refl _) o1)).trans (Kept.ofGrown hg1 (fun g e => e))
  obtain ⟨b2, b3, d3⟩ := h.mid (av' := av') hg1
  have r2 : w2.heap[rb]? = some (.cells #[.slice none 0 0, .slice none 0 0] 79 (0, 0)) := (k1.block rb (Array.getElem?_eq_some_iff.1 hr).1 (fun e => by
    obtain ⟨c, hc⟩ := row_typeR h.ra e
    exact clashF hc hr (by decide))).trans hr
  have k2 : Kept (fun g => g = ob) w2 (w2.setCell ⟨ob, 0, none⟩ av') := Kept.setCell _ _ _ _ _ rfl
  have r3 := (k2.block rb (Array.getElem?_eq_some_iff.1 r2).1 (fun e => hne e)).trans r2
  obtain ⟨w3, hw3⟩ : ∃ w3, w3 = w2.setCell ⟨ob, 0, none⟩ av' := ⟨_, rfl⟩
  rw [← hw3] at b3 d3 k2 r3 ⊢
  have k3 : Kept (fun g => g = rb) w3 (w3.setRow rb #[av', dv]) := ⟨rfl, rfl, rfl, by simp [World.setRow], fun k _ hk => setRow_other w3 _ k _ hk⟩
  have kk : Kept (fun g => av.ownBlock = some g ∨ g = ob ∨ g = rb) w (w3.setRow rb #[av', dv]) := ((k1.mono (fun g _ e => .inl e)).trans (k2.mono (fun g _ e => .inr (.inl e)))).trans (k3.mono (fun g _ e => .inr (.inr e)))
  have a3 := row_keptR ho1 k2 (fun g e e2 => by
    obtain ⟨c, hc⟩ := row_typeR ho1 e
    rw [e2] at hc
    exact clashF hc b2 (by decide))
  refine ⟨r3, ⟨row_keptR a3 k3 (fun g e e2 => ?_), row_keptR d3 k3 (fun g e e2 => ?_), fun x hx => Kept.own kk (h.own x hx) (fun g e e2 => ?_), h.ap⟩, kk⟩
  · obtain ⟨c, hc⟩ := row_typeR a3 e
    rw [e2] at hc
    exact clashF hc r3 (by decide)
  · obtain ⟨c, hc⟩ := row_typeR d3 e
    rw [e2] at hc
    exact clashF hc r3 (by decide)
  · obtain ⟨c, hc⟩ := row_typeR (h.own x hx) e
    rcases e2 with e2 | e2 | e2
    · obtain ⟨c2, hc2⟩ := row_typeR h.ra e2
      exact clashF hc hc2 (by decide)
    · rw [e2] at hc
      exact clashF hc h.box (by decide)
    · rw [e2] at hc
      exact clashF hc hr (by decide)
theorem LnAt.keptB {bx : Nat} (h : LnAt w B ob av dv Q) (hk : Kept (fun g => g = bx) w w') (h0 : ob ≠ bx) (h1 : av.ownBlock ≠ some bx) (h2 : dv.ownBlock ≠ some bx) (h3 : ∀ x ∈ Q, x.g ≠ bx) : LnAt w' B ob av dv Q :=
  ⟨(hk.block _ (Array.getElem?_eq_some_iff.1 h.box).1 h0).trans h.box, h.lo, row_keptR h.ra hk (fun g e e2 => h1 (e2 ▸ e)), row_keptR h.rd hk (fun g e e2 => h2 (e2 ▸ e)), fun x hx => Kept.own hk (h.own x hx) (fun g e e2 => h3 x hx (by simp [Ln.dv, Value.ownBlock] at e; omega)), h.ap⟩
theorem LnAt.glt (h : LnAt w B ob av dv Q) {x : Ln} (hx : x ∈ Q) : x.g < w.heap.size := ((h.own x hx).lt x.g rfl).2
end
set_option maxHeartbeats 4000000 in
set_option maxRecDepth 1000000 in
theorem lend_any (w : World) (a : Option Addr) (c : Nat) (R : List Rf) (h : IsRaw w a c R) (hn : R.length ≤ 1048576) (ht : totR R ≤ 1073741823) :
    Calls Try.prog 36 #[.slice a R.length c] w (LendP w R) := by
  have HH := hideR h
  obtain ⟨N, hN⟩ : ∃ N, N = R.length := ⟨_, rfl⟩
  have HN := hideR hN
  rw [← hN] at hn ⊢
  obtain ⟨w2, hw2⟩ : ∃ w2, w2 = (w.alloc (.cells #[.slice none 0 0, .slice none 0 0] 79)).alloc (.cells #[.slice none 0 0, .slice none 0 0] 79) := ⟨_, rfl⟩
  have b2 : Below w.heap.size w w2 := by rw [hw2]; exact ((Below.refl _ w).alloc (Nat.le_refl _) _).alloc (by simp) _
  have r2 : w2.heap[w.heap.size]? = some (.cells #[.slice none 0 0, .slice none 0 0] 79 (0, 0)) := by
    rw [hw2]
    exact (heap_alloc_old (w.alloc (.cells #[.slice none 0 0, .slice none 0 0] 79)) _ (by simp)).trans (heap_alloc_new w _)
  have l2 : LnAt w2 w.heap.size (w.heap.size + 1) (.slice none 0 0) (.slice none 0 0) [] := by
    refine ⟨?_, by omega, World.ownsRow_nil _ _ _ _, World.ownsRow_nil _ _ _ _, fun x hx => by simp at hx, fun i j x y hx => by simp at hx⟩
    rw [hw2]
    have := heap_alloc_new (w.alloc (.cells #[.slice none 0 0, .slice none 0 0] 79)) (.cells #[.slice none 0 0, .slice none 0 0] 79)
    rw [World.size_alloc] at this
    exact this
  have HB2 := hideR b2
  have HL2 := hideR l2
  have HR2 := hideR r2
  clear h hN b2 l2 r2
  go_enter Try.func36, Try.ntmps36
  go_wp2_with fail
  rw [← hw2]
  clear hw2
  go_loopg [4] N (fun gk s4 wr => ∃ (k : Nat) (aa da : Option Addr) (ac dc : Nat) (Q : List Ln), s4 = .int .i64 (k : Int) ∧ N - k ≤ gk ∧ k ≤ N ∧ HidR (Below w.heap.size w wr ∧ wr.heap[w.heap.size]? = some (.cells #[.slice none 0 0, .slice none 0 0] 79 (0, 0)) ∧ LnAt wr w.heap.size (w.heap.size + 1) (.slice aa k ac) (.slice da k dc) Q) ∧ HidR (Q.map (·.r) = R.take k))
  case atStart => exact ⟨0, none, none, 0, 0, [], rfl, by omega, by omega, ⟨⟨HB2.out, HR2.out, HL2.out⟩⟩, ⟨by simp⟩⟩
  case round =>
    clear HB2 HL2 HR2
    obtain ⟨k, aa, da, ac, dc, Q, rfl, hgk, hk, HW, HM⟩ := hrel
    have hql : Q.length = k := by have := congrArg List.length HM.out; simp at this; have := HN.out; omega
    have HQL := hideR hql
    clear hql
    by_cases hlt : k < N
    · have tlt : (k : Int) < (N : Int) := by omega
      obtain ⟨x, hx⟩ : ∃ x, R[k]? = some x := ⟨_, List.getElem?_eq_getElem (by have := HN.out; omega)⟩
      obtain ⟨b, o, ea, hbw, m0, ⟨xa, xc, m1, hi⟩, m2⟩ := (HH.out.below HW.out.1).at hx
      subst ea
      have hdl : x.data.length ≤ 1073741823 := by have h2 := totR_take R k x hx; have h3 := totR_le R (k + 1); omega
      have HX : HidR (R.take (k + 1) = R.take k ++ [x]) := ⟨by rw [List.take_add_one, hx]; rfl⟩
      obtain ⟨w3, hw3⟩ : ∃ w3, w3 = wr.alloc (.cells #[.int .i64 x.num, .slice xa x.data.length xc, .int .i64 x.safe] 62) := ⟨_, rfl⟩
      have b3 : Below wr.heap.size wr w3 := by rw [hw3]; exact (Below.refl _ wr).alloc (Nat.le_refl _) _
      have x3 : w3.heap[wr.heap.size]? = some (.cells #[.int .i64 x.num, .slice xa x.data.length xc, .int .i64 x.safe] 62 (0, 0)) := by rw [hw3]; exact heap_alloc_new wr _
      have c1 : w3.cell? ⟨wr.heap.size, 1, none⟩ = some (.slice xa x.data.length xc) := by simp [World.cell?, x3]
      have CL := hideR (lent_any xa xc x.data w3 (hi.below b3) (by omega))
      have HW3 := hideR hw3
      have HX3 := hideR x3
      have HB3 := hideR b3
      clear hx hi hw3 b3 x3 hbw
      go_upto_region 6 with fail
      rw [← HW3.out]
      clear m0 m1 m2
      go_upto_region 7 with (go_at_call 40
                             refine CL.out.mono ?_
                             rintro e w4 ⟨g, cap, rfl, o4, b4⟩
                             have O4 := hideR o4
                             have B4 := hideR b4
                             have hc4 : x.data.length + 8 ≤ cap ∧ cap ≤ 9223372036854775807 := by
                               obtain ⟨a1, c1, e1, hi⟩ := o4.shape
                               simp only [Value.slice.injEq] at e1
                               obtain ⟨rfl, _, rfl⟩ := e1
                               have h1 := hi.1
                               have h2 := hi.2.1
                               unfold maxLen at h2
                               simp [marks] at h1
                               omega
                             clear o4 b4)
      clear c1
      have x4 := (B4.out.block _ (Array.getElem?_eq_some_iff.1 HX3.out).1).trans HX3.out
      have d2 : w4.cell? ⟨wr.heap.size, 1, none⟩ = some (.slice xa x.data.length xc) := by simp [World.cell?, x4]
      have d3 : w4.frozen? ⟨wr.heap.size, 1, none⟩ = false := by simp [World.frozen?, x4]
      have i0 : (0 : Int) ≤ (x.data.length : Int) := by omega
      have i1 : (x.data.length : Int) ≤ (cap : Int) := by omega
      have i2 : (x.data.length : Int) ≤ ((x.data.length + 8 : Nat) : Int) := by omega
      have i3 : (x.data.length : Int) ≤ (x.data.length : Int) + 8 := by omega
      go_upto_region 8 with fail
      clear d2 d3
      obtain ⟨w5, hw5⟩ : ∃ w5, w5 = w4.setCell ⟨wr.heap.size, 1, none⟩ (.slice (some ⟨g, 0, none⟩) x.data.length cap) := ⟨_, rfl⟩
      rw [← hw5]
      have x5 : w5.heap[wr.heap.size]? = some (.cells #[.int .i64 x.num, .slice (some ⟨g, 0, none⟩) x.data.length cap, .int .i64 x.safe] 62 (0, 0)) := by rw [hw5]; exact (set_cells x4 1 _).1
      have k5 : Kept (fun j => j = wr.heap.size) w4 w5 := by rw [hw5]; exact Kept.setCell _ _ _ _ _ rfl
      have hzw := HW.out.1.size
      have hz3 := HB3.out.size
      have b4 : Below wr.heap.size wr w4 := HB3.out.trans (B4.out.mono hz3)
      have l4 := HW.out.2.2.later b4
      have hob := (Array.getElem?_eq_some_iff.1 HW.out.2.2.box).1
      have hz34 : w3.heap.size = wr.heap.size + 1 := by rw [HW3.out]; simp
      have hgl : w3.heap.size ≤ g := (O4.out.lt g rfl).1
      have l5 : LnAt w5 w.heap.size (w.heap.size + 1) (.slice aa k ac) (.slice da k dc) Q := by
        refine l4.keptB k5 (by omega) (fun e => ?_) (fun e => ?_) (fun y hy e => ?_)
        · have := (HW.out.2.2.ra.lt _ e).2; omega
        · have := (HW.out.2.2.rd.lt _ e).2; omega
        · have := HW.out.2.2.glt hy; omega
      have kw5 : Kept (fun j => j = wr.heap.size) wr w5 := (Kept.ofBelow b4).trans k5
      have bw5 : Below w.heap.size w w5 := HW.out.1.trans (kw5.below hzw (fun j hj e => by omega))
      have r5 : w5.heap[w.heap.size]? = some (.cells #[.slice none 0 0, .slice none 0 0] 79 (0, 0)) := (kw5.block _ (by omega) (fun e => by omega)).trans HW.out.2.1
      have o5a : Own w5 w3.heap.size (.slice (some ⟨g, 0, none⟩) (x.data.length + 8) cap) (x.data ++ marks 8) := Kept.own k5 O4.out (fun j e e2 => by simp [Value.ownBlock] at e; omega)
      have o5 : Own w5 w.heap.size (.slice (some ⟨g, 0, none⟩) (x.data.length + 8) cap) (x.data ++ marks 8) := o5a.mono (by omega)
      have gn : ∀ y ∈ Q, y.g ≠ g := fun y hy e => by have := HW.out.2.2.glt hy; omega
      have H5 := hideR (And.intro l5 (And.intro bw5 (And.intro r5 (And.intro o5 gn))))
      have hz5 := bw5.size
      obtain ⟨g0, g1, g2⟩ : w5.cell? ⟨wr.heap.size, 0, none⟩ = some (.int .i64 x.num) ∧ w5.cell? ⟨wr.heap.size, 1, none⟩ = some (.slice (some ⟨g, 0, none⟩) x.data.length cap) ∧ w5.cell? ⟨wr.heap.size, 2, none⟩ = some (.int .i64 x.safe) := by simp [World.cell?, x5]
      obtain ⟨q0, q1, q2⟩ := l5.cells
      clear hw5 x5 k5 b4 l4 l5 kw5 bw5 r5 o5 o5a gn x4 q1 q2
      go_upto_region 9 with (first
        | (refine wpList_fapp rfl (.tmp 28) (.tmp 30) rfl w.heap.size (.slice aa k ac) Q.length (lflat Q) rfl (H5.out.1.ra.alloc _) (some ⟨w5.heap.size, 0, none⟩) 1 1 [.int .i64 x.num, .slice (some ⟨g, 0, none⟩) x.data.length cap, .int .i64 x.safe] rfl rfl (.inr (src_one w5 x.num x.safe (.slice (some ⟨g, 0, none⟩) x.data.length cap))) one_file (by have := HQL.out; omega) (by rw [World.size_alloc]; omega) ?_
           intro v6 w6 ho hg _ _ _
           obtain ⟨a6, c6, e6⟩ := row_formR ho
           rw [HQL.out] at e6
           subst e6
           obtain ⟨m1, m2, m3⟩ := H5.out.1.mid (av' := .slice a6 (k + 1) c6) hg
           have f1 : w6.cell? ⟨w.heap.size + 1, 0, none⟩ = some (.slice aa k ac) := by simp [World.cell?, m1]
           have f2 : w6.frozen? ⟨w.heap.size + 1, 0, none⟩ = false := by simp [World.frozen?, m1]
           have HO6 := hideR (And.intro ho hg)
           have HM6 := hideR (And.intro m2 m3)
           clear ho hg m1 m2 m3))
      obtain ⟨w7, hw7⟩ : ∃ w7, w7 = w6.setCell ⟨w.heap.size + 1, 0, none⟩ (.slice a6 (k + 1) c6) := ⟨_, rfl⟩
      rw [← hw7]
      have HW7 := hideR hw7
      obtain ⟨m2, m3⟩ := HM6.out
      rw [← hw7] at m2 m3
      have p1 : w7.cell? ⟨w.heap.size + 1, 1, none⟩ = some (.slice da k dc) := by simp [World.cell?, m2]
      have M3 : HidR (w7.ownsRow w.heap.size 37 1 (.slice da k dc) (Q.map Ln.dv).length (Q.map Ln.dv)) := ⟨by rw [List.length_map]; exact m3⟩
      have h7 := (m3.lt)
      have hz7 : w.heap.size ≤ w7.heap.size := by have := (Array.getElem?_eq_some_iff.1 m2).1; omega
      clear hw7 m2 m3 h7 f1 f2 q0 g0 g1 g2
      go_wp2_with (first
        | (refine wpList_push rfl (.tmp 34) (.tmp 36) rfl w.heap.size (.slice da k dc) (Q.map Ln.dv) rfl M3.out (.slice (some ⟨g, 0, none⟩) (x.data.length + 8) cap) _ rfl rfl rfl (by rw [List.length_map, HQL.out]; omega) hz7 ?_
           intro v8 w8 ho8 hg8 _
           rw [List.length_map] at ho8
           obtain ⟨a8, c8, e8⟩ := row_formR ho8
           rw [HQL.out] at e8
           subst e8
           rw [HW7.out] at hg8
           obtain ⟨P1, P2, P3, P4⟩ := H5.out.1.push (x := ⟨x, g, cap⟩) H5.out.2.2.2.1 H5.out.2.2.2.2 HO6.out.1 HO6.out.2 ho8 hg8
           obtain ⟨f3, f4⟩ := P4
           have HP := hideR (And.intro P1 P2)
           clear ho8 hg8 P1 P2 P3))
      go_roundg (N - (k + 1))
      case measure => omega
      case rel =>
        obtain ⟨P1, P2⟩ := HP.out
        refine ⟨k + 1, a6, a8, c6, c8, Q ++ [⟨x, g, cap⟩], by go_num, Nat.le_refl _, hlt, ⟨⟨?_, ?_, P1⟩⟩, ⟨?_⟩⟩
        · refine H5.out.2.1.trans (P2.below H5.out.2.1.size (fun j hj e => ?_))
          rcases e with e | e | e
          · omega
          · have := (H5.out.1.ra.lt j e).1; omega
          · have := (H5.out.1.rd.lt j e).1; omega
        · refine (P2.block _ (by have := (Array.getElem?_eq_some_iff.1 H5.out.2.2.1).1; omega) (fun e => ?_)).trans H5.out.2.2.1
          rcases e with e | e | e
          · omega
          · obtain ⟨ct, hc⟩ := row_typeR H5.out.1.ra e
            exact clashF hc H5.out.2.2.1 (by decide)
          · obtain ⟨ct, hc⟩ := row_typeR H5.out.1.rd e
            exact clashF hc H5.out.2.2.1 (by decide)
        · rw [List.map_append, HM.out, HX.out]
          rfl
    · have tlt : ¬ (k : Int) < (N : Int) := by omega
      obtain rfl : k = N := by omega
      have hzw := HW.out.1.size
      obtain ⟨q0, q1, q2⟩ := HW.out.2.2.cells
      clear q1 q2
      go_upto_region 11 with (first
        | (refine wpList_fapp rfl (.tmp 40) (.tmp 42) rfl w.heap.size (.slice aa k ac) Q.length (lflat Q) rfl (HW.out.2.2.ra.alloc _) (some ⟨wr.heap.size, 0, none⟩) 1 1 [.int .i64 (-7), .slice none 0 0, .int .i64 0] rfl rfl (.inr (src_one wr (-7) 0 (.slice none 0 0))) one_file (by have := HQL.out; omega) (by rw [World.size_alloc]; omega) ?_
           intro v6 w6 ho hg _ _ _
           obtain ⟨a6, c6, e6⟩ := row_formR ho
           rw [HQL.out] at e6
           subst e6
           obtain ⟨m1, m2, m3⟩ := HW.out.2.2.mid (av' := .slice a6 (k + 1) c6) hg
           have f1 : w6.cell? ⟨w.heap.size + 1, 0, none⟩ = some (.slice aa k ac) := by simp [World.cell?, m1]
           have f2 : w6.frozen? ⟨w.heap.size + 1, 0, none⟩ = false := by simp [World.frozen?, m1]
           obtain ⟨m4, m5, m6⟩ := HW.out.2.2.last ho hg HW.out.2.1 (by omega)
           have HM4 := hideR (And.intro m4 (And.intro m5 m6))
           have HM2 := hideR m2
           clear ho hg m1 m2 m3 m4 m5 m6))
      obtain ⟨w7, hw7⟩ : ∃ w7, w7 = w6.setCell ⟨w.heap.size + 1, 0, none⟩ (.slice a6 (k + 1) c6) := ⟨_, rfl⟩
      rw [← hw7]
      have HW7 := hideR hw7
      have m2 := HM2.out
      rw [← hw7] at m2
      obtain ⟨p0, p1⟩ : w7.cell? ⟨w.heap.size + 1, 0, none⟩ = some (.slice a6 (k + 1) c6) ∧ w7.cell? ⟨w.heap.size + 1, 1, none⟩ = some (.slice da k dc) := by simp [World.cell?, m2]
      have m4 := HM4.out
      rw [← hw7] at m4
      have HM5 := hideR m4
      clear hw7 m2 m4 f1 f2 q0
      go_wp2_with (refine wpList_store_row rfl 79 (.tmp 2) (.tmp 45) rfl w.heap.size #[.slice a6 (k + 1) c6, .slice da k dc] rfl rfl 79 #[.slice none 0 0, .slice none 0 0] HM5.out.1 info_lent rfl (by simp [Value.oneCell']) ?_)
      refine bodyPost_ret (results_cell_row rfl _ _ w.heap.size 79 _ (0, 0) _ rfl (setRow_heap _ _ _ _ _ _ HM5.out.1) under_lent rfl info_lent) rfl ?_
      obtain ⟨n1, n2, n3⟩ := HM5.out
      refine ⟨HW.out.1.trans (n3.below hzw (fun j hj e => ?_)), _, _, Q, rfl, n2, by rw [HM.out, HN.out, List.take_length]⟩
      rcases e with e | e | e
      · have := (HW.out.2.2.ra.lt j e).1; omega
      · omega
      · omega
end Go.Proofs.Ytnpofjeiamjioaa
