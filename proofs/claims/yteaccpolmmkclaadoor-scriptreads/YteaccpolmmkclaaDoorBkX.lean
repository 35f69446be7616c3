/-
  MarkW, BkA, BkH, BkK.
-/
import Derived.Test.YteaccpolmmkclaaDoorStiG
namespace Go.Proofs.YteaccpolmmkclaaDoor
open Go.RowKit

theorem Own.is8 {w : World} {B g m cap : Nat} {X : List UInt8} (h : Own w B (.slice (some ⟨g, 0, none⟩) m cap) X) : IsBytes w (some ⟨g, 0, none⟩) cap X ∧ X.length = m := by
  obtain ⟨a, c, hv, his⟩ := h.shape
  simp only [Value.slice.injEq] at hv
  obtain ⟨rfl, rfl, rfl⟩ := hv
  exact ⟨his, rfl⟩
theorem Own.cell8 {w : World} {B g m cap : Nat} {X : List UInt8} (h : Own w B (.slice (some ⟨g, 0, none⟩) m cap) X) (j : Nat) (x : UInt8) (hx : X[j]? = some x) : w.cell? ⟨g, j, none⟩ = some (.int .u8 (x.toNat : Int)) := by
  rcases h.is8.1.2.2 with rfl | ⟨b, o, ha, hb, hc⟩
  · simp at hx
  · simp only [Option.some.injEq, Addr.mk.injEq] at ha
    obtain ⟨rfl, rfl, _⟩ := ha
    have := hc j x hx
    rwa [Nat.zero_add] at this
theorem Own.frozen8 {w : World} {B g m cap : Nat} {X : List UInt8} (h : Own w B (.slice (some ⟨g, 0, none⟩) m cap) X) (j : Nat) : w.frozen? ⟨g, j, none⟩ = false := by
  rcases h.2 with ⟨h', _⟩ | ⟨g', cap', cur, h', hb, hg, _⟩
  · simp at h'
  · simp only [Value.slice.injEq, Option.some.injEq, Addr.mk.injEq] at h'
    obtain ⟨⟨rfl, _⟩, _⟩ := h'
    simp [World.frozen?, hg]
theorem Own.set8 {w : World} {B g m cap : Nat} {X : List UInt8} (h : Own w B (.slice (some ⟨g, 0, none⟩) m cap) X) (j : Nat) (x : UInt8) :
    Own (w.setCell ⟨g, j, none⟩ (.int .u8 (x.toNat : Int))) B (.slice (some ⟨g, 0, none⟩) m cap) (X.set j x) := by
  have hm := h.is8.2
  unfold Own at h ⊢
  rw [hm] at h
  have := (h.stored j (.int .u8 (x.toNat : Int))).1
  rw [List.length_set, hm, show u8s (X.set j x) = (u8s X).set j (.int .u8 (x.toNat : Int)) by simp [u8s, List.map_set]]
  exact this
theorem Own.shapeSome8 {w : World} {B : Nat} {v : Value} {l : List UInt8} (h : Own w B v l) (hl : 0 < l.length) : ∃ g c, v = .slice (some ⟨g, 0, none⟩) l.length c := by
  rcases h.2 with ⟨_, h0⟩ | ⟨g, cap, cur, hv, _⟩
  · omega
  · exact ⟨g, cap, hv⟩
theorem own_8_64 {w : World} {B B' : Nat} {v u : Value} {x : List UInt8} {y : List Int} (h : Own w B v x) (h' : OwnI w B' u y) {g : Nat} (e : v.ownBlock = some g) (e' : u.ownBlock = some g) : False := by
  obtain ⟨c1, h1⟩ := row_of_type h e
  obtain ⟨c2, h2⟩ := row_of_type h' e'
  rw [h1] at h2
  simp at h2
/-- Which blocks mark may turn. -/
def MB (dv kv dv' kv' : Value) (g : Nat) : Prop := dv.ownBlock = some g ∨ dv'.ownBlock = some g ∨ kv.ownBlock = some g ∨ kv'.ownBlock = some g
/-- Where mark is. -/
structure MarkI (W w : World) (B : Nat) (p : StepP) (dv kv dv' kv' : Value) (d d' : List UInt8) (k k' : List Int) : Prop where
  kept : Kept (MB dv kv dv' kv') W w
  b3 : w.heap[W.heap.size]? = some (.cells #[.int .i64 p.kind, .int .i64 p.conn, dv, .int .i64 p.brk, kv] 40 (0, 0))
  b4 : w.heap[W.heap.size + 1]? = some (.cells #[.int .i64 p.kind, .int .i64 p.conn, dv', .int .i64 p.brk, kv'] 40 (0, 0))
  d : Own w B dv d
  d' : Own w B dv' d'
  k : OwnI w B kv k
  k' : OwnI w B kv' k'
  nd : ∀ g, dv.ownBlock = some g → dv'.ownBlock ≠ some g
  nk : ∀ g, kv.ownBlock = some g → kv'.ownBlock ≠ some g
section
variable {W w : World} {B : Nat} {p : StepP} {dv kv dv' kv' : Value} {d d' : List UInt8} {k k' : List Int}
theorem MarkI.cells (h : MarkI W w B p dv kv dv' kv' d d' k k') : w.cell? ⟨W.heap.size, 2, none⟩ = some dv ∧ w.cell? ⟨W.heap.size, 4, none⟩ = some kv ∧ w.cell? ⟨W.heap.size + 1, 2, none⟩ = some dv' ∧ w.cell? ⟨W.heap.size + 1, 4, none⟩ = some kv' := by
  simp [World.cell?, h.b3, h.b4]
theorem MarkI.put (h : MarkI W w B p dv kv dv' kv' d d' k k') {g i : Nat} {v : Value} (hg : MB dv kv dv' kv' g) (ht : ∃ cur t, w.heap[g]? = some (.cells cur t (0, 0)) ∧ t ≠ 40) :
    Kept (fun x => x = g) w (w.setCell ⟨g, i, none⟩ v) ∧ Kept (MB dv kv dv' kv') W (w.setCell ⟨g, i, none⟩ v) ∧
    (w.setCell ⟨g, i, none⟩ v).heap[W.heap.size]? = some (.cells #[.int .i64 p.kind, .int .i64 p.conn, dv, .int .i64 p.brk, kv] 40 (0, 0)) ∧
    (w.setCell ⟨g, i, none⟩ v).heap[W.heap.size + 1]? = some (.cells #[.int .i64 p.kind, .int .i64 p.conn, dv', .int .i64 p.brk, kv'] 40 (0, 0)) := by
  have k1 : Kept (fun x => x = g) w (w.setCell ⟨g, i, none⟩ v) := Kept.setCell _ _ _ _ _ rfl
  obtain ⟨cur, t, hc, hne⟩ := ht
  have n3 : ¬ W.heap.size = g := fun e => by rw [← e, h.b3] at hc; simp at hc; exact hne hc.2.symm
  have n4 : ¬ W.heap.size + 1 = g := fun e => by rw [← e, h.b4] at hc; simp at hc; exact hne hc.2.symm
  exact ⟨k1, h.kept.trans (k1.mono (fun x _ e => by subst e; exact hg)), (k1.block _ (Array.getElem?_eq_some_iff.1 h.b3).1 n3).trans h.b3, (k1.block _ (Array.getElem?_eq_some_iff.1 h.b4).1 n4).trans h.b4⟩
theorem MarkI.setD {g n c : Nat} (h : MarkI W w B p (.slice (some ⟨g, 0, none⟩) n c) kv dv' kv' d d' k k') (i : Nat) (x : UInt8) : MarkI W (w.setCell ⟨g, i, none⟩ (.int .u8 (x.toNat : Int))) B p (.slice (some ⟨g, 0, none⟩) n c) kv dv' kv' (d.set i x) d' k k' := by
  obtain ⟨cur, hc⟩ := row_of_type h.d (g := g) rfl
  obtain ⟨k1, k2, k3, k4⟩ := h.put (i := i) (v := .int .u8 (x.toNat : Int)) (.inl rfl) ⟨cur, _, hc, by decide⟩
  exact ⟨k2, k3, k4, h.d.set8 i x, Kept.own k1 h.d' (fun g' e e2 => h.nd g rfl (by rw [e, e2])), Kept.own k1 h.k (fun g' e e2 => own_8_64 h.d h.k (g := g) rfl (by rw [e, e2])), Kept.own k1 h.k' (fun g' e e2 => own_8_64 h.d h.k' (g := g) rfl (by rw [e, e2])), h.nd, h.nk⟩
theorem MarkI.setD' {g n c : Nat} (h : MarkI W w B p dv kv (.slice (some ⟨g, 0, none⟩) n c) kv' d d' k k') (i : Nat) (x : UInt8) : MarkI W (w.setCell ⟨g, i, none⟩ (.int .u8 (x.toNat : Int))) B p dv kv (.slice (some ⟨g, 0, none⟩) n c) kv' d (d'.set i x) k k' := by
  obtain ⟨cur, hc⟩ := row_of_type h.d' (g := g) rfl
  obtain ⟨k1, k2, k3, k4⟩ := h.put (i := i) (v := .int .u8 (x.toNat : Int)) (.inr (.inl rfl)) ⟨cur, _, hc, by decide⟩
  exact ⟨k2, k3, k4, Kept.own k1 h.d (fun g' e e2 => h.nd g' e (by rw [e2]; rfl)), h.d'.set8 i x, Kept.own k1 h.k (fun g' e e2 => own_8_64 h.d' h.k (g := g) rfl (by rw [e, e2])), Kept.own k1 h.k' (fun g' e e2 => own_8_64 h.d' h.k' (g := g) rfl (by rw [e, e2])), h.nd, h.nk⟩
theorem MarkI.setK {g n c : Nat} (h : MarkI W w B p dv (.slice (some ⟨g, 0, none⟩) n c) dv' kv' d d' k k') (i : Nat) (x : Int) : MarkI W (w.setCell ⟨g, i, none⟩ (.int .i64 x)) B p dv (.slice (some ⟨g, 0, none⟩) n c) dv' kv' d d' (k.set i x) k' := by
  obtain ⟨cur, hc⟩ := row_of_type h.k (g := g) rfl
  obtain ⟨k1, k2, k3, k4⟩ := h.put (i := i) (v := .int .i64 x) (.inr (.inr (.inl rfl))) ⟨cur, _, hc, by decide⟩
  exact ⟨k2, k3, k4, Kept.own k1 h.d (fun g' e e2 => own_8_64 h.d h.k (g := g) (by rw [e, e2]) rfl), Kept.own k1 h.d' (fun g' e e2 => own_8_64 h.d' h.k (g := g) (by rw [e, e2]) rfl), (h.k.set i x).1, Kept.own k1 h.k' (fun g' e e2 => h.nk g rfl (by rw [e, e2])), h.nd, h.nk⟩
theorem MarkI.setK' {g n c : Nat} (h : MarkI W w B p dv kv dv' (.slice (some ⟨g, 0, none⟩) n c) d d' k k') (i : Nat) (x : Int) : MarkI W (w.setCell ⟨g, i, none⟩ (.int .i64 x)) B p dv kv dv' (.slice (some ⟨g, 0, none⟩) n c) d d' k (k'.set i x) := by
  obtain ⟨cur, hc⟩ := row_of_type h.k' (g := g) rfl
  obtain ⟨k1, k2, k3, k4⟩ := h.put (i := i) (v := .int .i64 x) (.inr (.inr (.inr rfl))) ⟨cur, _, hc, by decide⟩
  exact ⟨k2, k3, k4, Kept.own k1 h.d (fun g' e e2 => own_8_64 h.d h.k' (g := g) (by rw [e, e2]) rfl), Kept.own k1 h.d' (fun g' e e2 => own_8_64 h.d' h.k' (g := g) (by rw [e, e2]) rfl), Kept.own k1 h.k (fun g' e e2 => h.nk g' e (by rw [e2]; rfl)), (h.k'.set i x).1, h.nd, h.nk⟩
end
theorem mark_start (W : World) (B : Nat) (p : StepP) (dv kv dv' kv' : Value) (d d' : List UInt8) (k k' : List Int) (hd : Own W B dv d) (hd' : Own W B dv' d') (hk : OwnI W B kv k) (hk' : OwnI W B kv' k') (nd : ∀ g, dv.ownBlock = some g → dv'.ownBlock ≠ some g) (nk : ∀ g, kv.ownBlock = some g → kv'.ownBlock ≠ some g) :
    MarkI W ((W.alloc (.cells #[.int .i64 p.kind, .int .i64 p.conn, dv, .int .i64 p.brk, kv] 40)).alloc (.cells #[.int .i64 p.kind, .int .i64 p.conn, dv', .int .i64 p.brk, kv'] 40)) B p dv kv dv' kv' d d' k k' := by
  have a1 := heap_alloc_new W (.cells #[.int .i64 p.kind, .int .i64 p.conn, dv, .int .i64 p.brk, kv] 40)
  have a2 := heap_alloc_new (W.alloc (.cells #[.int .i64 p.kind, .int .i64 p.conn, dv, .int .i64 p.brk, kv] 40)) (.cells #[.int .i64 p.kind, .int .i64 p.conn, dv', .int .i64 p.brk, kv'] 40)
  rw [World.size_alloc] at a2
  have b : Below W.heap.size W ((W.alloc (.cells #[.int .i64 p.kind, .int .i64 p.conn, dv, .int .i64 p.brk, kv] 40)).alloc (.cells #[.int .i64 p.kind, .int .i64 p.conn, dv', .int .i64 p.brk, kv'] 40)) := ((Below.refl _ W).alloc (Nat.le_refl _) _).alloc (by simp) _
  exact ⟨Kept.ofBelow b, (heap_alloc_old _ _ (by simp)).trans a1, a2, hd.below b, hd'.below b, hk.below b, hk'.below b, nd, nk⟩
theorem rep_set {α : Type} (d : List α) (t : Nat) (x : α) (ht : t < d.length) : (List.replicate t x ++ d.drop t).set t x = List.replicate (t + 1) x ++ d.drop (t + 1) := by
  rw [List.set_append_right _ _ (by simp), List.length_replicate, Nat.sub_self, List.drop_eq_getElem_cons ht, List.set_cons_zero, List.replicate_succ']
  simp
theorem rep_len {α : Type} (d : List α) (t : Nat) (x : α) (ht : t ≤ d.length) : (List.replicate t x ++ d.drop t).length = d.length := by
  simp
  omega
def mk1 (n : Nat) : UInt8 := UInt8.ofNat (7 * n + 1)
def mk2 (n : Nat) : UInt8 := UInt8.ofNat (7 * n + 2)
set_option maxHeartbeats 4000000 in
set_option maxRecDepth 1000000 in
theorem mark_any (W : World) (B n : Nat) (p : StepP) (dv kv dv' kv' : Value) (hn : n ≤ 1000000) (hd : Own W B dv p.data) (hd' : Own W B dv' p.data) (hk : OwnI W B kv p.keep) (hk' : OwnI W B kv' p.keep) (nd : ∀ g, dv.ownBlock = some g → dv'.ownBlock ≠ some g) (nk : ∀ g, kv.ownBlock = some g → kv'.ownBlock ≠ some g) :
    Calls Tryd.prog 21 #[.agg #[.int .i64 p.kind, .int .i64 p.conn, dv, .int .i64 p.brk, kv], .agg #[.int .i64 p.kind, .int .i64 p.conn, dv', .int .i64 p.brk, kv'], .int .i64 (n : Int)] W fun e w' => e = .returned (.tuple #[]) ∧ Kept (MB dv kv dv' kv') W w' ∧ Own w' B dv (List.replicate p.data.length (mk1 n)) ∧ Own w' B dv' (List.replicate p.data.length (mk1 n)) ∧ OwnI w' B kv (List.replicate p.keep.length (-(n : Int))) ∧ OwnI w' B kv' (List.replicate p.keep.length (-(n : Int))) := by
  have H0 := hide (mark_start W B p dv kv dv' kv' p.data p.data p.keep p.keep hd hd' hk hk' nd nk)
  obtain ⟨ad, cd, e1, i1⟩ := hd.shape
  obtain ⟨ad', cd', e2, i2⟩ := hd'.shape
  obtain ⟨ak, ck, e3, i3⟩ := hk.shape
  obtain ⟨ak', ck', e4, i4⟩ := hk'.shape
  subst e1 e2 e3 e4
  have hLd : p.data.length ≤ 9223372036854775807 := by have := i1.1; have := i1.2.1; unfold maxLen at this; omega
  have hLk : p.keep.length ≤ 9223372036854775807 := by have := i3.2.1; unfold maxLen at this; omega
  clear i1 i2 i3 i4 hd hd' hk hk' nd nk
  obtain ⟨L, hL⟩ : ∃ L, L = p.data.length := ⟨_, rfl⟩
  obtain ⟨M, hM⟩ : ∃ M, M = p.keep.length := ⟨_, rfl⟩
  have HL := hide hL
  have HM := hide hM
  rw [← hL, ← hM] at H0 ⊢
  rw [← hL] at hLd
  rw [← hM] at hLk
  clear hL hM
  have hx1 : IntKind.u8.wrap (7 * (n : Int) + 1) = ((mk1 n).toNat : Int) := by rw [IntKind.wrap_u8, mk1, UInt8.toNat_ofNat']; omega
  obtain ⟨x, hx⟩ : ∃ x, x = mk1 n := ⟨_, rfl⟩
  rw [← hx] at hx1 ⊢
  clear hx
  have w1 : IntKind.i64.wrap (7 * (n : Int)) = 7 * (n : Int) := by rw [IntKind.wrap_i64]; omega
  have w2 : IntKind.i64.wrap (7 * (n : Int) + 1) = 7 * (n : Int) + 1 := by rw [IntKind.wrap_i64]; omega
  have w3 : IntKind.i64.wrap (-(n : Int)) = -(n : Int) := by rw [IntKind.wrap_i64]; omega
  go_enter Tryd.func21, Tryd.ntmps21
  go_wp2_with fail
  go_loopg [6] L (fun gk i wr => ∃ t : Nat, i = .int .i64 (t : Int) ∧ L - t ≤ gk ∧ t ≤ L ∧ Hid (MarkI W wr B p (.slice ad L cd) (.slice ak M ck) (.slice ad' L cd') (.slice ak' M ck') (List.replicate t x ++ p.data.drop t) (List.replicate t x ++ p.data.drop t) p.keep p.keep))
  case atStart => exact ⟨0, rfl, by omega, by omega, H0⟩
  case round =>
    obtain ⟨t, rfl, hgk, ht, HI⟩ := hrel
    by_cases hlt : t < L
    · have tlt : (t : Int) < (L : Int) := by omega
      have hll : (List.replicate t x ++ p.data.drop t).length = L := by rw [rep_len _ _ _ (by have := HL.out; omega)]; exact HL.out.symm
      obtain ⟨g, c, eg⟩ := HI.out.d.shapeSome8 (by omega)
      obtain ⟨g', c', eg'⟩ := HI.out.d'.shapeSome8 (by omega)
      simp only [Value.slice.injEq] at eg eg'
      obtain ⟨rfl, q1, rfl⟩ := eg
      obtain ⟨rfl, q2, rfl⟩ := eg'
      clear q1 q2
      obtain ⟨y1, _, _, _⟩ := HI.out.cells
      obtain ⟨b0, hb0⟩ : ∃ b0, (List.replicate t x ++ p.data.drop t)[t]? = some b0 := ⟨_, List.getElem?_eq_getElem (by omega)⟩
      have c1 := HI.out.d.cell8 t b0 hb0
      have f1 := HI.out.d.frozen8 t
      have H1 := hide (HI.out.setD t x)
      have c2 := H1.out.d'.cell8 t b0 hb0
      have f2 := H1.out.d'.frozen8 t
      obtain ⟨_, _, y2, _⟩ := H1.out.cells
      have H2 := hide (H1.out.setD' t x)
      have HE := hide (rep_set p.data t x (by have := HL.out; omega))
      rw [HE.out] at H2
      clear hb0 hll H1
      go_upto_region 5 with fail
      go_wp2_with fail
      go_roundg (L - (t + 1))
      case measure => omega
      case rel => exact ⟨t + 1, by go_num, Nat.le_refl _, hlt, H2⟩
    · have tlt : ¬ (t : Int) < (L : Int) := by omega
      have hh := HI.out
      rw [show t = p.data.length by have := HL.out; omega, List.drop_length, List.append_nil, ← HL.out] at hh
      have H5 := hide hh
      obtain ⟨y1, _, _, _⟩ := HI.out.cells
      clear HI hh
      go_wp2_with fail
      clear y1
      go_loopg [7] M (fun gk i wr => ∃ t : Nat, i = .int .i64 (t : Int) ∧ M - t ≤ gk ∧ t ≤ M ∧ Hid (MarkI W wr B p (.slice ad L cd) (.slice ak M ck) (.slice ad' L cd') (.slice ak' M ck') (List.replicate L x) (List.replicate L x) (List.replicate t (-(n : Int)) ++ p.keep.drop t) (List.replicate t (-(n : Int)) ++ p.keep.drop t)))
      case atStart => exact ⟨0, rfl, by omega, by omega, H5⟩
      case round =>
        obtain ⟨t, rfl, hgk, ht, HI⟩ := hrel
        by_cases hlt : t < M
        · have tlt : (t : Int) < (M : Int) := by omega
          have hll : (List.replicate t (-(n : Int)) ++ p.keep.drop t).length = M := by rw [rep_len _ _ _ (by have := HM.out; omega)]; exact HM.out.symm
          obtain ⟨g, c, eg⟩ := HI.out.k.shapeSome (by omega)
          obtain ⟨g', c', eg'⟩ := HI.out.k'.shapeSome (by omega)
          simp only [Value.slice.injEq] at eg eg'
          obtain ⟨rfl, q1, rfl⟩ := eg
          obtain ⟨rfl, q2, rfl⟩ := eg'
          clear q1 q2
          obtain ⟨_, y1, _, _⟩ := HI.out.cells
          obtain ⟨b0, hb0⟩ : ∃ b0, (List.replicate t (-(n : Int)) ++ p.keep.drop t)[t]? = some b0 := ⟨_, List.getElem?_eq_getElem (by omega)⟩
          have c1 := HI.out.k.cell t b0 hb0
          have f1 := HI.out.k.frozen t
          have H1 := hide (HI.out.setK t (-(n : Int)))
          have c2 := H1.out.k'.cell t b0 hb0
          have f2 := H1.out.k'.frozen t
          obtain ⟨_, _, _, y2⟩ := H1.out.cells
          have H2 := hide (H1.out.setK' t (-(n : Int)))
          have HE := hide (rep_set p.keep t (-(n : Int)) (by have := HM.out; omega))
          rw [HE.out] at H2
          clear hb0 hll H1
          go_wp2_with fail
          go_roundg (M - (t + 1))
          case measure => omega
          case rel => exact ⟨t + 1, by go_num, Nat.le_refl _, hlt, H2⟩
        · have tlt : ¬ (t : Int) < (M : Int) := by omega
          have hh := HI.out
          rw [show t = p.keep.length by have := HM.out; omega, List.drop_length, List.append_nil, ← HM.out] at hh
          obtain ⟨_, y1, _, _⟩ := HI.out.cells
          have H6 := hide hh
          clear HI hh
          go_wp2_with fail
          go_end0
          exact ⟨rfl, H6.out.kept, H6.out.d, H6.out.d', H6.out.k, H6.out.k'⟩
end Go.Proofs.YteaccpolmmkclaaDoor

namespace Go.Proofs.YteaccpolmmkclaaDoor
open Go.RowKit

/-- A play that lies somewhere. -/
structure Pl where
  j : Int
  s : Int
  q : Int
  sv : Value
  l : List Sq
def plCells (p : Pl) : List Value := [.int .i64 p.j, .int .i64 p.s, .int .i64 p.q, p.sv]
def flatP (L : List Pl) : List Value := L.flatMap plCells
theorem flatP_length (L : List Pl) : (flatP L).length = L.length * 4 := by
  induction L with
  | nil => rfl
  | cons a L ih =>
    show (plCells a ++ flatP L).length = _
    rw [List.length_append, ih]
    simp [plCells]
    omega
theorem flatP_append (a b : List Pl) : flatP (a ++ b) = flatP a ++ flatP b := by simp [flatP]
theorem flatP_at (L : List Pl) (i : Nat) (x : Pl) (hx : L[i]? = some x) (k : Nat) (hk : k < 4) (v : Value) (hv : (plCells x)[k]? = some v) : (flatP L)[i * 4 + k]? = some v := by
  induction L generalizing i with
  | nil => simp at hx
  | cons a L ih =>
    have hla : (plCells a).length = 4 := rfl
    show (plCells a ++ flatP L)[i * 4 + k]? = some v
    cases i with
    | zero =>
      simp only [List.getElem?_cons_zero, Option.some.injEq] at hx
      subst hx
      rw [Nat.zero_mul, Nat.zero_add, List.getElem?_append_left (by omega)]
      exact hv
    | succ i =>
      rw [List.getElem?_append_right (by omega), hla, show (i + 1) * 4 + k - 4 = i * 4 + k by omega]
      exact ih i (by simpa using hx)
theorem step_plays {ops : Array Oper} {o : Oper} {a : Act} {K : Act → World → Prop} {Q : Exit → Act → World → Prop} {F : Prop} (hgd : o.guard = none) (s x : Operand)
    (ho : o.op = .call { callee := .builtin .append, args := #[s, x], argTypes := #[24, 24] })
    (w : World) (B : Nat) (v : Value) (X : List Pl) (hs : a.eval s = v) (hown : w.ownsRow B 31 4 v X.length (flatP X)) (ad : Option Addr) (c : Nat) (Y : Pl) (hx : a.eval x = .slice ad 1 c)
    (hsrc : ∃ p, ad = some p ∧ ∀ j u, (flatP [Y])[j]? = some u → w.cell? (p.add j) = some u) (hone : ∀ u ∈ flatP [Y], u.oneCell' = true)
    (hb : X.length ≤ 1073741823) (hbase : B ≤ w.heap.size)
    (h : ∀ v' w', w'.ownsRow B 31 4 v' (X ++ [Y]).length (flatP (X ++ [Y])) → w.grownBy w' v.ownBlock → (v'.ownBlock = v.ownBlock ∨ v'.ownBlock = some w.heap.size) → K (a.put o.dst v') w') :
    if Region.wanted o (yielded ops a.tmps) = true then Oper.wp Tryd.prog o a w K Q else F := by
  have hw : Region.wanted o (yielded ops a.tmps) = true := by simp [Region.wanted, hgd]
  rw [if_pos hw]
  obtain ⟨i, hi, hz0, hz1, hz2⟩ := info_parts info_play
  obtain ⟨v', w', hr, h2, h3, h4, h5, h6⟩ := run_append_keepsG (P := Tryd.prog) w 4 B 24 o.type 31 i _ Tryd.underlying24 hi hz0 hz1 rfl v X.length (flatP X) hown ad 1 c (flatP [Y]) (by rw [flatP_length]; rfl) (.inr hsrc) hone (by unfold maxLen; omega) (by rw [hz2]; omega) hbase
  unfold Oper.wp execOp
  simp only [ho, resolve, invoke, builtin, Sem.run_bind, Sem.run_pure, Result.andThen_ok, List.map_toArray, List.map_cons, List.map_nil, hs, hx, hr]
  refine h v' w' ?_ h3 h5
  rw [List.length_append, flatP_append]
  exact h2
theorem src_play (w : World) (x : Pl) : ∃ a, (some (⟨w.heap.size, 0, none⟩ : Addr)) = some a ∧ ∀ j u, (flatP [x])[j]? = some u → (w.alloc (.cells #[.int .i64 x.j, .int .i64 x.s, .int .i64 x.q, x.sv] 31)).cell? (a.add j) = some u := by
  refine ⟨_, rfl, fun j u hj => ?_⟩
  have e : flatP [x] = [.int .i64 x.j, .int .i64 x.s, .int .i64 x.q, x.sv] := rfl
  rw [e] at hj
  have hb := heap_alloc_new w (.cells #[.int .i64 x.j, .int .i64 x.s, .int .i64 x.q, x.sv] 31)
  have : (w.alloc (.cells #[.int .i64 x.j, .int .i64 x.s, .int .i64 x.q, x.sv] 31)).cell? ⟨w.heap.size, j, none⟩ = some u := by
    simp only [World.cell?, hb]
    simpa using hj
  cases j with
  | zero => simpa [Addr.add] using this
  | succ j => simpa [Addr.add] using this
theorem row_typeG {w : World} {B e sz n : Nat} {v : Value} {xs : List Value} (h : w.ownsRow B e sz v n xs) {g : Nat} (hg : v.ownBlock = some g) : ∃ cur, w.heap[g]? = some (.cells cur e (0, 0)) := by
  rcases h.2 with ⟨rfl, _⟩ | ⟨g', cap, cur, rfl, _, hc, _⟩
  · cases hg
  · cases hg
    exact ⟨cur, hc⟩
theorem row_keptG {w w' : World} {P : Nat → Prop} {B e sz : Nat} {v : Value} {m : Nat} {xs : List Value} (h : w.ownsRow B e sz v m xs) (hk : Kept P w w') (hP : ∀ g, v.ownBlock = some g → ¬ P g) : w'.ownsRow B e sz v m xs := by
  refine ⟨h.1, ?_⟩
  rcases h.2 with h0 | ⟨g, cap, cur, e, hB, hgg, rest⟩
  · exact .inl h0
  · exact .inr ⟨g, cap, cur, e, hB, (hk.block g (Array.getElem?_eq_some_iff.1 hgg).1 (fun e2 => hP g (by rw [e]; rfl) e2)).trans hgg, rest⟩
/-- A book of plays in memory. -/
structure BkAt (w : World) (B hb : Nat) (ov wv : Value) (O Wn : List Pl) : Prop where
  box : w.heap[hb]? = some (.cells #[ov, wv] 26 (0, 0))
  out : w.ownsRow B 31 4 ov O.length (flatP O)
  want : w.ownsRow B 31 4 wv Wn.length (flatP Wn)
  ne : ∀ g, ov.ownBlock = some g → wv.ownBlock ≠ some g
/-- Which blocks are the book's. -/
def BQ (hb : Nat) (ov wv : Value) (g : Nat) : Prop := g = hb ∨ ov.ownBlock = some g ∨ wv.ownBlock = some g
section
variable {w w' w2 : World} {B hb : Nat} {ov wv : Value} {O Wn : List Pl}
theorem BkAt.lt (h : BkAt w B hb ov wv O Wn) : hb < w.heap.size := (Array.getElem?_eq_some_iff.1 h.box).1
theorem BkAt.lts (h : BkAt w B hb ov wv O Wn) {g : Nat} (hg : BQ hb ov wv g) : g < w.heap.size := by
  rcases hg with rfl | e | e
  · exact h.lt
  · exact (h.out.lt g e).2
  · exact (h.want.lt g e).2
theorem BkAt.typ (h : BkAt w B hb ov wv O Wn) {g : Nat} (hg : BQ hb ov wv g) : ∃ cur t, w.heap[g]? = some (.cells cur t (0, 0)) ∧ (t = 26 ∨ t = 31) := by
  rcases hg with rfl | e | e
  · exact ⟨_, _, h.box, .inl rfl⟩
  · obtain ⟨c, hc⟩ := row_typeG h.out e
    exact ⟨c, _, hc, .inr rfl⟩
  · obtain ⟨c, hc⟩ := row_typeG h.want e
    exact ⟨c, _, hc, .inr rfl⟩
theorem BkAt.no (h : BkAt w B hb ov wv O Wn) : ov.ownBlock ≠ some hb ∧ wv.ownBlock ≠ some hb := by
  refine ⟨fun e => ?_, fun e => ?_⟩
  · obtain ⟨c, hc⟩ := row_typeG h.out e
    rw [h.box] at hc
    simp at hc
  · obtain ⟨c, hc⟩ := row_typeG h.want e
    rw [h.box] at hc
    simp at hc
theorem BkAt.kept {P : Nat → Prop} (h : BkAt w B hb ov wv O Wn) (hk : Kept P w w') (hP : ∀ g, BQ hb ov wv g → ¬ P g) : BkAt w' B hb ov wv O Wn :=
  ⟨(hk.block hb h.lt (hP _ (.inl rfl))).trans h.box, row_keptG h.out hk (fun g e => hP g (.inr (.inl e))), row_keptG h.want hk (fun g e => hP g (.inr (.inr e))), h.ne⟩
theorem BkAt.later (h : BkAt w B hb ov wv O Wn) (hb' : Below w.heap.size w w') : BkAt w' B hb ov wv O Wn := h.kept (P := fun _ => False) (Kept.ofBelow hb') (fun _ _ h => h)
theorem BkAt.cells (h : BkAt w B hb ov wv O Wn) : w.cell? ⟨hb, 0, none⟩ = some ov ∧ w.cell? ⟨hb, 1, none⟩ = some wv ∧ ∀ i, w.frozen? ⟨hb, i, none⟩ = false := by
  simp [World.cell?, World.frozen?, h.box]
theorem BkAt.pushOut (h : BkAt w B hb ov wv O Wn) {o : Obj} {v2 : Value} {x : Pl} (ho : w2.ownsRow B 31 4 v2 (O ++ [x]).length (flatP (O ++ [x]))) (hg : (w.alloc o).grownBy w2 ov.ownBlock) (hv : v2.ownBlock = ov.ownBlock ∨ v2.ownBlock = some (w.alloc o).heap.size) :
    BkAt (w2.setCell ⟨hb, 0, none⟩ v2) B hb v2 wv (O ++ [x]) Wn ∧ Kept (BQ hb ov wv) w (w2.setCell ⟨hb, 0, none⟩ v2) ∧ w2.frozen? ⟨hb, 0, none⟩ = false ∧ w2.cell? ⟨hb, 0, none⟩ = some ov := by
  have ka : Kept (fun g => ov.ownBlock = some g) w w2 := (Kept.ofBelow ((Below.refl _ w).alloc (Nat.le_refl _) o)).trans (Kept.ofGrown hg (fun g e => e))
  have ks : Kept (fun g => g = hb) w2 (w2.setCell ⟨hb, 0, none⟩ v2) := Kept.setCell _ _ _ _ _ rfl
  have hbx := (ka.block hb h.lt h.no.1).trans h.box
  have nb : v2.ownBlock ≠ some hb := fun e => by
    obtain ⟨c, hc⟩ := row_typeG ho e
    rw [hbx] at hc
    simp at hc
  refine ⟨⟨(set_cells hbx 0 v2).1, row_keptG ho ks (fun g e e2 => nb (by rw [e, e2])), row_keptG (row_keptG h.want ka (fun g e e2 => h.ne g e2 e)) ks (fun g e e2 => h.no.2 (by rw [e, e2])), fun g e e2 => ?_⟩, (ka.mono (fun g _ e => .inr (.inl e))).trans (ks.mono (fun g _ e => .inl e)), by simp [World.frozen?, hbx], by simp [World.cell?, hbx]⟩
  rcases hv with hv | hv
  · exact h.ne g (by rw [← hv, e]) e2
  · rw [hv] at e
    have := (h.want.lt g e2).2
    simp at e
    omega
theorem BkAt.pushWant (h : BkAt w B hb ov wv O Wn) {o : Obj} {v2 : Value} {x : Pl} (ho : w2.ownsRow B 31 4 v2 (Wn ++ [x]).length (flatP (Wn ++ [x]))) (hg : (w.alloc o).grownBy w2 wv.ownBlock) (hv : v2.ownBlock = wv.ownBlock ∨ v2.ownBlock = some (w.alloc o).heap.size) :
    BkAt (w2.setCell ⟨hb, 1, none⟩ v2) B hb ov v2 O (Wn ++ [x]) ∧ Kept (BQ hb ov wv) w (w2.setCell ⟨hb, 1, none⟩ v2) ∧ w2.frozen? ⟨hb, 1, none⟩ = false ∧ w2.cell? ⟨hb, 1, none⟩ = some wv := by
  have ka : Kept (fun g => wv.ownBlock = some g) w w2 := (Kept.ofBelow ((Below.refl _ w).alloc (Nat.le_refl _) o)).trans (Kept.ofGrown hg (fun g e => e))
  have ks : Kept (fun g => g = hb) w2 (w2.setCell ⟨hb, 1, none⟩ v2) := Kept.setCell _ _ _ _ _ rfl
  have hbx := (ka.block hb h.lt h.no.2).trans h.box
  have nb : v2.ownBlock ≠ some hb := fun e => by
    obtain ⟨c, hc⟩ := row_typeG ho e
    rw [hbx] at hc
    simp at hc
  refine ⟨⟨(set_cells hbx 1 v2).1, row_keptG (row_keptG h.out ka (fun g e e2 => h.ne g e e2)) ks (fun g e e2 => h.no.1 (by rw [e, e2])), row_keptG ho ks (fun g e e2 => nb (by rw [e, e2])), fun g e e2 => ?_⟩, (ka.mono (fun g _ e => .inr (.inr e))).trans (ks.mono (fun g _ e => .inl e)), by simp [World.frozen?, hbx], by simp [World.cell?, hbx]⟩
  rcases hv with hv | hv
  · exact h.ne g e (by rw [← hv, e2])
  · rw [hv] at e2
    have := (h.out.lt g e).2
    simp at e2
    omega
/-- A play's cells in the book. -/
theorem row4_at {v : Value} {L : List Pl} (h : w.ownsRow B 31 4 v L.length (flatP L)) {i : Nat} {x : Pl} (hx : L[i]? = some x) : ∃ g c, v = .slice (some ⟨g, 0, none⟩) L.length c ∧ w.cell? ⟨g, i * 4, none⟩ = some (.int .i64 x.j) ∧ w.cell? ⟨g, i * 4 + 1, none⟩ = some (.int .i64 x.s) ∧ w.cell? ⟨g, i * 4 + 2, none⟩ = some (.int .i64 x.q) ∧ w.cell? ⟨g, i * 4 + 3, none⟩ = some x.sv := by
  have hl : 0 < L.length := by have := (List.getElem?_eq_some_iff.1 hx).1; omega
  rcases h.2 with ⟨_, h0⟩ | ⟨g, c, cur, rfl, _⟩
  · omega
  · have hc : ∀ k v, k < 4 → (plCells x)[k]? = some v → w.cell? ⟨g, i * 4 + k, none⟩ = some v := fun k v hk hv => by
      have := h.cells (g := g) rfl (i * 4 + k) v (flatP_at L i x hx k hk v hv)
      generalize i * 4 + k = n at this ⊢
      cases n with
      | zero => simpa [Addr.add] using this
      | succ n => simpa [Addr.add] using this
    exact ⟨g, c, rfl, hc 0 _ (by omega) rfl, hc 1 _ (by omega) rfl, hc 2 _ (by omega) rfl, hc 3 _ (by omega) rfl⟩
theorem row4_form {v : Value} {L : List Pl} (h : w.ownsRow B 31 4 v L.length (flatP L)) : ∃ a c, v = .slice a L.length c := by
  rcases h.2 with ⟨rfl, h0⟩ | ⟨g, cap, cur, rfl, _⟩
  · exact ⟨none, 0, by rw [h0]⟩
  · exact ⟨_, _, rfl⟩
end
end Go.Proofs.YteaccpolmmkclaaDoor

namespace Go.Proofs.YteaccpolmmkclaaDoor
open Go.RowKit

/-- What is kept and what is wanted are alike. -/
structure Agree (w : World) (O Wn : List Pl) : Prop where
  len : O.length = Wn.length
  all : ∀ (i : Nat) (x y : Pl), O[i]? = some x → Wn[i]? = some y → x.j = y.j ∧ x.s = y.s ∧ x.q = y.q ∧ PlayIn w x.sv x.l ∧ PlayIn w y.sv y.l ∧ x.l.map (·.p) = y.l.map (·.p)
theorem Agree.later {w w' : World} {O Wn : List Pl} (h : Agree w O Wn) (hb : Below w.heap.size w w') : Agree w' O Wn :=
  ⟨h.len, fun i x y hx hy => by
    obtain ⟨a, b, c, d, e, f⟩ := h.all i x y hx hy
    exact ⟨a, b, c, d.later hb, e.later hb, f⟩⟩
set_option maxHeartbeats 4000000 in
set_option maxRecDepth 1000000 in
theorem bholds_any (W : World) (B hb : Nat) (ov wv : Value) (O Wn : List Pl) (h : BkAt W B hb ov wv O Wn) (ha : Agree W O Wn) (hl : O.length ≤ 1000) :
    Calls Tryd.prog 20 #[.pointer (some ⟨hb, 0, none⟩)] W fun e w' => e = .returned (.bool true) ∧ Below W.heap.size W w' := by
  obtain ⟨ao, co, eo⟩ := row4_form h.out
  obtain ⟨aw, cw, ew⟩ := row4_form h.want
  rw [← ha.len] at ew
  subst eo ew
  have HB := hide h
  have HA := hide ha
  obtain ⟨N, hN⟩ : ∃ N, N = O.length := ⟨_, rfl⟩
  have HN := hide hN
  rw [← hN] at HB hl
  clear h ha hN
  go_enter Tryd.func20, Tryd.ntmps20
  go_wp2_with fail
  go_loopg [3] N (fun gk i wr => ∃ j : Nat, i = .int .i64 (j : Int) ∧ N - j ≤ gk ∧ j ≤ N ∧ Hid (Below W.heap.size W wr))
  case atStart => exact ⟨0, rfl, by omega, by omega, Below.refl _ _⟩
  case round =>
    obtain ⟨j, rfl, hgk, hj, HW⟩ := hrel
    have BK := hide (HB.out.later HW.out)
    obtain ⟨k0, k1, _⟩ := BK.out.cells
    by_cases hlt : j < N
    · have tlt : (j : Int) < (N : Int) := by omega
      obtain ⟨x, hx⟩ : ∃ x, O[j]? = some x := ⟨_, List.getElem?_eq_getElem (by have := HN.out; omega)⟩
      obtain ⟨y, hy⟩ : ∃ y, Wn[j]? = some y := ⟨_, List.getElem?_eq_getElem (by have := HN.out; have := HA.out.len; omega)⟩
      obtain ⟨e1, e2, e3, p1, p2, hm⟩ := HA.out.all j x y hx hy
      obtain ⟨g, c, ee1, m0, m1, m2, m3⟩ := row4_at BK.out.out hx
      obtain ⟨g', c', ee2, n0, n1, n2, n3⟩ := row4_at BK.out.want hy
      simp only [Value.slice.injEq] at ee1 ee2
      obtain ⟨rfl, q1, rfl⟩ := ee1
      obtain ⟨rfl, q2, rfl⟩ := ee2
      rw [← e1] at n0
      rw [← e2] at n1
      rw [← e3] at n2
      have CS : Hid (∀ X, Below wr.heap.size wr X → Calls Tryd.prog 9 #[.agg #[.int .i64 x.j, .int .i64 x.s, .int .i64 x.q, x.sv], .agg #[.int .i64 x.j, .int .i64 x.s, .int .i64 x.q, y.sv]] X fun e w' => e = .returned (.bool true) ∧ Below X.heap.size X w') := fun X hX => same_same X x.j x.s x.q x.sv y.sv x.l y.l ((p1.later HW.out).later hX) ((p2.later HW.out).later hX) hm
      clear q1 q2 hx hy e1 e2 e3 p1 p2 hm
      go_upto_region 4 with fail
      go_cut [4] from 14 to 28 (fun s4 wx => s4 = .bool true ∧ Hid (Below W.heap.size W wx))
      case first =>
        go_region_law (first
          | (go_simp
             go_at_call 9
             refine (CS.out _ (by first | exact (Below.refl _ wr).drew | exact Below.refl _ wr)).mono ?_
             rintro e w2 ⟨rfl, b2⟩
             have HB2 : Hid (Below W.heap.size W w2) := HW.out.trans ((show Below wr.heap.size wr w2 from ⟨b2.os, b2.tape, b2.output, b2.size, b2.block⟩).mono HW.out.size)
             clear b2))
        all_goals (
          go_wp2_with fail
          go_meet
          exact ⟨rfl, HB2⟩)
      case rest =>
        obtain ⟨rfl, HB2⟩ := hcut
        clear m0 m1 m2 m3 n0 n1 n2 n3 k0 k1
        go_wp2_with fail
        go_roundg (N - (j + 1))
        case measure => omega
        case rel => exact ⟨j + 1, by go_num, Nat.le_refl _, hlt, HB2⟩
    · have tlt : ¬ (j : Int) < (N : Int) := by omega
      go_wp2_with fail
      go_ret
      exact ⟨rfl, HW.out⟩
theorem SB.kept {P : Nat → Prop} {W w w' : World} {j s q : Int} {sv sv' : Value} (h : SB W w j s q sv sv') (hk : Kept P w w') (h1 : ∀ g, P g → g ≠ W.heap.size ∧ g ≠ W.heap.size + 1) (h0 : Below W.heap.size W w') : SB W w' j s q sv sv' :=
  ⟨(hk.block _ (Array.getElem?_eq_some_iff.1 h.b1).1 (fun e => (h1 _ e).1 rfl)).trans h.b1, (hk.block _ (Array.getElem?_eq_some_iff.1 h.b2).1 (fun e => (h1 _ e).2 rfl)).trans h.b2, h0⟩
/-- The boxes of keep stay, whatever the book's blocks become. -/
structure KpI (W w : World) (B hb : Nat) (ov wv ov' wv' : Value) (O Wn : List Pl) (j s q : Int) (sv sv' : Value) : Prop where
  b1 : w.heap[W.heap.size]? = some (.cells #[.int .i64 j, .int .i64 s, .int .i64 q, sv] 31 (0, 0))
  b2 : w.heap[W.heap.size + 1]? = some (.cells #[.int .i64 j, .int .i64 s, .int .i64 q, sv'] 31 (0, 0))
  bk : BkAt w B hb ov' wv' O Wn
  kept : Kept (BQ hb ov wv) W w
  o1 : ∀ g, ov'.ownBlock = some g → ov.ownBlock = some g ∨ W.heap.size + 2 ≤ g
  w1 : ∀ g, wv'.ownBlock = some g → wv.ownBlock = some g ∨ W.heap.size + 2 ≤ g
  lts : ∀ g, BQ hb ov wv g → g < W.heap.size
section
variable {W w w' w2 : World} {B hb : Nat} {ov wv ov' wv' : Value} {O Wn : List Pl} {j s q : Int} {sv sv' : Value}
theorem KpI.later (h : KpI W w B hb ov wv ov' wv' O Wn j s q sv sv') (hb' : Below w.heap.size w w') : KpI W w' B hb ov wv ov' wv' O Wn j s q sv sv' :=
  ⟨(hb'.block _ (Array.getElem?_eq_some_iff.1 h.b1).1).trans h.b1, (hb'.block _ (Array.getElem?_eq_some_iff.1 h.b2).1).trans h.b2, h.bk.later hb', h.kept.trans (Kept.ofBelow hb'), h.o1, h.w1, h.lts⟩
theorem KpI.big (h : KpI W w B hb ov wv ov' wv' O Wn j s q sv sv') : W.heap.size + 2 ≤ w.heap.size := by
  have := (Array.getElem?_eq_some_iff.1 h.b2).1
  omega
theorem KpI.bq (h : KpI W w B hb ov wv ov' wv' O Wn j s q sv sv') {g : Nat} (hg : BQ hb ov' wv' g) : BQ hb ov wv g ∨ W.heap.size + 2 ≤ g := by
  rcases hg with e | e | e
  · exact .inl (.inl e)
  · rcases h.o1 g e with e | e
    · exact .inl (.inr (.inl e))
    · exact .inr e
  · rcases h.w1 g e with e | e
    · exact .inl (.inr (.inr e))
    · exact .inr e
theorem KpI.next (h : KpI W w B hb ov wv ov' wv' O Wn j s q sv sv') (k : Kept (BQ hb ov' wv') w w') :
    w'.heap[W.heap.size]? = some (.cells #[.int .i64 j, .int .i64 s, .int .i64 q, sv] 31 (0, 0)) ∧ w'.heap[W.heap.size + 1]? = some (.cells #[.int .i64 j, .int .i64 s, .int .i64 q, sv'] 31 (0, 0)) ∧ Kept (BQ hb ov wv) W w' := by
  have n : ∀ g, BQ hb ov' wv' g → g ≠ W.heap.size ∧ g ≠ W.heap.size + 1 := fun g e => by
    rcases h.bq e with e | e
    · have := h.lts g e; omega
    · omega
  exact ⟨(k.block _ (Array.getElem?_eq_some_iff.1 h.b1).1 (fun e => (n _ e).1 rfl)).trans h.b1, (k.block _ (Array.getElem?_eq_some_iff.1 h.b2).1 (fun e => (n _ e).2 rfl)).trans h.b2, h.kept.step k (fun g hg e => by
    rcases h.bq e with e | e
    · exact e
    · omega)⟩
theorem KpI.pushOut (h : KpI W w B hb ov wv ov' wv' O Wn j s q sv sv') {o : Obj} {v2 : Value} {x : Pl} (ho : w2.ownsRow B 31 4 v2 (O ++ [x]).length (flatP (O ++ [x]))) (hg : (w.alloc o).grownBy w2 ov'.ownBlock) (hv : v2.ownBlock = ov'.ownBlock ∨ v2.ownBlock = some (w.alloc o).heap.size) :
    KpI W (w2.setCell ⟨hb, 0, none⟩ v2) B hb ov wv v2 wv' (O ++ [x]) Wn j s q sv sv' ∧ w2.frozen? ⟨hb, 0, none⟩ = false ∧ w2.cell? ⟨hb, 0, none⟩ = some ov' := by
  obtain ⟨p1, p2, p3, p4⟩ := h.bk.pushOut ho hg hv
  obtain ⟨n1, n2, n3⟩ := h.next p2
  refine ⟨⟨n1, n2, p1, n3, fun g e => ?_, h.w1, h.lts⟩, p3, p4⟩
  rcases hv with hv | hv
  · exact h.o1 g (by rw [← hv, e])
  · rw [hv] at e
    have := h.big
    simp at e
    exact .inr (by omega)
theorem KpI.pushWant (h : KpI W w B hb ov wv ov' wv' O Wn j s q sv sv') {o : Obj} {v2 : Value} {x : Pl} (ho : w2.ownsRow B 31 4 v2 (Wn ++ [x]).length (flatP (Wn ++ [x]))) (hg : (w.alloc o).grownBy w2 wv'.ownBlock) (hv : v2.ownBlock = wv'.ownBlock ∨ v2.ownBlock = some (w.alloc o).heap.size) :
    KpI W (w2.setCell ⟨hb, 1, none⟩ v2) B hb ov wv ov' v2 O (Wn ++ [x]) j s q sv sv' ∧ w2.frozen? ⟨hb, 1, none⟩ = false ∧ w2.cell? ⟨hb, 1, none⟩ = some wv' := by
  obtain ⟨p1, p2, p3, p4⟩ := h.bk.pushWant ho hg hv
  obtain ⟨n1, n2, n3⟩ := h.next p2
  refine ⟨⟨n1, n2, p1, n3, h.o1, fun g e => ?_, h.lts⟩, p3, p4⟩
  rcases hv with hv | hv
  · exact h.w1 g (by rw [← hv, e])
  · rw [hv] at e
    have := h.big
    simp at e
    exact .inr (by omega)
theorem KpI.cells (h : KpI W w B hb ov wv ov' wv' O Wn j s q sv sv') : (w.cell? ⟨W.heap.size, 0, none⟩ = some (.int .i64 j) ∧ w.cell? ⟨W.heap.size, 1, none⟩ = some (.int .i64 s) ∧ w.cell? ⟨W.heap.size, 2, none⟩ = some (.int .i64 q) ∧ w.cell? ⟨W.heap.size, 3, none⟩ = some sv) ∧ (w.cell? ⟨W.heap.size + 1, 0, none⟩ = some (.int .i64 j) ∧ w.cell? ⟨W.heap.size + 1, 1, none⟩ = some (.int .i64 s) ∧ w.cell? ⟨W.heap.size + 1, 2, none⟩ = some (.int .i64 q) ∧ w.cell? ⟨W.heap.size + 1, 3, none⟩ = some sv') ∧ w.cell? ⟨hb, 0, none⟩ = some ov' ∧ w.cell? ⟨hb, 1, none⟩ = some wv' ∧ w.frozen? ⟨hb, 0, none⟩ = false ∧ w.frozen? ⟨hb, 1, none⟩ = false := by
  simp [World.cell?, World.frozen?, h.b1, h.b2, h.bk.box]
end
theorem kp_start {W : World} {B hb : Nat} {ov wv : Value} {O Wn : List Pl} (h : BkAt W B hb ov wv O Wn) (j s q : Int) (sv sv' : Value) : KpI W ((W.alloc (.cells #[.int .i64 j, .int .i64 s, .int .i64 q, sv] 31)).alloc (.cells #[.int .i64 j, .int .i64 s, .int .i64 q, sv'] 31)) B hb ov wv ov wv O Wn j s q sv sv' := by
  have hs := sb_start W j s q sv sv'
  exact ⟨hs.b1, hs.b2, h.later hs.low, Kept.ofBelow hs.low, fun g e => .inl e, fun g e => .inl e, fun g e => h.lts e⟩
end Go.Proofs.YteaccpolmmkclaaDoor

namespace Go.Proofs.YteaccpolmmkclaaDoor
open Go.RowKit

theorem StepsAt.keptT {P : Nat → Prop} {w w' : World} {B : Nat} {sv : Value} {l : List Sq} (h : StepsAt w B sv l) (hk : Kept P w w') (hP : ∀ g cur t, P g → w.heap[g]? = some (.cells cur t (0, 0)) → t ≠ 40 ∧ t ≠ 5 ∧ t ≠ 3) : StepsAt w' B sv l := by
  refine h.kept hk (fun g hg hp => ?_) (fun q hq => ⟨fun g hg hp => ?_, fun g hg hp => ?_⟩)
  · obtain ⟨cur, hc⟩ := row5_type h.1 hg
    exact (hP g cur _ hp hc).1 rfl
  · obtain ⟨cur, hc⟩ := row_of_type (h.2 q hq).1 hg
    exact (hP g cur _ hp hc).2.1 rfl
  · obtain ⟨cur, hc⟩ := row_of_type (h.2 q hq).2 hg
    exact (hP g cur _ hp hc).2.2 rfl
theorem BkAt.steps {w w' : World} {B hb : Nat} {ov wv : Value} {O Wn : List Pl} (h : BkAt w B hb ov wv O Wn) (hk : Kept (BQ hb ov wv) w w') {B' : Nat} {sv : Value} {l : List Sq} (hs : StepsAt w B' sv l) : StepsAt w' B' sv l :=
  hs.keptT hk (fun g cur t hp hc => by
    obtain ⟨c2, t2, h2, h3⟩ := h.typ hp
    rw [hc] at h2
    simp only [Option.some.injEq, Obj.cells.injEq] at h2
    rw [h2.2.1]
    rcases h3 with rfl | rfl <;> decide)
theorem StepsAt.later {w w' : World} {B : Nat} {sv : Value} {l : List Sq} (h : StepsAt w B sv l) (hb : Below w.heap.size w w') : StepsAt w' B sv l := h.kept (P := fun _ => False) (Kept.ofBelow hb) (fun _ _ h => h) (fun _ _ => ⟨fun _ _ h => h, fun _ _ h => h⟩)
theorem play_one4 {x : Pl} {a : Option Addr} {n c : Nat} (h : x.sv = .slice a n c) : ∀ u ∈ flatP [x], u.oneCell' = true := by
  intro u hu
  simp [flatP, plCells, h] at hu
  rcases hu with rfl | rfl | rfl | rfl <;> rfl
theorem OwnedAt.steps {w : World} {B : Nat} {ov : Value} {o : List Sq} (h : OwnedAt w B ov o) : StepsAt w B ov o ∧ ApartS o := by
  refine ⟨⟨h.1, fun q hq => ?_⟩, fun i j x y hx hy hij => ?_⟩
  · obtain ⟨i, hi⟩ := List.getElem?_of_mem hq
    exact ⟨by have := (h.2.d i q hi); simp at this; exact this.own, by have := (h.2.k i q hi); simp at this; exact this.own⟩
  · obtain ⟨h1, h2⟩ := h.2.apart i j x y hx hy hij
    exact ⟨fun g e e2 => h1 (by rw [e, e2]), fun g e e2 => h2 (by rw [e, e2])⟩
theorem OwnedAt.kept {P : Nat → Prop} {w w' : World} {B : Nat} {ov : Value} {o : List Sq} (h : OwnedAt w B ov o) (hk : Kept P w w') (hP : ∀ g cur t, P g → w.heap[g]? = some (.cells cur t (0, 0)) → t ≠ 40 ∧ t ≠ 5 ∧ t ≠ 3) : OwnedAt w' B ov o := by
  refine ⟨row_keptG h.1 hk (fun g hg hp => ?_), h.2.keptT hk (fun g cur hp hc => (hP g cur _ hp hc).2.1 rfl) (fun g cur hp hc => (hP g cur _ hp hc).2.2 rfl)⟩
  obtain ⟨cur, hc⟩ := row_typeG h.1 hg
  exact (hP g cur _ hp hc).1 rfl
theorem OwnedAt.mono {w : World} {B B' : Nat} {ov : Value} {o : List Sq} (h : OwnedAt w B ov o) (hB : B' ≤ B) : OwnedAt w B' ov o := by
  refine ⟨⟨h.1.1, ?_⟩, fun i x hx => ?_, fun i x hx => ?_, h.2.apart⟩
  · rcases h.1.2 with h0 | ⟨g, cap, cur, hv, hb, rest⟩
    · exact .inl h0
    · exact .inr ⟨g, cap, cur, hv, Nat.le_trans hB hb, rest⟩
  · obtain ⟨g, c, e, ho⟩ := h.2.d i x hx
    exact ⟨g, c, e, ho.mono hB⟩
  · obtain ⟨g, c, e, ho⟩ := h.2.k i x hx
    exact ⟨g, c, e, ho.mono hB⟩
theorem BkAt.owned {w w' : World} {B hb : Nat} {ov wv : Value} {O Wn : List Pl} (h : BkAt w B hb ov wv O Wn) (hk : Kept (BQ hb ov wv) w w') {B' : Nat} {sv : Value} {l : List Sq} (hs : OwnedAt w B' sv l) : OwnedAt w' B' sv l :=
  hs.kept hk (fun g cur t hp hc => by
    obtain ⟨c2, t2, h2, h3⟩ := h.typ hp
    rw [hc] at h2
    simp only [Option.some.injEq, Obj.cells.injEq] at h2
    rw [h2.2.1]
    rcases h3 with rfl | rfl <;> decide)
/-- What keep leaves. -/
def KeepBP (W : World) (B hb : Nat) (ov wv : Value) (O Wn : List Pl) (p : Pl) (e : Ending) (w' : World) : Prop :=
  e = .returned (.bool true) ∧ ∃ ov' wv' owv o, BkAt w' B hb ov' wv' (O ++ [p]) (Wn ++ [⟨p.j, p.s, p.q, owv, o⟩]) ∧ StepsAt w' W.heap.size owv o ∧ ApartS o ∧ o.map (·.p) = p.l.map (·.p) ∧ Kept (BQ hb ov wv) W w' ∧ (∀ g, ov'.ownBlock = some g → ov.ownBlock = some g ∨ W.heap.size ≤ g) ∧ ∀ g, wv'.ownBlock = some g → wv.ownBlock = some g ∨ W.heap.size ≤ g
set_option maxHeartbeats 4000000 in
set_option maxRecDepth 1000000 in
theorem bkeep_any (W : World) (B hb : Nat) (ov wv : Value) (O Wn : List Pl) (h : BkAt W B hb ov wv O Wn) (hB : B ≤ W.heap.size) (hO : O.length ≤ 1000) (hW : Wn.length ≤ 1000) (j s q : Int) (a a' : Option Addr) (c c' : Nat) (l l' : List Sq) (B1 B2 : Nat) (h1 : StepsAt W B1 (.slice a l.length c) l) (h2 : StepsAt W B2 (.slice a' l.length c') l') (hm : l.map (·.p) = l'.map (·.p)) (hs : SmallP l') (h4 : l.length ≤ 4000) :
    Calls Tryd.prog 7 #[.pointer (some ⟨hb, 0, none⟩), .agg #[.int .i64 j, .int .i64 s, .int .i64 q, .slice a l.length c], .agg #[.int .i64 j, .int .i64 s, .int .i64 q, .slice a' l.length c']] W (KeepBP W B hb ov wv O Wn ⟨j, s, q, .slice a l.length c, l⟩) := by
  have hll : l'.length = l.length := by have := congrArg List.length hm; simpa using this.symm
  have K0 := hide (kp_start h j s q (.slice a l.length c) (.slice a' l.length c'))
  obtain ⟨ao, co, eo⟩ := row4_form h.out
  obtain ⟨aw, cw, ew⟩ := row4_form h.want
  have HBW := hide h
  have HS := hide (And.intro h1 (And.intro h2 hm))
  have HSM := hide hs
  have HLL := hide hll
  have HBB := hide hB
  have HEO := hide (And.intro eo ew)
  have HST : Hid (∀ X, Kept (BQ hb ov wv) W X → StepsAt X B1 (.slice a l.length c) l ∧ StepsAt X B2 (.slice a' l.length c') l') := fun X k => ⟨HBW.out.steps k HS.out.1, HBW.out.steps k HS.out.2.1⟩
  obtain ⟨L, hL⟩ : ∃ L, L = l.length := ⟨_, rfl⟩
  have HL := hide hL
  rw [← hL] at K0 HST ⊢
  have HM := hide hm
  clear h h1 h2 hm hs hll hB eo ew hL HS
  generalize hw0 : (W.alloc (.cells #[.int .i64 j, .int .i64 s, .int .i64 q, .slice a L c] 31)).alloc (.cells #[.int .i64 j, .int .i64 s, .int .i64 q, .slice a' L c'] 31) = w0 at K0
  have HW0 := hide hw0
  clear hw0
  go_enter Tryd.func7, Tryd.ntmps7
  go_upto_region 1 with fail
  rw [HW0.out]
  clear HW0
  go_cut [6] from 7 to 16 (fun s6 wx => s6 = .bool false ∧ ∃ ov1, Hid (KpI W wx B hb ov wv ov1 wv (O ++ [⟨j, s, q, .slice a L c, l⟩]) Wn j s q (.slice a L c) (.slice a' L c')))
  case first =>
    obtain ⟨⟨c0, c1, c2, c3⟩, _, k0, _, f0, _⟩ := K0.out.cells
    have hz : B ≤ w0.heap.size := by have := K0.out.big; have := HBB.out; omega
    have k0a : (w0.alloc (.cells #[.int .i64 j, .int .i64 s, .int .i64 q, .slice a L c] 31)).cell? ⟨hb, 0, none⟩ = some ov := (K0.out.later ((Below.refl _ w0).alloc (Nat.le_refl _) _)).cells.2.2.1
    go_region_law (refine step_plays rfl (.tmp 11) (.tmp 13) rfl _ B ov O (by first | rfl | simp [Act.eval, Act.put]) (World.ownsRow.alloc K0.out.bk.out _) (some ⟨w0.heap.size, 0, none⟩) 1 ⟨j, s, q, .slice a L c, l⟩ (by first | rfl | simp [Act.eval, Act.put]) (src_play w0 ⟨j, s, q, .slice a L c, l⟩) (play_one4 rfl) (by omega) (by show B ≤ (w0.alloc _).heap.size; rw [World.size_alloc]; omega) ?_
                   intro v2 w2 ho2 hg2 hv2
                   obtain ⟨a2, c2', e2⟩ := row4_form ho2
                   rw [List.length_append] at e2
                   simp only [List.length_cons, List.length_nil, Nat.zero_add] at e2
                   subst e2
                   obtain ⟨KP, f2, c22⟩ := K0.out.pushOut ho2 (grown_of_drew hg2) hv2
                   have KP2 := hide KP
                   clear KP ho2 hg2 hv2)
    all_goals (
      go_wp2_with fail
      go_meet
      exact ⟨rfl, _, KP2⟩)
  case rest =>
    obtain ⟨rfl, ov1, K1⟩ := hcut
    obtain ⟨_, ⟨c0, c1, c2, c3⟩, _, k1, _, f1⟩ := K1.out.cells
    have CO : Hid (∀ X, Below wc.heap.size wc X → Calls Tryd.prog 19 #[.agg #[.int .i64 j, .int .i64 s, .int .i64 q, .slice a' L c']] X fun e w' => Below X.heap.size X w' ∧ ∃ owv o, e = .returned (.agg #[.int .i64 j, .int .i64 s, .int .i64 q, owv]) ∧ OwnedAt w' X.heap.size owv o ∧ o.map (·.p) = l'.map (·.p)) := fun X hX => by
      have := owned_any X j s q a' c' l' (by rw [HLL.out, ← HL.out]; exact steps_in ((HST.out wc K1.out.kept).2.later hX) (by rw [HLL.out]; exact h4)) HSM.out
      rw [HLL.out, ← HL.out] at this
      exact this
    go_upto_region 2 with fail
    go_cut [6] from 17 to 27 (fun s6 wx => s6 = .bool false ∧ ∃ wv1 owv o, Hid (KpI W wx B hb ov wv ov1 wv1 (O ++ [⟨j, s, q, .slice a L c, l⟩]) (Wn ++ [⟨j, s, q, owv, o⟩]) j s q (.slice a L c) (.slice a' L c')) ∧ Hid (OwnedAt wx W.heap.size owv o) ∧ Hid (o.map (·.p) = l'.map (·.p)))
    case first =>
      have hz : B ≤ wc.heap.size := by have := K1.out.big; have := HBB.out; omega
      go_region_law (first
        | (go_simp
           go_at_call 19
           refine (CO.out _ (by first | exact (Below.refl _ wc).drew | exact Below.refl _ wc)).mono ?_
           rintro e w3 ⟨b3, owv, o, rfl, ho3, hm3⟩
           obtain ⟨va, vc, eva⟩ := row5_form ho3.1
           subst eva
           have B3 : Hid (Below wc.heap.size wc w3) := ⟨b3.os, b3.tape, b3.output, b3.size, b3.block⟩
           have K3 := hide (K1.out.later B3.out)
           have O3 : Hid (OwnedAt w3 wc.heap.size (.slice va o.length vc) o ∧ o.map (·.p) = l'.map (·.p)) := ⟨ho3, hm3⟩
           have hz3 := B3.out.size
           have k13 := K3.out.cells.2.2.2.1
           have k1a : (w3.alloc (.cells #[.int .i64 j, .int .i64 s, .int .i64 q, .slice va o.length vc] 31)).cell? ⟨hb, 1, none⟩ = some wv := (K3.out.later ((Below.refl _ w3).alloc (Nat.le_refl _) _)).cells.2.2.2.1
           clear b3 ho3 hm3)
        | (refine step_plays rfl (.tmp 21) (.tmp 24) rfl _ B wv Wn (by first | rfl | simp [Act.eval, Act.put]) (World.ownsRow.alloc K3.out.bk.want _) (some ⟨w3.heap.size, 0, none⟩) 1 ⟨j, s, q, .slice va o.length vc, o⟩ (by first | rfl | simp [Act.eval, Act.put]) (src_play w3 ⟨j, s, q, .slice va o.length vc, o⟩) (play_one4 rfl) (by omega) (by rw [World.size_alloc]; omega) ?_
           intro v4 w4 ho4 hg4 hv4
           obtain ⟨a4, c4', e4⟩ := row4_form ho4
           rw [List.length_append] at e4
           simp only [List.length_cons, List.length_nil, Nat.zero_add] at e4
           subst e4
           obtain ⟨KP, f4, c44⟩ := K3.out.pushWant ho4 hg4 hv4
           have KP4 := hide KP
           have O4 : Hid (OwnedAt (w4.setCell ⟨hb, 1, none⟩ (.slice a4 (Wn.length + 1) c4')) W.heap.size (.slice va o.length vc) o) := by
             exact K3.out.bk.owned (K3.out.bk.pushWant ho4 hg4 hv4).2.1 (O3.out.1.mono (by have := K1.out.big; omega))
           clear KP ho4 hg4 hv4))
      all_goals (
        go_wp2_with fail
        go_meet
        exact ⟨rfl, _, _, _, KP4, O4, O3.out.2⟩)
    case rest =>
      obtain ⟨rfl, wv1, owv, o, K2, O2, M2⟩ := hcut
      clear c0 c1 c2 c3 k1 f1 CO
      obtain ⟨⟨c0, c1, c2, c3⟩, ⟨d0, d1, d2, d3⟩, _⟩ := K2.out.cells
      have hst := HST.out wc K2.out.kept
      have CS := hide (same_same wc j s q (.slice a L c) (.slice a' L c') l l' (steps_in hst.1 h4) (steps_in hst.2 (by rw [HLL.out]; exact h4)) HM.out)
      clear hst
      go_wp2_with fail
      refine CS.out.mono ?_
      rintro e w5 ⟨rfl, b5⟩
      have K5 := hide (K2.out.later b5)
      have O5 := hide (O2.out.steps)
      have B5 := hide b5
      clear b5 c0 c1 c2 c3 d0 d1 d2 d3 CS
      go_wp2_with fail
      go_ret
      exact ⟨rfl, ov1, wv1, owv, o, K5.out.bk, O5.out.1.later B5.out, O5.out.2, M2.out.trans HM.out.symm, K5.out.kept, fun g e => (K5.out.o1 g e).imp id (fun h => by omega), fun g e => (K5.out.w1 g e).imp id (fun h => by omega)⟩
end Go.Proofs.YteaccpolmmkclaaDoor
