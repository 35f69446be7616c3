/-
  The laws' own comparisons, of plays that are alike.
-/
import Derived.Test.YteaccpolmmkclaaDoorPrintS
import Derived.BigQuiet
import Derived.Deep.QuietTactic
import Derived.Deep.RegionLaw
namespace Go.Proofs.YteaccpolmmkclaaDoor
open Go.RowKit

set_option maxHeartbeats 1000000 in
set_option maxRecDepth 1000000 in
theorem numbers_same (W : World) (a b : Option Addr) (c d : Nat) (l : List Int) (ha : IsInts W a c l) (hb : IsInts W b d l) :
    Calls Tryd.prog 40 #[.slice a l.length c, .slice b l.length d] W fun e w' => e = .returned (.bool true) ∧ Below W.heap.size W w' := by
  have HA := hide (And.intro ha hb)
  have hl : l.length ≤ 9223372036854775807 := by have := ha.2.1; unfold maxLen at this; omega
  clear ha hb
  go_enter Tryd.func40, Tryd.ntmps40
  go_wp2_with fail
  go_loopg [5] l.length (fun gk i wr => ∃ j : Nat, i = .int .i64 (j : Int) ∧ l.length - j ≤ gk ∧ j ≤ l.length ∧ Hid (Below W.heap.size W wr))
  case atStart => exact ⟨0, rfl, by omega, by omega, Below.refl _ _⟩
  case round =>
    obtain ⟨j, rfl, hgk, hj, HB⟩ := hrel
    by_cases hlt : j < l.length
    · have tlt : (j : Int) < (l.length : Int) := by omega
      obtain ⟨y, hy⟩ : ∃ y, l[j]? = some y := ⟨_, List.getElem?_eq_getElem hlt⟩
      rcases HA.out.1.2.2 with h0 | ⟨b1, o1, e1, hb1, hc1⟩
      · rw [h0] at hlt; simp at hlt
      rcases HA.out.2.2.2 with h0 | ⟨b2, o2, e2, hb2, hc2⟩
      · rw [h0] at hlt; simp at hlt
      subst e1 e2
      have y1 : wr.cell? ⟨b1, o1 + j, none⟩ = some (.int .i64 y) := (HB.out.cell (p := ⟨b1, o1 + j, none⟩) hb1).trans (hc1 j y hy)
      have y2 : wr.cell? ⟨b2, o2 + j, none⟩ = some (.int .i64 y) := (HB.out.cell (p := ⟨b2, o2 + j, none⟩) hb2).trans (hc2 j y hy)
      clear hc1 hc2 hy
      go_wp2_with fail
      go_quiet (fail)
      generalize hWd : wr.drewN _ = Wd
      have HB2 : Hid (Below W.heap.size W Wd) := HB.out.trans (by rw [← hWd]; exact ⟨rfl, rfl, rfl, Nat.le_refl _, fun _ _ => rfl⟩)
      clear hWd y1 y2
      go_wp2_with fail
      go_roundg (l.length - (j + 1))
      case measure => omega
      case rel => exact ⟨j + 1, by go_num, Nat.le_refl _, hlt, HB2⟩
    · have tlt : ¬ (j : Int) < (l.length : Int) := by omega
      go_wp2_with fail
      go_ret
      exact ⟨rfl, HB.out⟩
set_option maxHeartbeats 1000000 in
set_option maxRecDepth 1000000 in
theorem sameStep_same (W : World) (p : StepP) (dv kv dv' kv' : Value) (h1 : StepIn W p dv kv) (h2 : StepIn W p dv' kv') :
    Calls Tryd.prog 24 #[.agg #[.int .i64 p.kind, .int .i64 p.conn, dv, .int .i64 p.brk, kv], .agg #[.int .i64 p.kind, .int .i64 p.conn, dv', .int .i64 p.brk, kv']] W fun e w' => e = .returned (.bool true) ∧ Below W.heap.size W w' := by
  obtain ⟨⟨ad, cd, rfl, hd⟩, ak, ck, rfl, hk⟩ := h1
  obtain ⟨⟨ad', cd', rfl, hd'⟩, ak', ck', rfl, hk'⟩ := h2
  have B2 : Below W.heap.size W ((W.alloc (.cells #[.int .i64 p.kind, .int .i64 p.conn, .slice ad p.data.length cd, .int .i64 p.brk, .slice ak p.keep.length ck] 40)).alloc (.cells #[.int .i64 p.kind, .int .i64 p.conn, .slice ad' p.data.length cd', .int .i64 p.brk, .slice ak' p.keep.length ck'] 40)) := ((Below.refl _ W).alloc (Nat.le_refl _) _).alloc (by simp) _
  have CN := hide (numbers_same _ ak ak' ck ck' p.keep (hk.below B2) (hk'.below B2))
  obtain ⟨x1, x2⟩ : StepBox ((W.alloc (.cells #[.int .i64 p.kind, .int .i64 p.conn, .slice ad p.data.length cd, .int .i64 p.brk, .slice ak p.keep.length ck] 40)).alloc (.cells #[.int .i64 p.kind, .int .i64 p.conn, .slice ad' p.data.length cd', .int .i64 p.brk, .slice ak' p.keep.length ck'] 40)) W.heap.size p.kind p.conn p.brk (.slice ad p.data.length cd) (.slice ak p.keep.length ck) ∧ StepBox ((W.alloc (.cells #[.int .i64 p.kind, .int .i64 p.conn, .slice ad p.data.length cd, .int .i64 p.brk, .slice ak p.keep.length ck] 40)).alloc (.cells #[.int .i64 p.kind, .int .i64 p.conn, .slice ad' p.data.length cd', .int .i64 p.brk, .slice ak' p.keep.length ck'] 40)) (W.heap.size + 1) p.kind p.conn p.brk (.slice ad' p.data.length cd') (.slice ak' p.keep.length ck') := by
    have a1 := heap_alloc_new W (.cells #[.int .i64 p.kind, .int .i64 p.conn, .slice ad p.data.length cd, .int .i64 p.brk, .slice ak p.keep.length ck] 40)
    have a2 := heap_alloc_new (W.alloc (.cells #[.int .i64 p.kind, .int .i64 p.conn, .slice ad p.data.length cd, .int .i64 p.brk, .slice ak p.keep.length ck] 40)) (.cells #[.int .i64 p.kind, .int .i64 p.conn, .slice ad' p.data.length cd', .int .i64 p.brk, .slice ak' p.keep.length ck'] 40)
    rw [World.size_alloc] at a2
    exact ⟨(heap_alloc_old _ _ (by simp)).trans a1, a2⟩
  have HX := hide (And.intro x1 x2)
  have HD := hide (And.intro (hd.below B2) (hd'.below B2))
  have HB2 := hide B2
  clear hd hd' hk hk' B2 x1 x2
  go_enter Tryd.func24, Tryd.ntmps24
  go_wp2_with fail
  refine CN.out.mono ?_
  rintro e w1 ⟨rfl, b1⟩
  have x1 := HX.out.1.kept (P := fun _ => False) (Kept.ofBelow b1) (fun h => h)
  have x2 := HX.out.2.kept (P := fun _ => False) (Kept.ofBelow b1) (fun h => h)
  obtain ⟨s0, s1, s2, s3, s4, _⟩ := x1.cells
  obtain ⟨t0, t1, t2, t3, t4, _⟩ := x2.cells
  have kv1 := conv_is (HD.out.1.below b1) rfl
  have kv2 := conv_is (HD.out.2.below b1) rfl
  have HB3 := hide (HB2.out.trans (b1.mono HB2.out.size))
  clear b1 x1 x2
  go_wp2_with fail
  go_ret
  exact ⟨rfl, HB3.out⟩
/-- Two plays in their boxes. -/
structure SB (W w : World) (j s q : Int) (sv sv' : Value) : Prop where
  b1 : w.heap[W.heap.size]? = some (.cells #[.int .i64 j, .int .i64 s, .int .i64 q, sv] 31 (0, 0))
  b2 : w.heap[W.heap.size + 1]? = some (.cells #[.int .i64 j, .int .i64 s, .int .i64 q, sv'] 31 (0, 0))
  low : Below W.heap.size W w
theorem SB.later {W w w' : World} {j s q : Int} {sv sv' : Value} (h : SB W w j s q sv sv') (hb : Below w.heap.size w w') : SB W w' j s q sv sv' :=
  ⟨(hb.block _ (Array.getElem?_eq_some_iff.1 h.b1).1).trans h.b1, (hb.block _ (Array.getElem?_eq_some_iff.1 h.b2).1).trans h.b2, h.low.trans (hb.mono h.low.size)⟩
theorem SB.cells {W w : World} {j s q : Int} {sv sv' : Value} (h : SB W w j s q sv sv') : w.cell? ⟨W.heap.size, 0, none⟩ = some (.int .i64 j) ∧ w.cell? ⟨W.heap.size, 1, none⟩ = some (.int .i64 s) ∧ w.cell? ⟨W.heap.size, 2, none⟩ = some (.int .i64 q) ∧ w.cell? ⟨W.heap.size, 3, none⟩ = some sv ∧ w.cell? ⟨W.heap.size + 1, 0, none⟩ = some (.int .i64 j) ∧ w.cell? ⟨W.heap.size + 1, 1, none⟩ = some (.int .i64 s) ∧ w.cell? ⟨W.heap.size + 1, 2, none⟩ = some (.int .i64 q) ∧ w.cell? ⟨W.heap.size + 1, 3, none⟩ = some sv' := by
  simp [World.cell?, h.b1, h.b2]
theorem sb_start (W : World) (j s q : Int) (sv sv' : Value) : SB W ((W.alloc (.cells #[.int .i64 j, .int .i64 s, .int .i64 q, sv] 31)).alloc (.cells #[.int .i64 j, .int .i64 s, .int .i64 q, sv'] 31)) j s q sv sv' := by
  have a1 := heap_alloc_new W (.cells #[.int .i64 j, .int .i64 s, .int .i64 q, sv] 31)
  have a2 := heap_alloc_new (W.alloc (.cells #[.int .i64 j, .int .i64 s, .int .i64 q, sv] 31)) (.cells #[.int .i64 j, .int .i64 s, .int .i64 q, sv'] 31)
  rw [World.size_alloc] at a2
  exact ⟨(heap_alloc_old _ _ (by simp)).trans a1, a2, ((Below.refl _ W).alloc (Nat.le_refl _) _).alloc (by simp) _⟩
/-- A step's cells, in a world behind. -/
theorem PlayIn.at {D w : World} {a : Option Addr} {n c : Nat} {l : List Sq} (h : PlayIn D (.slice a n c) l) (hb : Below D.heap.size D w) {i : Nat} {x : Sq} (hx : l[i]? = some x) :
    ∃ b o, a = some ⟨b, o, none⟩ ∧ w.cell? ⟨b, o + i * 5, none⟩ = some (.int .i64 x.p.kind) ∧ w.cell? ⟨b, o + i * 5 + 1, none⟩ = some (.int .i64 x.p.conn) ∧ w.cell? ⟨b, o + i * 5 + 2, none⟩ = some x.dv ∧ w.cell? ⟨b, o + i * 5 + 3, none⟩ = some (.int .i64 x.p.brk) ∧ w.cell? ⟨b, o + i * 5 + 4, none⟩ = some x.kv ∧ StepIn w x.p x.dv x.kv := by
  obtain ⟨⟨a', c', e, hml, hcell⟩, hall⟩ := h
  cases e
  rcases hcell with h0 | ⟨b, o, e, hg, hcell⟩
  · rw [h0] at hx; simp at hx
  have hc : ∀ k v, k < 5 → (sqCells x)[k]? = some v → w.cell? ⟨b, o + i * 5 + k, none⟩ = some v := fun k v hk hv => by
    rw [Nat.add_assoc]
    exact (hb.cell (p := ⟨b, o + (i * 5 + k), none⟩) hg).trans (hcell _ v (flat_at l i x hx k hk v hv))
  exact ⟨b, o, e, hc 0 _ (by omega) rfl, hc 1 _ (by omega) rfl, hc 2 _ (by omega) rfl, hc 3 _ (by omega) rfl, hc 4 _ (by omega) rfl, (hall x (List.mem_of_getElem? hx)).later hb⟩
set_option maxHeartbeats 4000000 in
set_option maxRecDepth 1000000 in
theorem same_same (W : World) (j s q : Int) (sv sv' : Value) (l l' : List Sq) (h1 : PlayIn W sv l) (h2 : PlayIn W sv' l') (hm : l.map (·.p) = l'.map (·.p)) :
    Calls Tryd.prog 9 #[.agg #[.int .i64 j, .int .i64 s, .int .i64 q, sv], .agg #[.int .i64 j, .int .i64 s, .int .i64 q, sv']] W fun e w' => e = .returned (.bool true) ∧ Below W.heap.size W w' := by
  have hll : l'.length = l.length := by have := congrArg List.length hm; simpa using this.symm
  obtain ⟨a, c, rfl, hml, _⟩ := id h1.1
  obtain ⟨a', c', rfl, _, _⟩ := id h2.1
  rw [hll] at h2 ⊢
  have H0 := hide (sb_start W j s q (.slice a l.length c) (.slice a' l.length c'))
  have HP := hide (And.intro h1 (And.intro h2 hm))
  unfold maxLen at hml
  have HLL := hide hll
  clear h1 h2 hm hll
  go_enter Tryd.func9, Tryd.ntmps9
  go_wp2_with fail
  go_loopg [5] l.length (fun gk i wr => ∃ n : Nat, i = .int .i64 (n : Int) ∧ l.length - n ≤ gk ∧ n ≤ l.length ∧ Hid (SB W wr j s q (.slice a l.length c) (.slice a' l.length c')))
  case atStart => exact ⟨0, rfl, by omega, by omega, H0⟩
  case round =>
    obtain ⟨n, rfl, hgk, hn, HB⟩ := hrel
    obtain ⟨_, _, _, y1, _, _, _, y2⟩ := HB.out.cells
    by_cases hlt : n < l.length
    · have tlt : (n : Int) < (l.length : Int) := by omega
      obtain ⟨x, hx⟩ : ∃ x, l[n]? = some x := ⟨_, List.getElem?_eq_getElem hlt⟩
      obtain ⟨x', hx'⟩ : ∃ x', l'[n]? = some x' := ⟨_, List.getElem?_eq_getElem (by rw [HLL.out]; exact hlt)⟩
      have hpp : x.p = x'.p := by
        have := congrArg (·[n]?) HP.out.2.2
        simpa [hx, hx'] using this
      obtain ⟨b, o, e1, k0, k1, k2, k3, k4, hs1⟩ := HP.out.1.at HB.out.low hx
      obtain ⟨b', o', e2, m0, m1, m2, m3, m4, hs2⟩ := HP.out.2.1.at HB.out.low hx'
      subst e1 e2
      rw [← hpp] at m0 m1 m3 hs2
      have CS : Hid (∀ X, Below wr.heap.size wr X → Calls Tryd.prog 24 #[.agg #[.int .i64 x.p.kind, .int .i64 x.p.conn, x.dv, .int .i64 x.p.brk, x.kv], .agg #[.int .i64 x.p.kind, .int .i64 x.p.conn, x'.dv, .int .i64 x.p.brk, x'.kv]] X fun e w' => e = .returned (.bool true) ∧ Below X.heap.size X w') := fun X hX => sameStep_same X x.p x.dv x.kv x'.dv x'.kv (hs1.later hX) (hs2.later hX)
      clear hs1 hs2 hx hx' hpp
      go_wp2_with fail
      go_region_law (first
        | (go_simp
           go_at_call 24
           refine (CS.out _ (by first | exact (Below.refl _ wr).drew | exact Below.refl _ wr)).mono ?_
           rintro e w2 ⟨rfl, b2⟩
           have HB2 : Hid (SB W w2 j s q (.slice (some ⟨b, o, none⟩) l.length c) (.slice (some ⟨b', o', none⟩) l.length c')) := HB.out.later ⟨b2.os, b2.tape, b2.output, b2.size, b2.block⟩
           clear b2))
      all_goals (
        clear k0 k1 k2 k3 k4 m0 m1 m2 m3 m4 y1 y2
        go_wp2_with fail
        go_roundg (l.length - (n + 1))
        case measure => omega
        case rel => exact ⟨n + 1, by go_num, Nat.le_refl _, hlt, HB2⟩)
    · have tlt : ¬ (n : Int) < (l.length : Int) := by omega
      go_wp2_with fail
      go_ret
      exact ⟨rfl, HB.out.low⟩
end Go.Proofs.YteaccpolmmkclaaDoor
