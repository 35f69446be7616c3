/-
  Lst, Lwp.
-/
import Derived.Test.YtnpofjeiamjioaaLend
import Derived.Test.YtnpofjeiamjioaaDkA
import Derived.Test.YtnpofjeiamjioaaSameG
import Derived.BigQuiet
import Derived.Test.YtnpofjeiamjioaaHStore
import Derived.Deep.MidRow
namespace Go.Proofs.Ytnpofjeiamjioaa
open Go.RowKit

theorem lflat_at : ∀ (Q : List Ln) (j : Nat) (x : Ln), Q[j]? = some x → ∀ (k : Nat) u, k < 3 → x.cells[k]? = some u → ∀ t, (lflat Q ++ t)[j * 3 + k]? = some u := by
  intro Q
  induction Q with
  | nil => intro j x h; simp at h
  | cons a Q ih =>
    intro j x hx k u hk hu t
    show ((a.cells ++ lflat Q) ++ t)[_]? = _
    have ha : a.cells.length = 3 := by simp [Ln.cells]
    cases j with
    | zero =>
      obtain rfl : a = x := by simpa using hx
      rw [List.append_assoc, List.getElem?_append_left (by omega), Nat.zero_mul, Nat.zero_add]
      exact hu
    | succ j =>
      rw [List.append_assoc, List.getElem?_append_right (by omega), ha, show (j + 1) * 3 + k - 3 = j * 3 + k by omega]
      exact ih j x (by simpa using hx) k u hk hu t
theorem LentAt.raw {w : World} {B : Nat} {av dv : Value} {Q : List Ln} (h : LentAt w B av dv Q) (hf : ∀ x ∈ Q, rawFits x.r) :
    ∃ g c, av = .slice (some ⟨g, 0, none⟩) (Q.length + 1) c ∧ Q.length + 1 ≤ c ∧ c ≤ maxLen ∧ IsRaw w (some ⟨g, 0, none⟩) c (Q.map (·.r)) ∧ w.cell? ⟨g, Q.length * 3, none⟩ = some (.int .i64 (-7)) := by
  rcases h.ra.2 with ⟨_, h0⟩ | ⟨g, cap, cur, rfl, _, hg, hnc, hcm, _⟩
  · omega
  · have hc : ∀ k u, (lflat Q ++ [Value.int .i64 (-7), .slice none 0 0, .int .i64 0])[k]? = some u → w.cell? ⟨g, k, none⟩ = some u := fun k u hu => cell_at (h.ra.cells (g := g) rfl k u hu)
    refine ⟨g, cap, rfl, hnc, hcm, ⟨by rw [List.length_map]; omega, hcm, fun x hx => ?_, .inr ⟨g, 0, rfl, (Array.getElem?_eq_some_iff.1 hg).1, fun j x hj => ?_⟩⟩, ?_⟩
    · obtain ⟨p, hp, rfl⟩ := List.mem_map.1 hx
      exact hf p hp
    · rw [List.getElem?_map] at hj
      obtain ⟨p, hp, rfl⟩ := Option.map_eq_some_iff.1 hj
      have ho := h.own p (List.mem_of_getElem? hp)
      obtain ⟨a, c, e, hi⟩ := ho.shape
      simp only [Ln.dv, Value.slice.injEq] at e
      obtain ⟨rfl, _, rfl⟩ := e
      have at3 : ∀ k u, k < 3 → p.cells[k]? = some u → w.cell? ⟨g, 0 + j * 3 + k, none⟩ = some u := fun k u hk hu => by
        rw [show 0 + j * 3 + k = j * 3 + k by omega]
        exact hc _ u (lflat_at Q j p hp k u hk hu _)
      exact ⟨at3 0 _ (by omega) rfl, ⟨_, _, at3 1 _ (by omega) rfl, hi.cut⟩, at3 2 _ (by omega) rfl⟩
    · refine hc _ _ ?_
      rw [List.getElem?_append_right (by rw [lflat_length]; omega), lflat_length, Nat.sub_self]
      rfl
set_option maxHeartbeats 4000000 in
set_option maxRecDepth 1000000 in
theorem lstill_any (w : World) (B : Nat) (av dv : Value) (Q : List Ln) (a2 : Option Addr) (c2 : Nat) (R : List Rf) (h : LentAt w B av dv Q) (hQ : Q.map (·.r) = R) (h2 : IsRaw w a2 c2 R) :
    Calls Try.prog 38 #[.agg #[av, dv], .slice a2 R.length c2] w fun e w' => e = .returned (.bool true) ∧ Below w.heap.size w w' := by
  obtain ⟨N, hN⟩ : ∃ N, N = R.length := ⟨_, rfl⟩
  have hql : Q.length = N := by rw [hN, ← hQ, List.length_map]
  obtain ⟨g, c, rfl, hnc, hcm, hraw, h7⟩ := h.raw (fun x hx => h2.2.2.1 x.r (by rw [← hQ]; exact List.mem_map_of_mem hx))
  rw [hQ] at hraw
  rw [hql] at h h7 hnc ⊢
  obtain ⟨da, dc, rfl, hdm, hdn, hdr⟩ := row_shape h.rd
  rw [hql] at hdn hdr h ⊢
  have HN := hideR hN
  obtain ⟨w1, hw1⟩ : ∃ w1, w1 = w.alloc (.cells #[.slice (some ⟨g, 0, none⟩) (N + 1) c, .slice da N dc] 79) := ⟨_, rfl⟩
  have b1 : Below w.heap.size w w1 := by rw [hw1]; exact (Below.refl _ w).alloc (Nat.le_refl _) _
  have x1 : w1.heap[w.heap.size]? = some (.cells #[.slice (some ⟨g, 0, none⟩) (N + 1) c, .slice da N dc] 79 (0, 0)) := by rw [hw1]; exact heap_alloc_new w _
  obtain ⟨k0, k1⟩ : w1.cell? ⟨w.heap.size, 0, none⟩ = some (.slice (some ⟨g, 0, none⟩) (N + 1) c) ∧ w1.cell? ⟨w.heap.size, 1, none⟩ = some (.slice da N dc) := by simp [World.cell?, x1]
  have hgw := (h.ra.lt g rfl).2
  have h7' : w1.cell? ⟨g, N * 3, none⟩ = some (.int .i64 (-7)) := (b1.cell (p := ⟨g, N * 3, none⟩) hgw).trans h7
  have CS := hideR (sameFiles_yes (some ⟨g, 0, none⟩) a2 c c2 R w1 (hraw.below b1) (h2.below b1))
  have H := hideR (And.intro h (And.intro hQ (And.intro h2 (And.intro hdr hql))))
  have HW1 := hideR b1
  have hc9 : (c : Int) ≤ 9223372036854775807 := by unfold maxLen at hcm; omega
  have i0 : (0 : Int) ≤ (N : Int) := by omega
  have i1 : (N : Int) ≤ (c : Int) := by omega
  have i2 : (N : Int) ≤ ((N + 1 : Nat) : Int) := by omega
  have i3 : (N : Int) ≤ (N : Int) + 1 := by omega
  rw [← hN] at CS ⊢
  clear h hQ h2 hdr hql hraw h7 b1 x1 hN hcm hdm hnc hdn
  go_enter Try.func38, Try.ntmps38
  go_upto_region 2 with fail
  rw [← hw1]
  clear hw1
  go_upto_region 3 with (go_at_call 28
                         refine CS.out.mono ?_
                         rintro e w2 ⟨rfl, n2, hw2⟩
                         have hk0 : w2.cell? ⟨w.heap.size, 0, none⟩ = some (.slice (some ⟨g, 0, none⟩) (N + 1) c) := by rw [hw2]; exact k0
                         have hk1 : w2.cell? ⟨w.heap.size, 1, none⟩ = some (.slice da N dc) := by rw [hw2]; exact k1
                         have hk7 : w2.cell? ⟨g, N * 3, none⟩ = some (.int .i64 (-7)) := by rw [hw2]; exact h7'
                         have HW2 : HidR (Below w1.heap.size w1 w2) := ⟨by rw [hw2]; exact below_drewN (Below.refl _ w1) n2⟩
                         clear hw2 k0 k1 h7')
  go_wp2_with fail
  go_loopw [6] (fun i wr => ∃ k : Nat, k ≤ N ∧ i = .int .i64 k ∧ HidR (∃ m, wr = w2.drewN m)) (fun i _ => N - (RowKit.intOf i).toNat)
  case atStart => exact ⟨0, Nat.zero_le _, rfl, ⟨⟨0, rfl⟩⟩⟩
  case round =>
    obtain ⟨k, hk, rfl, HM⟩ := hrel
    have HB : HidR (Below w2.heap.size w2 wr) := ⟨by obtain ⟨m, hm⟩ := HM.out; rw [hm]; exact below_drewN (Below.refl _ w2) m⟩
    by_cases hlt : k < N
    · have hki : (k : Int) < (N : Int) := by omega
      obtain ⟨h, hQ, h2, hdr, hql⟩ := H.out
      have hbw : Below w.heap.size w wr := HW1.out.trans ((HW2.out.trans (HB.out.mono HW2.out.size)).mono HW1.out.size)
      obtain ⟨x, hx⟩ : ∃ x, R[k]? = some x := ⟨_, List.getElem?_eq_getElem (by have := HN.out; omega)⟩
      obtain ⟨b2, o2, rfl, hb2, q0, ⟨ya, yc, q1, qb⟩, q2⟩ := (h2.below hbw).at hx
      obtain ⟨y, hy⟩ : ∃ y, Q[k]? = some y := ⟨_, List.getElem?_eq_getElem (by omega)⟩
      have hyx : y.r = x := by
        have : (Q.map (·.r))[k]? = some y.r := by rw [List.getElem?_map, hy]; rfl
        rw [hQ, hx] at this
        simpa using this.symm
      obtain ⟨gd, rfl, egd, hcd⟩ := hdr (by omega)
      have m1 : wr.cell? ⟨gd, k, none⟩ = some y.dv := (hbw.cell (p := ⟨gd, k, none⟩) (h.rd.lt gd egd).2).trans (hcd k y.dv (by rw [List.getElem?_map, hy]; rfl))
      have hob := (h.own y (List.mem_of_getElem? hy)).below hbw
      have hib : IsBytes wr (some ⟨y.g, 0, none⟩) y.cap (x.data ++ marks 8) := by
        obtain ⟨a, c, e, hi⟩ := hob.shape
        simp only [Ln.dv, Value.slice.injEq] at e
        obtain ⟨rfl, _, rfl⟩ := e
        rw [hyx] at hi
        exact hi
      have I1 := hideR hib
      have I2 := hideR qb
      rw [show y.dv = .slice (some ⟨y.g, 0, none⟩) (x.data.length + 8) y.cap by rw [Ln.dv, hyx]] at m1
      have wk1 : wr.cell? ⟨w.heap.size, 1, none⟩ = some (.slice (some ⟨gd, 0, none⟩) N dc) := by obtain ⟨m, hm⟩ := HM.out; rw [hm]; exact hk1
      clear h hQ h2 hdr hbw hx hy hyx hcd hob hib qb q0 q2 hk0 hk1 hk7 egd hb2
      go_wp2_with fail
      go_quiet ((go_at_call 42; exact Calls.quiet_of (still_any _ _ _ _ x.data _ (I1.out.below (below_drewN (Below.refl _ wr) _)) (I2.out.below (below_drewN (Below.refl _ wr) _)))))
      go_wp2
      go_roundw
      case rel => exact ⟨k + 1, by omega, by go_num, ⟨by obtain ⟨m, hm⟩ := HM.out; exact ⟨m + nq, by rw [hm, World.drewN_drewN]⟩⟩⟩
      case measure => simp [RowKit.intOf]; omega
    · have hki : ¬ (k : Int) < (N : Int) := by omega
      go_wp2
      go_ret
      exact ⟨rfl, HW1.out.trans ((HW2.out.trans (HB.out.mono HW2.out.size)).mono HW1.out.size)⟩
end Go.Proofs.Ytnpofjeiamjioaa

namespace Go.Proofs.Ytnpofjeiamjioaa
open Go.RowKit

/-- What was lent, while it is written over. -/
structure WpAt (w : World) (B M : Nat) (ga : Nat) (dv : Value) (Q : List Ln) : Prop where
  ra : ∃ cur, w.heap[ga]? = some (.cells cur 62 (0, 0)) ∧ (Q.length + 1) * 3 ≤ cur.size
  rd : w.ownsRow B 37 1 dv Q.length (Q.map Ln.dv)
  own : ∀ x ∈ Q, ∃ bs : List UInt8, bs.length = x.r.data.length + 8 ∧ Own w B x.dv bs
  ap : ∀ (i j : Nat) x y, Q[i]? = some x → Q[j]? = some y → i ≠ j → x.g ≠ y.g
  lim : ∀ g, (g = ga ∨ dv.ownBlock = some g ∨ ∃ x ∈ Q, x.g = g) → B ≤ g ∧ g < M
section
variable {w w' : World} {B M ga : Nat} {dv : Value} {Q : List Ln}
theorem WpAt.kept (h : WpAt w B M ga dv Q) {K : Nat → Prop} (hk : Kept K w w') (hK : ∀ g, B ≤ g → g < M → ¬ K g) : WpAt w' B M ga dv Q := by
  obtain ⟨cur, hc, hs⟩ := h.ra
  have l := h.lim
  refine ⟨⟨cur, (hk.block ga (Array.getElem?_eq_some_iff.1 hc).1 (hK _ (l ga (.inl rfl)).1 (l ga (.inl rfl)).2)).trans hc, hs⟩, row_keptR h.rd hk (fun g e => hK g (l g (.inr (.inl e))).1 (l g (.inr (.inl e))).2), fun x hx => ?_, h.ap, l⟩
  obtain ⟨bs, hb, ho⟩ := h.own x hx
  refine ⟨bs, hb, Kept.own hk ho (fun g e => ?_)⟩
  simp only [Ln.dv, Value.ownBlock, Option.some.injEq] at e
  have := l g (.inr (.inr ⟨x, hx, e⟩))
  exact hK g this.1 this.2
theorem LentAt.wp {av : Value} (h : LentAt w B av dv Q) (hM : w.heap.size ≤ M) : ∃ ga ca, av = .slice (some ⟨ga, 0, none⟩) (Q.length + 1) ca ∧ Q.length + 1 ≤ ca ∧ ca ≤ maxLen ∧ WpAt w B M ga dv Q := by
  rcases h.ra.2 with ⟨_, h0⟩ | ⟨g, cap, cur, rfl, hB, hg, hnc, hcm, hcs, htk⟩
  · omega
  · refine ⟨g, cap, rfl, hnc, hcm, ⟨⟨cur, hg, by rw [hcs]; omega⟩, h.rd, fun x hx => ⟨_, by simp [marks], h.own x hx⟩, h.ap, fun j e => ?_⟩⟩
    rcases e with rfl | e | ⟨x, hx, rfl⟩
    · exact ⟨hB, Nat.lt_of_lt_of_le (Array.getElem?_eq_some_iff.1 hg).1 hM⟩
    · have := h.rd.lt j e; omega
    · have := (h.own x hx).lt x.g rfl; omega
theorem WpAt.setD (h : WpAt w B M ga dv Q) {k j : Nat} {y : Ln} (hy : Q[k]? = some y) : WpAt (w.setCell ⟨y.g, j, none⟩ (.int .u8 90)) B M ga dv Q := by
  obtain ⟨bs, hb, ho⟩ := h.own y (List.mem_of_getElem? hy)
  have hs := (Own.set (g := y.g) (m := y.r.data.length + 8) (cap := y.cap) ho j 90).1
  have hk : Kept (fun g => g = y.g) w (w.setCell ⟨y.g, j, none⟩ (.int .u8 90)) := Kept.setCell _ _ _ _ _ rfl
  obtain ⟨cur, hc, hsz⟩ := h.ra
  have n1 : ga ≠ y.g := fun e => by
    obtain ⟨c, hc2⟩ := row_typeR ho (g := y.g) rfl
    rw [← e] at hc2
    exact clashF hc hc2 (by decide)
  refine ⟨⟨cur, (hk.block ga (Array.getElem?_eq_some_iff.1 hc).1 n1).trans hc, hsz⟩, row_keptR h.rd hk (fun g e e2 => ?_), fun x hx => ?_, h.ap, h.lim⟩
  · obtain ⟨c, hc2⟩ := row_typeR ho (g := y.g) rfl
    obtain ⟨c3, hc3⟩ := row_typeR h.rd e
    rw [e2] at hc3
    exact clashF hc3 hc2 (by decide)
  · obtain ⟨i, hi⟩ := List.getElem?_of_mem hx
    by_cases hik : i = k
    · subst hik
      rw [hy] at hi
      cases hi
      exact ⟨bs.set j 90, by rw [List.length_set]; exact hb, hs⟩
    · obtain ⟨bx, hbx, hox⟩ := h.own x hx
      exact ⟨bx, hbx, Kept.own hk hox (fun g e e2 => by
        simp only [Ln.dv, Value.ownBlock, Option.some.injEq] at e
        exact h.ap i k x y hi hy hik (e.trans e2))⟩
theorem kept_setCells (b : Nat) : ∀ (vs : List Value) (o : Nat) (w : World), Kept (fun g => g = b) w (w.setCells b o vs) := by
  intro vs
  induction vs with
  | nil => intro o w; exact Kept.refl _ _
  | cons v vs ih => intro o w; exact (Kept.setCell (fun g => g = b) w b o v rfl).trans (ih (o + 1) _)
theorem block_setCells {t : TypeId} (b : Nat) : ∀ (vs : List Value) (o : Nat) (w : World) (cur : Array Value), w.heap[b]? = some (.cells cur t (0, 0)) → ∃ cur', (w.setCells b o vs).heap[b]? = some (.cells cur' t (0, 0)) ∧ cur'.size = cur.size := by
  intro vs
  induction vs with
  | nil => intro o w cur h; exact ⟨cur, h, rfl⟩
  | cons v vs ih =>
    intro o w cur h
    obtain ⟨c, h1, h2⟩ := ih (o + 1) _ _ (set_cells h o v).1
    exact ⟨c, h1, by rw [h2]; simp⟩
theorem WpAt.setA (h : WpAt w B M ga dv Q) (o : Nat) (vs : List Value) : WpAt (w.setCells ga o vs) B M ga dv Q := by
  obtain ⟨cur, hc, hsz⟩ := h.ra
  have hk := kept_setCells ga vs o w
  obtain ⟨c', h1, h2⟩ := block_setCells ga vs o w cur hc
  refine ⟨⟨c', h1, by omega⟩, row_keptR h.rd hk (fun g e e2 => ?_), fun x hx => ?_, h.ap, h.lim⟩
  · obtain ⟨c3, hc3⟩ := row_typeR h.rd e
    rw [e2] at hc3
    exact clashF hc3 hc (by decide)
  · obtain ⟨bs, hb, ho⟩ := h.own x hx
    refine ⟨bs, hb, Kept.own hk ho (fun g e e2 => ?_)⟩
    obtain ⟨c3, hc3⟩ := row_typeR ho e
    rw [e2] at hc3
    exact clashF hc3 hc (by decide)
theorem WpAt.there (h : WpAt w B M ga dv Q) {k : Nat} (hk : k ≤ Q.length) : w.there ga (k * 3) 3 := by
  obtain ⟨cur, hc, hsz⟩ := h.ra
  intro j hj
  constructor
  · have : k * 3 + j < cur.size := by have : k * 3 ≤ Q.length * 3 := Nat.mul_le_mul_right 3 hk; omega
    simp [World.cell?, hc, this]
  · simp [World.frozen?, hc]
end
theorem info_file3 : (Try.prog.info? 62).map (·.size) = some 3 := by kernel_rfl
set_option maxHeartbeats 4000000 in
set_option maxRecDepth 1000000 in
theorem wipe_any (w : World) (B M ga ca : Nat) (dv : Value) (Q : List Ln) (h : WpAt w B M ga dv Q) (hM : M ≤ w.heap.size) (hc1 : Q.length + 1 ≤ ca) (hc2 : ca ≤ maxLen) (hQ : Q.length ≤ 1048576) (hd : ∀ x ∈ Q, x.r.data.length ≤ 1073741823) :
    Calls Try.prog 39 #[.agg #[.slice (some ⟨ga, 0, none⟩) (Q.length + 1) ca, dv]] w fun e w' => e = .returned (.tuple #[]) ∧ Kept (fun g => B ≤ g ∧ g < M) w w' := by
  obtain ⟨N, hN⟩ : ∃ N, N = Q.length := ⟨_, rfl⟩
  obtain ⟨da, dc, rfl, _⟩ := row_shape h.rd
  rw [← hN] at h hc1 hQ ⊢
  have HN := hideR hN
  have HD := hideR hd
  have hcm : (ca : Int) ≤ 9223372036854775807 := by unfold maxLen at hc2; omega
  obtain ⟨w1, hw1⟩ : ∃ w1, w1 = w.alloc (.cells #[.slice (some ⟨ga, 0, none⟩) (N + 1) ca, .slice da N dc] 79) := ⟨_, rfl⟩
  have b1 : Below w.heap.size w w1 := by rw [hw1]; exact (Below.refl _ w).alloc (Nat.le_refl _) _
  have x1 : w1.heap[w.heap.size]? = some (.cells #[.slice (some ⟨ga, 0, none⟩) (N + 1) ca, .slice da N dc] 79 (0, 0)) := by rw [hw1]; exact heap_alloc_new w _
  have H1 := hideR (And.intro (h.kept (Kept.ofBelow (P := fun _ => False) b1) (fun _ _ _ e => e)) (And.intro x1 b1))
  clear h hN hd b1 x1 hc2
  go_enter Try.func39, Try.ntmps39
  go_wp2_with fail
  rw [← hw1]
  clear hw1
  go_loopg [2] N (fun gk s2 wr => ∃ i : Nat, s2 = .int .i64 (i : Int) ∧ N - i ≤ gk ∧ i ≤ N ∧ HidR (Kept (fun g => B ≤ g ∧ g < M) w1 wr ∧ WpAt wr B M ga (.slice da N dc) Q ∧ wr.heap[w.heap.size]? = some (.cells #[.slice (some ⟨ga, 0, none⟩) (N + 1) ca, .slice da N dc] 79 (0, 0))))
  case atStart => exact ⟨0, rfl, by omega, by omega, ⟨⟨Kept.refl _ _, H1.out.1, H1.out.2.1⟩⟩⟩
  case round =>
    obtain ⟨i, rfl, hgk, hi, HW⟩ := hrel
    obtain ⟨p0, p1⟩ : wr.cell? ⟨w.heap.size, 0, none⟩ = some (.slice (some ⟨ga, 0, none⟩) (N + 1) ca) ∧ wr.cell? ⟨w.heap.size, 1, none⟩ = some (.slice da N dc) := by simp [World.cell?, HW.out.2.2]
    by_cases hlt : i < N
    · have tlt : (i : Int) < (N : Int) := by omega
      obtain ⟨y, hy⟩ : ∃ y, Q[i]? = some y := ⟨_, List.getElem?_eq_getElem (by have := HN.out; omega)⟩
      have hdl := HD.out y (List.mem_of_getElem? hy)
      have HY := hideR hy
      obtain ⟨gd, hda, hgd⟩ : ∃ gd, da = some ⟨gd, 0, none⟩ ∧ ∀ W, WpAt W B M ga (.slice da N dc) Q → W.cell? ⟨gd, i, none⟩ = some (.slice (some ⟨y.g, 0, none⟩) (y.r.data.length + 8) y.cap) := by
        obtain ⟨a2, c2, e2, _, _, h2⟩ := row_shape HW.out.2.1.rd
        simp only [Value.slice.injEq] at e2
        obtain ⟨rfl, _, rfl⟩ := e2
        obtain ⟨gd, e3, _, _⟩ := h2 (by have := HN.out; omega)
        refine ⟨gd, e3, fun W hW => ?_⟩
        obtain ⟨a4, c4, e4, _, _, h4⟩ := row_shape hW.rd
        simp only [Value.slice.injEq] at e4
        obtain ⟨rfl, _, rfl⟩ := e4
        obtain ⟨g5, e5, _, h5⟩ := h4 (by have := HN.out; omega)
        rw [e3] at e5
        simp only [Option.some.injEq, Addr.mk.injEq, and_true] at e5
        subst e5
        exact h5 i y.dv (by rw [List.getElem?_map, hy]; rfl)
      subst hda
      have HG := hideR hgd
      obtain ⟨D, hD⟩ : ∃ D, D = y.r.data.length + 8 := ⟨_, rfl⟩
      rw [← hD] at HG
      have HDD := hideR hD
      have hDb : D ≤ 1073741831 := by omega
      clear hy hgd hD
      go_wp2_with fail
      clear p0 p1
      obtain ⟨wo, hwo⟩ : ∃ wo, wo = wr := ⟨_, rfl⟩
      rw [← hwo] at HW ⊢
      clear hwo
      clear wr
      go_loopg [3] D (fun gk s3 wr => ∃ j : Nat, s3 = .int .i64 (j : Int) ∧ D - j ≤ gk ∧ j ≤ D ∧ HidR (Kept (fun g => B ≤ g ∧ g < M) w1 wr ∧ WpAt wr B M ga (.slice (some ⟨gd, 0, none⟩) N dc) Q ∧ wr.heap[w.heap.size]? = some (.cells #[.slice (some ⟨ga, 0, none⟩) (N + 1) ca, .slice (some ⟨gd, 0, none⟩) N dc] 79 (0, 0))))
      case atStart => exact ⟨0, rfl, by omega, by omega, HW⟩
      case round =>
        clear HW
        obtain ⟨j, rfl, hgj, hj, HW⟩ := hrel
        have p1 : wr.cell? ⟨w.heap.size, 1, none⟩ = some (.slice (some ⟨gd, 0, none⟩) N dc) := by simp [World.cell?, HW.out.2.2]
        have p2 := HG.out wr HW.out.2.1
        by_cases hlt2 : j < D
        · have tlt2 : (j : Int) < (D : Int) := by omega
          obtain ⟨bs, hbl, hob⟩ := HW.out.2.1.own y (List.mem_of_getElem? HY.out)
          obtain ⟨x, hx⟩ : ∃ x, bs[j]? = some x := ⟨_, List.getElem?_eq_getElem (by have := HDD.out; omega)⟩
          have m0 := Own.cell (g := y.g) hob j x hx
          have m1 := Own.frozen (g := y.g) hob j
          have S2 := hideR (HW.out.2.1.setD HY.out (j := j))
          clear hx hob
          go_wp2_with fail
          go_roundg (D - (j + 1))
          case measure => omega
          case rel =>
            have hl := HW.out.2.1.lim y.g (.inr (.inr ⟨y, List.mem_of_getElem? HY.out, rfl⟩))
            exact ⟨j + 1, by go_num, Nat.le_refl _, hlt2, ⟨⟨HW.out.1.trans (Kept.setCell _ _ _ _ _ hl), S2.out, ((Kept.setCell (fun g => B ≤ g ∧ g < M) wr y.g j (.int .u8 90) hl).block _ (Array.getElem?_eq_some_iff.1 HW.out.2.2).1 (fun e => by have := e.2; omega)).trans HW.out.2.2⟩⟩⟩
        · have tlt2 : ¬ (j : Int) < (D : Int) := by omega
          have p0 : wr.cell? ⟨w.heap.size, 0, none⟩ = some (.slice (some ⟨ga, 0, none⟩) (N + 1) ca) := by simp [World.cell?, HW.out.2.2]
          have hth := HW.out.2.1.there (k := i) (by have := HN.out; omega)
          go_wp2_with (refine wpList_store_mid rfl 62 (.tmp 32) (.tmp 31) rfl ga (i * 3) #[.int .i64 (-9), .slice none 0 0, .int .i64 0] rfl rfl hth info_file3 (by simp [Value.oneCell']) ?_)
          go_roundg (N - (i + 1))
          case measure => omega
          case rel =>
            have hl := HW.out.2.1.lim ga (.inl rfl)
            have kk := (kept_setCells ga [.int .i64 (-9), .slice none 0 0, .int .i64 0] (i * 3) wr).mono (Q := fun g => B ≤ g ∧ g < M) (fun g _ e => e ▸ hl)
            exact ⟨i + 1, by go_num, Nat.le_refl _, hlt, ⟨⟨HW.out.1.trans kk, HW.out.2.1.setA _ _, (kk.block _ (Array.getElem?_eq_some_iff.1 HW.out.2.2).1 (fun e => by have := e.2; omega)).trans HW.out.2.2⟩⟩⟩
    · have tlt : ¬ (i : Int) < (N : Int) := by omega
      go_wp2_with fail
      go_end0
      exact ⟨rfl, (Kept.ofBelow H1.out.2.2).trans HW.out.1⟩
end Go.Proofs.Ytnpofjeiamjioaa
