/-
  The document's heap: Change, Push.
-/
import Derived.Test.YtkjjinccnaphpaaHRefC
import Derived.Test.YtkjjinccnaphpaaChangeT
namespace Go.Proofs.Ytkjjinccnaphpaa
open Go.RowKit

theorem thing_rowE {w : World} {rb cap : Nat} {cur : Array Value} {R : List (Int × Int × Int)} (hg : w.heap[rb]? = some (.cells cur 71 (0, 0))) (h1 : R.length ≤ cap) (h3 : cur.size = cap * 3) (h4 : cur.toList.take (R.length * 3) = flatT R) {i : Nat} {r0 : Int × Int × Int} (hi : R[i]? = some r0) (x : Int × Int) :
    (∃ cur', ((w.setCell ⟨rb, i * 3 + 1, none⟩ (.int .i64 x.1)).setCell ⟨rb, i * 3 + 2, none⟩ (.int .i64 x.2)).heap[rb]? = some (.cells cur' 71 (0, 0)) ∧ cur'.size = cap * 3 ∧ cur'.toList.take (R.length * 3) = flatT (R.set i (r0.1, x))) ∧
      w.grownBy ((w.setCell ⟨rb, i * 3 + 1, none⟩ (.int .i64 x.1)).setCell ⟨rb, i * 3 + 2, none⟩ (.int .i64 x.2)) (some rb) := by
  have hil := (List.getElem?_eq_some_iff.1 hi).1
  have hc0 : cur[i * 3]? = some (.int .i64 r0.1) := by
    have := flatT_get R i r0 hi 0 (by decide)
    rw [← h4, List.getElem?_take_of_lt (by omega), Array.getElem?_toList, Nat.add_zero] at this
    rw [this]; rfl
  obtain ⟨⟨cur', c1, c2, c3, c4⟩, c5⟩ := thing_cells hg i (by omega) (r0.1, x) hc0
  refine ⟨⟨cur', c1, c2.trans h3, ?_⟩, c5⟩
  refine List.ext_getElem? fun q => ?_
  by_cases hq : q < R.length * 3
  · rw [List.getElem?_take_of_lt hq, Array.getElem?_toList]
    obtain ⟨k, hk⟩ : ∃ k, k = q / 3 := ⟨_, rfl⟩
    obtain ⟨m, hm⟩ : ∃ m, m = q % 3 := ⟨_, rfl⟩
    have hqk : q = k * 3 + m := by omega
    have hmw : m < 3 := by omega
    by_cases hki : k = i
    · subst hki
      rw [hqk, c3 m hmw, flatT_get (R.set k (r0.1, x)) k (r0.1, x) (by simp [hil]) m hmw]
    · obtain ⟨rk, hrk⟩ : ∃ rk, R[k]? = some rk := ⟨_, List.getElem?_eq_getElem (by omega)⟩
      have h5 : (R.set i (r0.1, x))[k]? = some rk := by rw [List.getElem?_set_ne (fun e => hki e.symm)]; exact hrk
      rw [c4 q (by omega), hqk, flatT_get (R.set i (r0.1, x)) k rk h5 m hmw, ← flatT_get R k rk hrk m hmw, ← h4, List.getElem?_take_of_lt (by omega), Array.getElem?_toList]
  · rw [List.getElem?_eq_none (by simp; omega), List.getElem?_eq_none (by rw [flatT_length]; simp; omega)]


theorem RefH.setAt {w : World} {lo hb gr n c i : Nat} {way last : Int} {E : List RowI} {r : RowI} (h : RefH w lo hb (.slice (some ⟨gr, 0, none⟩) n c) way last E) (hr : E[i]? = some r) (x : Int × Int) :
    RefH ((w.setCell ⟨gr, i * 3 + 1, none⟩ (.int .i64 x.1)).setCell ⟨gr, i * 3 + 2, none⟩ (.int .i64 x.2)) lo hb (.slice (some ⟨gr, 0, none⟩) n c) way last (E.set i (r.1, x)) ∧ Kept (fun k => k = gr) w ((w.setCell ⟨gr, i * 3 + 1, none⟩ (.int .i64 x.1)).setCell ⟨gr, i * 3 + 2, none⟩ (.int .i64 x.2)) := by
  have hi := (List.getElem?_eq_some_iff.1 hr).1
  rcases h.row.2 with ⟨e, h0⟩ | ⟨g', cap, cur, e, hB, hg, hnc, hcm, hcs, ht⟩
  · omega
  simp only [Value.slice.injEq, Option.some.injEq, Addr.mk.injEq, and_true] at e
  obtain ⟨rfl, hn, rfl⟩ := e
  obtain ⟨⟨cur', p1, p2, p3⟩, p4⟩ := thing_rowE hg hnc hcs ht hr x
  have hne : hb ≠ gr := fun e => by
    have := h.box
    rw [e, hg] at this
    simp at this
  refine ⟨⟨(p4.block hb (Array.getElem?_eq_some_iff.1 h.box).1 (fun e => hne (Option.some.inj e))).trans h.box, ⟨by rw [flatT_length], .inr ⟨gr, c, cur', by rw [List.length_set, hn], hB, p1, by rw [List.length_set]; exact hnc, hcm, p2, by rw [List.length_set]; exact p3⟩⟩, h.low⟩, Kept.ofGrown p4 (fun k e => (Option.some.inj e).symm)⟩
set_option maxHeartbeats 4000000 in
set_option maxRecDepth 1000000 in
theorem hChange_any (w : World) (lo hb : Nat) (v : Value) (way last : Int) (E : List RowI) (t : Int) (x : Int × Int) (h : RefH w lo hb v way last E) (hE : E.length ≤ 1073741822) :
    Calls Try.prog 29 #[.pointer (some ⟨hb, 0, none⟩), .int .i64 t, valT x] w fun e w' => (∃ (i : Nat) (r : RowI), E[i]? = some r ∧ r.1 = t ∧ e = .returned (.bool true) ∧ WentH w lo hb v way last (E.set i (r.1, x)) w') ∨ ((∀ r ∈ E, r.1 ≠ t) ∧ e = .returned (.bool false) ∧ WentH w lo hb v way last E w') := by
  obtain ⟨x1, x2⟩ := x
  obtain ⟨W0, hW0⟩ : ∃ W0, W0 = w.alloc (.cells #[.int .i64 x1, .int .i64 x2] 27) := ⟨_, rfl⟩
  obtain ⟨B3, hB3⟩ : ∃ B3, B3 = w.heap.size := ⟨_, rfl⟩
  have B0 : Below w.heap.size w W0 := by rw [hW0]; exact (Below.refl _ w).alloc (Nat.le_refl _) _
  have q0 : W0.heap[B3]? = some (.cells #[.int .i64 x1, .int .i64 x2] 27 (0, 0)) := by rw [hW0, hB3]; exact heap_alloc_new w _
  have H0 : Hid (RefH w lo hb v way last E ∧ RefH W0 lo hb v way last E ∧ Below w.heap.size w W0) := ⟨h, h.below B0, B0⟩
  have y0 : W0.cell? ⟨B3, 0, none⟩ = some (.int .i64 x1) := by simp [World.cell?, q0]
  have y1 : W0.cell? ⟨B3, 1, none⟩ = some (.int .i64 x2) := by simp [World.cell?, q0]
  have l3 := (Array.getElem?_eq_some_iff.1 q0).1
  have CT : Hid (Calls Try.prog 42 #[.pointer (some ⟨hb, 0, none⟩), .int .i64 t] W0 fun e w' => ∃ p, e = .returned (.int .i64 p) ∧ PlaceOf E t p ∧ w' = W0) := hPlace_any W0 lo hb v way last E t H0.out.2.1 (by omega)
  have HW : Hid (W0 = w.alloc (.cells #[.int .i64 x1, .int .i64 x2] 27) ∧ B3 = w.heap.size) := ⟨hW0, hB3⟩
  clear hW0 hB3 B0 q0 h
  unfold valT
  go_enter Try.func29, Try.ntmps29
  go_upto_region 1 with fail
  rw [← HW.out.1, ← HW.out.2]
  clear HW
  go_wp2_with fail
  refine CT.out.mono ?_
  rintro e w1 ⟨b, rfl, hbest, b1⟩
  rw [b1]
  clear b1 CT w1
  rcases hbest with ⟨p, q, rfl, htop, hqt⟩ | ⟨rfl, hnil⟩
  · obtain ⟨q1, q2, q3⟩ := q
    have hqt : q1 = t := hqt
    have HT : Hid (E[p]? = some (q1, q2, q3) ∧ q1 = t) := ⟨htop, hqt⟩
    obtain ⟨a, c, rfl, hc⟩ := H0.out.2.1.form
    obtain ⟨c0, c1, c2, hl⟩ := H0.out.2.1.cells
    obtain ⟨gr, rfl, hg, cc⟩ := H0.out.2.1.cell htop
    have d1 := cc 1 _ rfl
    have d2 := cc 2 _ rfl
    have fz : ∀ j, W0.frozen? ⟨gr, j, none⟩ = false := by
      intro j
      rcases H0.out.2.1.row.2 with ⟨e, _⟩ | ⟨g', cap, cur, e, _, hgc, _⟩
      · cases e
      · simp only [Value.slice.injEq, Option.some.injEq, Addr.mk.injEq, and_true] at e
        obtain ⟨rfl, _, rfl⟩ := e
        simp [World.frozen?, hgc]
    have f1 := fz (p * 3 + 1)
    have f2 := fz (p * 3 + 2)
    have il : (p : Int) < (E.length : Int) := by have := (List.getElem?_eq_some_iff.1 htop).1; omega
    have FIN : Hid (WentH w lo hb (.slice (some ⟨gr, 0, none⟩) E.length c) way last (E.set p (q1, x1, x2)) ((W0.setCell ⟨gr, p * 3 + 1, none⟩ (.int .i64 x1)).setCell ⟨gr, p * 3 + 2, none⟩ (.int .i64 x2)).drew) := by
      obtain ⟨s1, s2⟩ := H0.out.2.1.setAt htop (x1, x2)
      exact ⟨_, s1.below (Below.refl _ _).drew, ((Kept.ofBelow H0.out.2.2).trans (s2.mono (fun k _ e => by rw [e]; exact .inr rfl))).trans (Kept.ofBelow (Below.refl _ _).drew), fun k hk => .inl hk⟩
    clear htop hqt fz cc c0 c1
    go_wp2_with fail
    go_region
    all_goals (
      go_wp2_with fail
      go_ret
      exact .inl ⟨p, (q1, q2, q3), HT.out.1, HT.out.2, rfl, FIN.out⟩)
  · have HN : Hid (∀ r ∈ E, r.1 ≠ t) := hnil
    clear hnil
    go_wp2_with fail
    go_ret
    exact .inr ⟨HN.out, rfl, WentH.stay H0.out.1 H0.out.2.2⟩
end Go.Proofs.Ytkjjinccnaphpaa
