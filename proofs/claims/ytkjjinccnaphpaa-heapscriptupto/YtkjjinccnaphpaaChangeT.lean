/-
  The walk of Change, of things.
-/
import Derived.Test.YtkjjinccnaphpaaPopsCT
namespace Go.Proofs.Ytkjjinccnaphpaa
open Go.RowKit

/-- A thing is made another one. -/
def changeL (lt : Int × Int → Int × Int → Bool) (R : List (Int × Int × Int)) (i : Nat) (r : Int × Int × Int) (n : Nat) : List (Int × Int × Int) × Nat := settleL lt (R.set i r) i n

theorem thing_cells {w : World} {rb : Nat} {cur : Array Value} {t : TypeId} (hg : w.heap[rb]? = some (.cells cur t (0, 0))) (i : Nat) (hi : i * 3 + 3 ≤ cur.size) (r : Int × Int × Int) (h0 : cur[i * 3]? = some (.int .i64 r.1)) :
    (∃ cur', ((w.setCell ⟨rb, i * 3 + 1, none⟩ (.int .i64 r.2.1)).setCell ⟨rb, i * 3 + 2, none⟩ (.int .i64 r.2.2)).heap[rb]? = some (.cells cur' t (0, 0)) ∧ cur'.size = cur.size ∧ (∀ m, m < 3 → cur'[i * 3 + m]? = (cellsT r)[m]?) ∧ ∀ q, q / 3 ≠ i → cur'[q]? = cur[q]?) ∧
      w.grownBy ((w.setCell ⟨rb, i * 3 + 1, none⟩ (.int .i64 r.2.1)).setCell ⟨rb, i * 3 + 2, none⟩ (.int .i64 r.2.2)) (some rb) := by
  have a1 := set_cells hg (i * 3 + 1) (.int .i64 r.2.1)
  have a2 := set_cells a1.1 (i * 3 + 2) (.int .i64 r.2.2)
  refine ⟨⟨_, a2.1, by simp, ?_, ?_⟩, grown_trans a1.2 a2.2⟩
  · intro m hm
    have hm3 : m = 0 ∨ m = 1 ∨ m = 2 := by omega
    rcases hm3 with rfl | rfl | rfl
    · rw [Nat.add_zero]
      simp [cellsT, h0]
    · simp [Array.getElem?_setIfInBounds, cellsT]
      omega
    · simp [Array.getElem?_setIfInBounds, cellsT]
      omega
  · intro q hq
    have n1 : i * 3 + 1 ≠ q := fun e => hq (by omega)
    have n2 : i * 3 + 2 ≠ q := fun e => hq (by omega)
    simp [n1, n2]

theorem thing_row {w : World} {rb cap : Nat} {cur : Array Value} {R : List (Int × Int × Int)} (hg : w.heap[rb]? = some (.cells cur 66 (0, 0))) (h1 : R.length ≤ cap) (h3 : cur.size = cap * 3) (h4 : cur.toList.take (R.length * 3) = flatT R) {i : Nat} {r0 : Int × Int × Int} (hi : R[i]? = some r0) (x : Int × Int) :
    (∃ cur', ((w.setCell ⟨rb, i * 3 + 1, none⟩ (.int .i64 x.1)).setCell ⟨rb, i * 3 + 2, none⟩ (.int .i64 x.2)).heap[rb]? = some (.cells cur' 66 (0, 0)) ∧ cur'.size = cap * 3 ∧ cur'.toList.take (R.length * 3) = flatT (R.set i (r0.1, x))) ∧
      w.grownBy ((w.setCell ⟨rb, i * 3 + 1, none⟩ (.int .i64 x.1)).setCell ⟨rb, i * 3 + 2, none⟩ (.int .i64 x.2)) (some rb) := by
  have hil := (List.getElem?_eq_some_iff.1 hi).1
  have hc0 : cur[i * 3]? = some (.int .i64 r0.1) := by
    have := flatT_get R i r0 hi 0 (by decide)
    rw [← h4, List.getElem?_take_of_lt (by omega), Array.getElem?_toList, Nat.add_zero] at this
    rw [this]; rfl
  obtain ⟨⟨cur', c1, c2, c3, c4⟩, c5⟩ := thing_cells hg i (by omega) (r0.1, x) hc0
  refine ⟨⟨cur', c1, c2.trans h3, ?_⟩, c5⟩
  refine List.ext_getElem? fun q => ?_
  by_cases hq : q < R.length * 3
  · rw [List.getElem?_take_of_lt hq, Array.getElem?_toList]
    obtain ⟨k, hk⟩ : ∃ k, k = q / 3 := ⟨_, rfl⟩
    obtain ⟨m, hm⟩ : ∃ m, m = q % 3 := ⟨_, rfl⟩
    have hqk : q = k * 3 + m := by omega
    have hmw : m < 3 := by omega
    by_cases hki : k = i
    · subst hki
      rw [hqk, c3 m hmw, flatT_get (R.set k (r0.1, x)) k (r0.1, x) (by simp [hil]) m hmw]
    · obtain ⟨rk, hrk⟩ : ∃ rk, R[k]? = some rk := ⟨_, List.getElem?_eq_getElem (by omega)⟩
      have h5 : (R.set i (r0.1, x))[k]? = some rk := by rw [List.getElem?_set_ne (fun e => hki e.symm)]; exact hrk
      rw [c4 q (by omega), hqk, flatT_get (R.set i (r0.1, x)) k rk h5 m hmw, ← flatT_get R k rk hrk m hmw, ← h4, List.getElem?_take_of_lt (by omega), Array.getElem?_toList]
  · rw [List.getElem?_eq_none (by simp; omega), List.getElem?_eq_none (by rw [flatT_length]; simp; omega)]

theorem Sits.set {α : Type} {g : Int → Option Int} {R : List (Int × α)} (h : Sits g R) {i : Nat} {r : Int × α} (hi : R[i]? = some r) (x : α) : Sits g (R.set i (r.1, x)) := by
  have hil := (List.getElem?_eq_some_iff.1 hi).1
  constructor
  · intro k y hk
    by_cases e : i = k
    · subst e
      rw [List.getElem?_set_self hil] at hk; cases hk
      exact h.1 i r hi
    · rw [List.getElem?_set_ne e] at hk
      exact h.1 k y hk
  · intro t v hv
    obtain ⟨k, y, rfl, hk, hy⟩ := h.2 t v hv
    by_cases e : i = k
    · subst e
      rw [hi] at hk; cases hk
      exact ⟨i, (r.1, x), rfl, List.getElem?_set_self hil, hy⟩
    · exact ⟨k, y, rfl, by rw [List.getElem?_set_ne e]; exact hk, hy⟩

set_option maxHeartbeats 4000000 in
set_option maxRecDepth 1000000 in
theorem changeT_no {f : FuncId} {caps : Array Value} (w : World) (hb mb : Nat) (v : Value) (last : Int) (R : List (Int × Int × Int)) (t : Int) (x : Int × Int) (h : HeapAtT w hb v mb f caps last R) (ht : (Lit.int .i64 t).wf = true) (hn : R.find? (fun r => r.1 = t) = none) :
    Calls Try.prog 28 #[.pointer (some ⟨hb, 0, none⟩), .int .i64 t, valT x] w fun e w' => e = .returned (.bool false) ∧ Below w.heap.size w w' := by
  obtain ⟨g, htab, hs⟩ := h.tab
  have hg : g t = none := by
    rcases hs.find t with ⟨h1, _⟩ | ⟨i, r, _, _, _, h4⟩
    · exact h1
    · rw [hn] at h4; cases h4
  have k2 : w.cell? ⟨hb, 2, none⟩ = some (.map (some mb)) := by simp [World.cell?, h.box]
  have hlt := cell_lt k2
  simp only [] at hlt
  have HT : Hid (Tab w mb R.length g) := htab
  have HG : Hid (g t = none) := hg
  clear h hs htab hg hn
  unfold valT
  go_enter Try.func28, Try.ntmps28
  go_wp2_with (at_lookup; refine wpList_look rfl _ _ rfl mb R.length g t rfl rfl (HT.out.block (heap_alloc_old w _ HT.out.lt)) ht ?_; rw [HG.out]; simp only [Option.isSome_none, Option.getD_none])
  go_ret
  exact ⟨rfl, (Below.refl _ w).alloc (Nat.le_refl _) _⟩

set_option maxHeartbeats 4000000 in
set_option maxRecDepth 1000000 in
theorem changeT {f : FuncId} {caps : Array Value} {lt : Int × Int → Int × Int → Bool} {ok : Int × Int → Prop} {Fr : Nat → Prop} {St : Nat → World → Prop} (A : AskerT f caps lt ok Fr St)
    (w : World) (hb mb : Nat) (v : Value) (last : Int) (R : List (Int × Int × Int)) (i n : Nat) (r : Int × Int × Int) (x : Int × Int) (h : HeapAtT w hb v mb f caps last R) (hi : R[i]? = some r) (hst : St n w) (hok : ∀ r ∈ R, ok r.2) (hx : ok x) (hfr : ∀ k, Mine hb v mb k → ¬ Fr k) (hR : R.length ≤ 1073741824) :
    Calls Try.prog 28 #[.pointer (some ⟨hb, 0, none⟩), .int .i64 r.1, valT x] w fun e w' => e = .returned (.bool true) ∧
      HeapAtT w' hb v mb f caps last (changeL lt R i (r.1, x) n).1 ∧ St (changeL lt R i (r.1, x) n).2 w' ∧ Kept (fun k => Mine hb v mb k ∨ Fr k) w w' := by
  have hil := (List.getElem?_eq_some_iff.1 hi).1
  have hwf := h.fit r (List.mem_of_getElem? hi)
  have kw2 : w.cell? ⟨hb, 2, none⟩ = some (.map (some mb)) := by simp [World.cell?, h.box]
  have hltw := cell_lt kw2
  simp only [] at hltw
  obtain ⟨w0, hw0⟩ : ∃ w0, w0 = w.alloc (.cells #[.int .i64 x.1, .int .i64 x.2] 27) := ⟨_, rfl⟩
  have hB0 : Below w.heap.size w w0 := by rw [hw0]; exact (Below.refl _ w).alloc (Nat.le_refl _) _
  have h0 : HeapAtT w0 hb v mb f caps last R := h.kept (Kept.ofBelow (P := fun _ => False) hB0) (fun _ _ h => h)
  obtain ⟨rb, cap, cur, rfl, hg, r1, r2, r3, r4⟩ := h0.shape hi
  obtain ⟨g, htab, hs⟩ := h0.tab
  have hgi := hs.1 i r hi
  obtain ⟨es, clock, hmap⟩ := htab.map
  have hhr : hb ≠ rb := fun e => by subst e; rw [h0.box] at hg; simp at hg
  have hmr : mb ≠ rb := fun e => by subst e; rw [hmap] at hg; simp at hg
  obtain ⟨⟨cur', p1, p2, p3⟩, p4⟩ := thing_row hg r1 r3 r4 hi x
  obtain ⟨wp, hwp⟩ : ∃ wp, wp = (w0.setCell ⟨rb, i * 3 + 1, none⟩ (.int .i64 x.1)).setCell ⟨rb, i * 3 + 2, none⟩ (.int .i64 x.2) := ⟨_, rfl⟩
  rw [← hwp] at p1 p4
  have hlen : (R.set i (r.1, x)).length = R.length := by simp
  have HP : Hid (HeapAtT wp hb (.slice (some ⟨rb, 0, none⟩) R.length cap) mb f caps last (R.set i (r.1, x))) :=
    ⟨(p4.block hb (Array.getElem?_eq_some_iff.1 h0.box).1 (fun e => hhr (Option.some.inj e))).trans h0.box, ⟨by rw [flatT_length], .inr ⟨rb, cap, cur', by rw [hlen], Nat.zero_le _, p1, by rw [hlen]; exact r1, r2, p2, by rw [hlen]; exact p3⟩⟩,
      ⟨g, by rw [hlen]; exact htab.block (p4.block mb htab.lt (fun e => hmr (Option.some.inj e))), hs.set hi x⟩, fun y hy => by
        rcases List.mem_or_eq_of_mem_set hy with hy | rfl
        · exact h0.fit y hy
        · exact hwf⟩
  have HKP : Hid (Kept (Mine hb (.slice (some ⟨rb, 0, none⟩) R.length cap) mb) w wp) := (Kept.ofBelow hB0).trans (Kept.ofGrown p4 (fun k e => .inr (.inl e)))
  have k1 : w0.cell? ⟨hb, 1, none⟩ = some (.slice (some ⟨rb, 0, none⟩) R.length cap) := by simp [World.cell?, h0.box]
  have k2 : w0.cell? ⟨hb, 2, none⟩ = some (.map (some mb)) := by simp [World.cell?, h0.box]
  have ca := row_cellT hg r4 hi
  have ca1 := ca 1 _ rfl
  have ca2 := ca 2 _ rfl
  have f1 : w0.frozen? ⟨rb, i * 3 + 1, none⟩ = false := by simp [World.frozen?, hg]
  have f2 : w0.frozen? ⟨rb, i * 3 + 2, none⟩ = false := by simp [World.frozen?, hg]
  have xb : w0.heap[w.heap.size]? = some (.cells #[.int .i64 x.1, .int .i64 x.2] 27 (0, 0)) := by rw [hw0]; exact heap_alloc_new w _
  have xb0 : w0.cell? ⟨w.heap.size, 0, none⟩ = some (.int .i64 x.1) := by simp [World.cell?, xb]
  have xb1 : w0.cell? ⟨w.heap.size, 1, none⟩ = some (.int .i64 x.2) := by simp [World.cell?, xb]
  have HA : Hid (AskerT f caps lt ok Fr St) := A
  have HS : Hid (St n w) := hst
  have HO : Hid ((∀ r ∈ R, ok r.2) ∧ ok x) := ⟨hok, hx⟩
  have HF : Hid (∀ k, Mine hb (.slice (some ⟨rb, 0, none⟩) R.length cap) mb k → ¬ Fr k) := hfr
  have HTB : Hid (Tab w0 mb R.length g) := htab
  have HI : Hid (g r.1 = some (i : Int)) := hgi
  have HW0 : Hid (w0 = w.alloc (.cells #[.int .i64 x.1, .int .i64 x.2] 27)) := hw0
  have HWP : Hid (wp = ((w0.setCell ⟨rb, i * 3 + 1, none⟩ (.int .i64 x.1)).setCell ⟨rb, i * 3 + 2, none⟩ (.int .i64 x.2))) := hwp
  have il : (i : Int) < (R.length : Int) := by omega
  obtain ⟨t1, t2⟩ := r
  clear A h hst hok hx hfr h0 hB0 hw0 hg r1 r2 r3 r4 htab hs hgi hmap hhr hmr p1 p2 p3 p4 ca xb hwp hi
  unfold valT
  go_enter Try.func28, Try.ntmps28
  go_wp2_with (at_lookup; refine wpList_look rfl _ _ rfl mb R.length g t1 rfl rfl (HW0.out ▸ HTB.out) hwf ?_; rw [HI.out]; simp only [Option.isSome_some, Option.getD_some])
  rw [← HW0.out]
  clear kw2 hltw
  go_region
  rw [← HWP.out]
  go_wp2_with fail
  refine (settleT HA.out wp.drew hb mb _ last (R.set i (t1, x)) i n (HP.out.kept (P := fun _ => False) ⟨rfl, rfl, rfl, Nat.le_refl _, fun _ _ _ => rfl⟩ (fun _ _ h => h)) (by simp; exact hil) (HA.out.keep n w _ HS.out HKP.out.size (fun k hk hF => HKP.out.block k hk (fun hM => HF.out k hM hF))) (fun y hy => by
    rcases List.mem_or_eq_of_mem_set hy with hy | rfl
    · exact HO.out.1 y hy
    · exact HO.out.2) HF.out (by simpa using hR)).mono ?_
  rintro e w2 ⟨rfl, h2, s2, k2'⟩
  have H2 : Hid (HeapAtT w2 hb (.slice (some ⟨rb, 0, none⟩) R.length cap) mb f caps last (changeL lt R i (t1, x) n).1 ∧ St (changeL lt R i (t1, x) n).2 w2 ∧ Kept (fun k => Mine hb (.slice (some ⟨rb, 0, none⟩) R.length cap) mb k ∨ Fr k) w w2) := ⟨h2, s2, (HKP.out.mono (fun _ _ h => .inl h)).trans (kept_of_drew k2')⟩
  clear h2 s2 k2'
  go_wp2_with fail
  go_ret
  exact ⟨rfl, H2.out⟩
end Go.Proofs.Ytkjjinccnaphpaa
