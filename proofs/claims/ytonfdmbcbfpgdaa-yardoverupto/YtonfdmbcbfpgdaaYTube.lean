/-
  A new tube; a tube is laid into a yard.
-/
import Derived.Test.YtonfdmbcbfpgdaaYNew
namespace Go.Proofs.Ytonfdmbcbfpgdaa
open Go.RowKit
def HeapNew (w : World) (lo hi hb mb : Nat) (rk : Int) : Prop := HeapAtM w hb (.slice none 0 0) mb 32 rk 0 [] ∧ (lo ≤ hb ∧ hb < hi) ∧ lo ≤ mb ∧ mb < hi
theorem HeapNew.later {w w' : World} {lo hi hb mb : Nat} {rk : Int} (h : HeapNew w lo hi hb mb rk) (hbl : Below w.heap.size w w') : HeapNew w' lo hi hb mb rk := ⟨h.1.later hbl, h.2⟩
theorem heapNew_any (rk : Int) (w : World) : Calls Try.prog 31 #[.func (.func 32) #[.int .i64 rk] #[]] w fun e w' => ∃ hb mb, e = .returned (.pointer (some ⟨hb, 0, none⟩)) ∧ HeapNew w' w.heap.size w'.heap.size hb mb rk ∧ Below w.heap.size w w' := by
  refine (newM w _ rk).mono ?_
  rintro e w' ⟨hb, mb, rfl, h, b, g, i⟩
  exact ⟨hb, mb, rfl, ⟨h, ⟨g, h.lt hb (.inl rfl)⟩, i, h.lt mb (.inr (.inr rfl))⟩, b⟩
set_option maxHeartbeats 2000000 in
set_option maxRecDepth 1000000 in
theorem newTube_any (w : World) : Calls Try.prog 62 #[] w fun e w' => ∃ n1 n2 n3 hb0 mb0 hb1 mb1 hb2 mb2, e = .returned (ptrV n3) ∧ w.heap.size ≤ n1 ∧ n1 ≤ n2 ∧ n2 ≤ n3 ∧ n3 < w'.heap.size ∧ HeapNew w' w.heap.size n1 hb0 mb0 0 ∧ HeapNew w' n1 n2 hb1 mb1 1 ∧ HeapNew w' n2 n3 hb2 mb2 2 ∧
    w'.heap[n3]? = some (.cells ([ptrV hb0, ptrV hb1, ptrV hb2] ++ sm0.cells).toArray 61 (0, 0)) ∧ Below w.heap.size w w' := by
  have c0 : Hid (∀ w, Calls Try.prog 31 #[.func (.func 32) #[.int .i64 0] #[]] w fun e w' => ∃ hb mb, e = .returned (.pointer (some ⟨hb, 0, none⟩)) ∧ HeapNew w' w.heap.size w'.heap.size hb mb 0 ∧ Below w.heap.size w w') := heapNew_any 0
  have c1 : Hid (∀ w, Calls Try.prog 31 #[.func (.func 32) #[.int .i64 1] #[]] w fun e w' => ∃ hb mb, e = .returned (.pointer (some ⟨hb, 0, none⟩)) ∧ HeapNew w' w.heap.size w'.heap.size hb mb 1 ∧ Below w.heap.size w w') := heapNew_any 1
  have c2 : Hid (∀ w, Calls Try.prog 31 #[.func (.func 32) #[.int .i64 2] #[]] w fun e w' => ∃ hb mb, e = .returned (.pointer (some ⟨hb, 0, none⟩)) ∧ HeapNew w' w.heap.size w'.heap.size hb mb 2 ∧ Below w.heap.size w w') := heapNew_any 2
  go_enter Try.func62, Try.ntmps62
  go_wp2_with fail
  refine (c0.out _).mono ?_
  rintro e w1 ⟨hb0, mb0, rfl, h0, b0⟩
  have H0 : Hid (HeapNew w1 w.heap.size w1.heap.size hb0 mb0 0 ∧ Below w.heap.size w w1) := ⟨h0, b0⟩
  clear h0 b0
  go_wp2_with fail
  refine (c1.out _).mono ?_
  rintro e w2 ⟨hb1, mb1, rfl, h1, b1⟩
  have H1 : Hid (HeapNew w2 w1.heap.size w2.heap.size hb1 mb1 1 ∧ Below w1.heap.size w1 w2) := ⟨h1, b1⟩
  clear h1 b1
  go_wp2_with fail
  refine (c2.out _).mono ?_
  rintro e w3 ⟨hb2, mb2, rfl, h2, b2⟩
  have H2 : Hid (HeapNew w3 w2.heap.size w3.heap.size hb2 mb2 2 ∧ Below w2.heap.size w2 w3) := ⟨h2, b2⟩
  clear h2 b2
  go_wp2_with fail
  go_ret
  obtain ⟨h0, b0⟩ := H0.out
  obtain ⟨h1, b1⟩ := H1.out
  obtain ⟨h2, b2⟩ := H2.out
  have s0 := b0.size
  have s1 := b1.size
  have s2 := b2.size
  have ba : Below w3.heap.size w3 (w3.alloc (.cells #[.pointer (some ⟨hb0, 0, none⟩), .pointer (some ⟨hb1, 0, none⟩), .pointer (some ⟨hb2, 0, none⟩), .int .i64 0, .int .i64 0, .int .i64 0, .int .i64 0, .int .i64 0] 61)) := (Below.refl _ w3).alloc (Nat.le_refl _) _
  have b24 := b2.trans (ba.mono s2)
  have b14 := b1.trans (b24.mono s1)
  exact ⟨w1.heap.size, w2.heap.size, w3.heap.size, hb0, mb0, hb1, mb1, hb2, mb2, rfl, s0, s1, s2, by simp, h0.later b14, h1.later b24, h2.later ba, heap_alloc_new w3 _, b0.trans (b14.mono s0)⟩
def updT {α : Type} (f : ByteArray → α) (t : ByteArray) (x : α) : ByteArray → α := fun s => if s = t then x else f s
def Yd.withTube (Y : Yd) (t : ByteArray) (b hb0 mb0 hb1 mb1 hb2 mb2 : Nat) : Yd :=
  { Y with nt := Y.nt + 1, tb := updT Y.tb t (some b), ts := updT Y.ts t sm0, hp := fun K => if K = hkT 0 t then some (hm0 hb0 mb0) else if K = hkT 1 t then some (hm0 hb1 mb1) else if K = hkT 2 t then some (hm0 hb2 mb2) else Y.hp K }
theorem HeapNew.at {w : World} {lo hi hb mb : Nat} {K : HK} {lab : Nat → HK} (h : HeapNew w lo hi hb mb (rkOf K.1)) (hl : ∀ k, lo ≤ k → k < hi → lab k = K) : (hm0 hb mb).At w lab K :=
  ⟨h.1, fun b hb' => by rcases mine0 hb' with rfl | rfl; exact hl _ h.2.1.1 h.2.1.2; exact hl _ h.2.2.1 h.2.2.2⟩
/-- A tube is laid in. -/
theorem YAt.addTube {w w1 w2 : World} {lab : Nat → HK} {yb : Nat} {Y : Yd} (h : YAt w lab yb Y) (t : ByteArray) (ht : Y.tb t = none) {n1 n2 n3 hb0 mb0 hb1 mb1 hb2 mb2 : Nat}
    (s1 : w.heap.size ≤ n1) (s2 : n1 ≤ n2) (s3 : n2 ≤ n3) (s4 : n3 < w1.heap.size) (h0 : HeapNew w1 w.heap.size n1 hb0 mb0 0) (h1 : HeapNew w1 n1 n2 hb1 mb1 1) (h2 : HeapNew w1 n2 n3 hb2 mb2 2) (hc : w1.heap[n3]? = some (.cells ([ptrV hb0, ptrV hb1, ptrV hb2] ++ sm0.cells).toArray 61 (0, 0))) (b1 : Below w.heap.size w w1)
    (hm : VTabS w2 Y.tm (if ((Y.tb t).map ptrV).isSome then Y.nt else Y.nt + 1) (putVS (fun t => (Y.tb t).map ptrV) t (ptrV n3))) (hg : w1.grownBy w2 (some Y.tm)) :
    ∃ lab', YAt w2 lab' yb (Y.withTube t n3 hb0 mb0 hb1 mb1 hb2 mb2) ∧ (∀ k, k < w.heap.size → lab' k = lab k) ∧ Kept (Ours lab) w w2 := by
  have kk : Kept (fun k => k = Y.tm) w1 w2 := Kept.ofGrown hg (fun g e => (Option.some.inj e).symm)
  have k2 : Kept (fun k => k = Y.tm) w w2 := (Kept.ofBelow b1).trans (kk.mono (fun k _ e => e))
  have l0 := h.labs
  have lt0 := h.tubs.lt
  obtain ⟨lab', hlab⟩ : ∃ lab' : Nat → HK, lab' = fun k => if k < w.heap.size then lab k else if k < n1 then hkT 0 t else if k < n2 then hkT 1 t else if k < n3 then hkT 2 t else hkT 6 t := ⟨_, rfl⟩
  have hl : ∀ k, k < w.heap.size → lab' k = lab k := fun k hk => by rw [hlab]; exact if_pos hk
  have hnt : ∀ k, k < w.heap.size → lab k ≠ (7, eB, 2) → ¬ k = Y.tm := fun k _ hne e => hne (by rw [e]; exact l0.2.2.1)
  have hnew : ∀ k, w.heap.size ≤ k → ¬ k = Y.tm := fun k hk e => by omega
  have hk7 : ∀ (n : Int), n ≠ 2 → ((7, eB, n) : HK) ≠ (7, eB, 2) := fun n hn e => hn (by simpa using e)
  obtain ⟨d, r, hd, hr, hb⟩ := h.box
  refine ⟨lab', ⟨?_, ?_, ?_, ?_, ?_, ?_, ?_, ?_⟩, hl, k2.mono (fun k _ e => by rw [e]; show (lab Y.tm).1 ≤ 7; rw [l0.2.2.1]; decide)⟩
  · refine ⟨d, r, ?_, ?_, (k2.block yb h.yb_lt (hnt yb h.yb_lt (by rw [l0.1]; exact hk7 0 (by decide)))).trans hb⟩
    · simp only [Yd.withTube]
      rw [if_neg (by simp), if_neg (by simp), if_neg (by simp)]
      exact hd
    · simp only [Yd.withTube]
      rw [if_neg (by simp), if_neg (by simp), if_neg (by simp)]
      exact hr
  · exact h.jobs.kept k2 (hnt _ h.jobs.lt (by rw [l0.2.1]; exact hk7 1 (by decide)))
  · rw [ht] at hm
    refine hm.congr rfl (fun s => ?_)
    simp only [Yd.withTube, updT, putVS]
    split <;> rfl
  · refine (h.hels.kept k2 (hnt _ h.hels.lt (by rw [l0.2.2.2]; exact hk7 3 (by decide)))).congr rfl (fun n => ?_)
    simp only [Yd.withTube]
    rw [if_neg (by simp), if_neg (by simp), if_neg (by simp)]
  · intro K g hK
    simp only [Yd.withTube] at hK
    split at hK
    · rename_i e
      subst e
      cases hK
      refine ⟨show (0 : Nat) ≤ 5 by omega, ?_⟩
      refine (HeapNew.at (lab := lab') ⟨h0.1.kept kk (fun k hk => hnew k (by rcases mine0 hk with rfl | rfl; exact h0.2.1.1; exact h0.2.2.1)), h0.2⟩ (fun k ha hb => ?_))
      rw [hlab]
      simp only []
      rw [if_neg (by omega), if_pos hb]
    · split at hK
      · rename_i e
        subst e
        cases hK
        refine ⟨show (1 : Nat) ≤ 5 by omega, ?_⟩
        refine (HeapNew.at (lab := lab') ⟨h1.1.kept kk (fun k hk => hnew k (by rcases mine0 hk with rfl | rfl; have := h1.2.1.1; omega; have := h1.2.2.1; omega)), h1.2⟩ (fun k ha hb => ?_))
        rw [hlab]
        simp only []
        rw [if_neg (by omega), if_neg (by omega), if_pos hb]
      · split at hK
        · rename_i e
          subst e
          cases hK
          refine ⟨show (2 : Nat) ≤ 5 by omega, ?_⟩
          refine (HeapNew.at (lab := lab') ⟨h2.1.kept kk (fun k hk => hnew k (by rcases mine0 hk with rfl | rfl; have := h2.2.1.1; omega; have := h2.2.2.1; omega)), h2.2⟩ (fun k ha hb => ?_))
          rw [hlab]
          simp only []
          rw [if_neg (by omega), if_neg (by omega), if_neg (by omega), if_pos hb]
        · obtain ⟨k5, ha⟩ := h.heap K g hK
          exact ⟨k5, ha.kept k2 (fun b hb e => hnt b hb (by rw [e]; intro e2; rw [e2] at k5; exact absurd k5 (by decide))) hl⟩
  · intro s b hs
    simp only [Yd.withTube, updT] at hs ⊢
    by_cases hst : s = t
    · subst hst
      rw [if_pos rfl] at hs
      cases hs
      refine ⟨?_, hm0 hb0 mb0, hm0 hb1 mb1, hm0 hb2 mb2, if_pos rfl, ?_, ?_, ?_⟩
      · rw [hlab]
        simp only []
        rw [if_neg (by omega), if_neg (by omega), if_neg (by omega), if_neg (by omega)]
      · rw [if_neg (by simp), if_pos rfl]
      · rw [if_neg (by simp), if_neg (by simp), if_pos rfl]
      · rw [if_pos rfl]
        exact (kk.block n3 s4 (hnew n3 (by omega))).trans hc
    · rw [if_neg hst] at hs
      obtain ⟨lb, g0, g1, g2, e0, e1, e2, hbk⟩ := h.tube s b hs
      have hlt := (Array.getElem?_eq_some_iff.1 hbk).1
      have hne : ∀ i j : Nat, (hkT i s) ≠ (hkT j t) := fun i j e => hst (by simp [hkT] at e; exact e.2)
      refine ⟨(hl b hlt).trans lb, g0, g1, g2, ?_, ?_, ?_, ?_⟩
      · rw [if_neg (hne 0 0), if_neg (hne 0 1), if_neg (hne 0 2)]; exact e0
      · rw [if_neg (hne 1 0), if_neg (hne 1 1), if_neg (hne 1 2)]; exact e1
      · rw [if_neg (hne 2 0), if_neg (hne 2 1), if_neg (hne 2 2)]; exact e2
      · rw [if_neg hst]
        exact (k2.block b hlt (hnt b hlt (by rw [lb]; simp))).trans hbk
  · intro e he
    exact (h.body e he).kept k2 (fun b hb e8 => hnt b hb (by intro e2; rw [e2] at e8; simp at e8)) hl
  · show lab' yb = _ ∧ lab' Y.jm = _ ∧ lab' Y.tm = _ ∧ lab' Y.hm = _
    rw [hl _ h.yb_lt, hl _ h.jobs.lt, hl _ h.tubs.lt, hl _ h.hels.lt]
    exact l0
end Go.Proofs.Ytonfdmbcbfpgdaa
