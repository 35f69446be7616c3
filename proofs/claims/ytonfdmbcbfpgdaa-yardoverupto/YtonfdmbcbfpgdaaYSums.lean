/-
  The walk of Sums; what Add keeps, in plain words.
-/
import Derived.Test.YtonfdmbcbfpgdaaYTold
import Derived.Test.YtonfdmbcbfpgdaaYAdd
namespace Go.Proofs.Ytonfdmbcbfpgdaa
open Go.RowKit
/-- A tube's sums. -/
def sumOf (Y : Yd) (t : ByteArray) : Sm := if (Y.tb t).isSome = true then Y.ts t else sm0
set_option maxHeartbeats 2000000 in
set_option maxRecDepth 1000000 in
theorem sums_any (t : ByteArray) (w : World) (lab : Nat → HK) (yb : Nat) (Y : Yd) (h : YAt w lab yb Y) (ht : t.size ≤ maxLen) :
    Calls Try.prog 7 #[ptrV yb, .string t] w fun x w' => x = .returned (.agg #[.int .i64 (sumOf Y t).r, .int .i64 (sumOf Y t).d, .int .i64 (sumOf Y t).v, .int .i64 (sumOf Y t).b, .int .i64 (sumOf Y t).u]) ∧ Below w.heap.size w w' := by
  obtain ⟨d, r, hd, hr⟩ := h.two
  have y1 := (h.cells hd hr).2.1
  have ylt := h.yb_lt
  obtain ⟨w1, hw1⟩ : ∃ w1, w1 = w.alloc (.cells #[.int .i64 0, .int .i64 0, .int .i64 0, .int .i64 0, .int .i64 0] 27) := ⟨_, rfl⟩
  have B1 : Below w.heap.size w w1 := by rw [hw1]; exact (Below.refl _ w).alloc (Nat.le_refl _) _
  have TT : Hid (VTabS w1 Y.tm Y.nt (fun t => (Y.tb t).map ptrV)) := h.tubs.later B1
  cases hb : Y.tb t with
  | none =>
    have e0 : sumOf Y t = sm0 := by unfold sumOf; rw [hb]; rfl
    rw [e0]
    have HB : Hid (Y.tb t = none) := hb
    have HW : Hid (w.alloc (.cells #[.int .i64 0, .int .i64 0, .int .i64 0, .int .i64 0, .int .i64 0] 27) = w1) := hw1.symm
    clear hb e0 h hd hr B1 hw1
    go_enter Try.func7, Try.ntmps7
    go_wp2_with (first
      | (refine wpList_vlookS rfl (.tmp 11) (.tmp 12) 55 52 Try.underlying55 (zero_ptr _) rfl Y.tm Y.nt (fun t => (Y.tb t).map ptrV) t rfl rfl (HW.out ▸ TT.out) ht ?_; simp only [HB.out, Option.map_none, Option.getD_none, Option.isSome_none]))
    refine bodyPost_ret (v := .agg #[.int .i64 0, .int .i64 0, .int .i64 0, .int .i64 0, .int .i64 0]) (by simp [results, Try.results7, go_sem]) rfl ⟨rfl, ?_⟩
    exact (Below.refl _ _).alloc (Nat.le_refl _) _
  | some b =>
    obtain ⟨_, h0, h1, h2, e0, e1, e2, hbk⟩ := h.tube t b hb
    have e9 : sumOf Y t = Y.ts t := by unfold sumOf; rw [hb]; rfl
    rw [e9]
    have blt := (Array.getElem?_eq_some_iff.1 hbk).1
    have z0 := sums_cells (pre := [ptrV h0.hb, ptrV h1.hb, ptrV h2.hb]) hbk 0 _ rfl
    have z1 := sums_cells (pre := [ptrV h0.hb, ptrV h1.hb, ptrV h2.hb]) hbk 1 _ rfl
    have z2 := sums_cells (pre := [ptrV h0.hb, ptrV h1.hb, ptrV h2.hb]) hbk 2 _ rfl
    have z3 := sums_cells (pre := [ptrV h0.hb, ptrV h1.hb, ptrV h2.hb]) hbk 3 _ rfl
    have z4 := sums_cells (pre := [ptrV h0.hb, ptrV h1.hb, ptrV h2.hb]) hbk 4 _ rfl
    simp only [List.length_cons, List.length_nil, Nat.zero_add, Nat.reduceAdd] at z0 z1 z2 z3 z4
    have HB : Hid (Y.tb t = some b) := hb
    have HW : Hid (w.alloc (.cells #[.int .i64 0, .int .i64 0, .int .i64 0, .int .i64 0, .int .i64 0] 27) = w1) := hw1.symm
    clear hb e9 h hd hr B1 hw1 hbk e0 e1 e2
    go_enter Try.func7, Try.ntmps7
    go_wp2_with (first
      | (refine wpList_vlookS rfl (.tmp 11) (.tmp 12) 55 52 Try.underlying55 (zero_ptr _) rfl Y.tm Y.nt (fun t => (Y.tb t).map ptrV) t rfl rfl (HW.out ▸ TT.out) ht ?_; simp only [HB.out, Option.map_some, Option.getD_some, Option.isSome_some]))
    refine bodyPost_ret (v := .agg #[.int .i64 (Y.ts t).r, .int .i64 (Y.ts t).d, .int .i64 (Y.ts t).v, .int .i64 (Y.ts t).b, .int .i64 (Y.ts t).u]) (by simp [results, Try.results7, go_sem]) rfl ⟨rfl, ?_⟩
    exact (Below.refl _ _).alloc (Nat.le_refl _) _
/-- The sums of jobs. -/
def smL : List En → Sm
  | [] => sm0
  | e :: r => (smL r).add e.j.st e.j.pr 1
theorem Sm.add_comm (s : Sm) (a b c d : Int) : (s.add a b 1).add c d 1 = (s.add c d 1).add a b 1 := by
  obtain ⟨r, d', v, b', u⟩ := s
  simp only [Sm.add]
  split <;> split <;> (try split) <;> (try split) <;> (try split) <;> (try split) <;> (try split) <;> (try split) <;> simp_all <;> omega
theorem smL_ins (L : List En) (e : En) : smL (insE L e) = (smL L).add e.j.st e.j.pr 1 := by
  induction L with
  | nil => rfl
  | cons x r ih =>
    unfold insE
    split
    · rfl
    · show (smL (insE r e)).add x.j.st x.j.pr 1 = _
      rw [ih, Sm.add_comm]
      rfl
theorem insE_sorted (L : List En) (e : En) (hs : L.Pairwise (fun a b => a.j.id < b.j.id)) (hn : lookE L e.j.id = none) : (insE L e).Pairwise (fun a b => a.j.id < b.j.id) := by
  induction L with
  | nil => simp [insE]
  | cons x r ih =>
    rw [List.pairwise_cons] at hs
    unfold lookE at hn
    simp only [List.find?_cons] at hn
    cases hx : (x.j.id == e.j.id) with
    | true => rw [hx] at hn; cases hn
    | false =>
      rw [hx] at hn
      have hxe : ¬ x.j.id = e.j.id := by simpa using hx
      unfold insE
      split
      · rename_i hlt
        rw [List.pairwise_cons]
        refine ⟨fun y hy => ?_, List.pairwise_cons.2 hs⟩
        rcases List.mem_cons.1 hy with rfl | hy
        · exact hlt
        · have := hs.1 y hy; omega
      · rename_i hlt
        rw [List.pairwise_cons]
        refine ⟨fun y hy => ?_, ih hs.2 hn⟩
        rcases (mem_insE r e).1 hy with rfl | hy
        · omega
        · exact hs.1 y hy
/-- The sums of a tube's jobs. -/
def smT (L : List En) (t : ByteArray) : Sm := smL (L.filter (fun e => decide (e.j.nm = t)))
theorem smT_ins (L : List En) (e : En) (t : ByteArray) : smT (insE L e) t = if e.j.nm = t then (smT L t).add e.j.st e.j.pr 1 else smT L t := by
  unfold smT
  induction L with
  | nil =>
    by_cases h : e.j.nm = t
    · simp [insE, h, smL]
    · simp [insE, h]
  | cons x r ih =>
    unfold insE
    split
    · by_cases h : e.j.nm = t
      · rw [if_pos h, List.filter_cons_of_pos (by simpa using h)]
        rfl
      · rw [if_neg h, List.filter_cons_of_neg (by simpa using h)]
    · by_cases hx : x.j.nm = t
      · rw [List.filter_cons_of_pos (by simpa using hx), List.filter_cons_of_pos (by simpa using hx)]
        show (smL _).add x.j.st x.j.pr 1 = _
        rw [ih]
        split
        · rw [Sm.add_comm]; rfl
        · rfl
      · rw [List.filter_cons_of_neg (by simpa using hx), List.filter_cons_of_neg (by simpa using hx)]
        exact ih
/-- What holds of a yard to which jobs were added. -/
structure Inv (Y : Yd) (N : Nat) : Prop where
  few : Few Y N
  rise : Y.L.Pairwise (fun a b => a.j.id < b.j.id)
  ok : ∀ e ∈ Y.L, e.j.ok ∧ 1 ≤ e.j.id ∧ e.j.id ≤ 1099511627776 ∧ stB e.j.st = true ∧ fitB e.j e.body.length = true
  sm : Y.sm = smL Y.L
  ts : ∀ t, (Y.tb t).isSome = true → Y.ts t = smT Y.L t
  tb : ∀ t, (Y.tb t).isSome = true ↔ ∃ e ∈ Y.L, e.j.nm = t
theorem smT_none {L : List En} {t : ByteArray} (h : ¬ ∃ e ∈ L, e.j.nm = t) : smT L t = sm0 := by
  unfold smT
  rw [List.filter_eq_nil_iff.2 (fun e he hb => h ⟨e, he, by simpa using hb⟩)]
  rfl
/-- Each is in one tube: the sums of a tube count its jobs. -/
theorem Inv.sum {Y : Yd} {N : Nat} (h : Inv Y N) (t : ByteArray) : sumOf Y t = smT Y.L t := by
  unfold sumOf
  split
  · rename_i ht; exact h.ts t ht
  · rename_i ht; exact (smT_none (fun he => ht ((h.tb t).2 he))).symm
theorem smL_bound (L : List En) : (0 ≤ (smL L).r ∧ (smL L).r ≤ L.length) ∧ (0 ≤ (smL L).d ∧ (smL L).d ≤ L.length) ∧ (0 ≤ (smL L).v ∧ (smL L).v ≤ L.length) ∧ (0 ≤ (smL L).b ∧ (smL L).b ≤ L.length) ∧ 0 ≤ (smL L).u ∧ (smL L).u ≤ L.length := by
  induction L with
  | nil => simp [smL]
  | cons e r ih =>
    obtain ⟨⟨a1, a2⟩, ⟨b1, b2⟩, ⟨c1, c2⟩, ⟨d1, d2⟩, e1, e2⟩ := ih
    simp only [smL, Sm.add, List.length_cons]
    split
    · refine ⟨⟨?_, ?_⟩, ⟨?_, ?_⟩, ⟨?_, ?_⟩, ⟨?_, ?_⟩, ?_, ?_⟩ <;> (try simp only []) <;> (try split) <;> omega
    · split
      · refine ⟨⟨?_, ?_⟩, ⟨?_, ?_⟩, ⟨?_, ?_⟩, ⟨?_, ?_⟩, ?_, ?_⟩ <;> (try simp only []) <;> omega
      · split
        · refine ⟨⟨?_, ?_⟩, ⟨?_, ?_⟩, ⟨?_, ?_⟩, ⟨?_, ?_⟩, ?_, ?_⟩ <;> (try simp only []) <;> omega
        · split
          · refine ⟨⟨?_, ?_⟩, ⟨?_, ?_⟩, ⟨?_, ?_⟩, ⟨?_, ?_⟩, ?_, ?_⟩ <;> (try simp only []) <;> omega
          · refine ⟨⟨?_, ?_⟩, ⟨?_, ?_⟩, ⟨?_, ?_⟩, ⟨?_, ?_⟩, ?_, ?_⟩ <;> omega
theorem smL_small {L : List En} (h : L.length ≤ 1000000000) : (smL L).small := by
  obtain ⟨⟨a1, a2⟩, ⟨b1, b2⟩, ⟨c1, c2⟩, ⟨d1, d2⟩, e1, e2⟩ := smL_bound L
  refine ⟨⟨?_, ?_⟩, ⟨?_, ?_⟩, ⟨?_, ?_⟩, ⟨?_, ?_⟩, ?_, ?_⟩ <;> omega
theorem ks_le (j : Jb) : (ksOf j).length ≤ 2 := by have := ks_len j; omega
/-- What lay makes of such a yard. -/
theorem Inv.laid {Y : Yd} {N : Nat} (hv : Inv Y N) (hN : N ≤ 500000000) {w : World} {lab : Nat → HK} {yb : Nat} {j : Jb} {bv : Value} {body : List UInt8} {w' : World} (hl : Laid w lab yb Y j bv body w') (hno : lookE Y.L j.id = none) (hj : j.ok ∧ 1 ≤ j.id ∧ j.id ≤ 1099511627776 ∧ stB j.st = true ∧ fitB j body.length = true) :
    ∃ lab' Y', YAt w' lab' yb Y' ∧ Inv Y' (N + 4) ∧ (∃ t0 t1, Y'.L = insE Y.L ⟨j, bv, body, t0, t1⟩) ∧ (∀ k, k < w.heap.size → lab' k = lab k) ∧ Kept (Ours lab) w w' := by
  obtain ⟨lab', Y1, Y2, S, h1, h2, h3, h4, h5, h6, h7⟩ := hl
  have hsl : S.length ≤ 2 := by
    have := congrArg List.length h4
    simp at this
    have := ks_le j
    omega
  have f1 := hv.few.one h1
  have f2 := f1.two h2
  have f3 := f2.pushes S h3
  obtain ⟨p1, p2, p3, p4, p5, p6, p7⟩ := PuY.tb Y2 S
  have htb2 : Y2.tb = Y1.tb := h2.tb
  have hlen := hv.few.nl
  have tb1 : ∀ t, (Y1.tb t).isSome = true ↔ t = j.nm ∨ (Y.tb t).isSome = true := fun t => by
    rcases h1 with ⟨b, hb, rfl⟩ | ⟨hb, b, hb0, mb0, hb1, mb1, hb2, mb2, rfl⟩
    · exact ⟨fun h => .inr h, fun h => h.elim (fun e => by rw [e, hb]; rfl) id⟩
    · show (updT Y.tb j.nm (some b) t).isSome = true ↔ _
      unfold updT
      by_cases e : t = j.nm
      · rw [if_pos e]; exact ⟨fun _ => .inl e, fun _ => rfl⟩
      · rw [if_neg e]; exact ⟨fun h => .inr h, fun h => h.resolve_left e⟩
  have ts1 : ∀ t, (Y1.tb t).isSome = true → Y1.ts t = smT Y.L t := fun t ht => by
    rcases h1 with ⟨b, hb, rfl⟩ | ⟨hb, b, hb0, mb0, hb1, mb1, hb2, mb2, rfl⟩
    · exact hv.ts t ht
    · show updT Y.ts j.nm sm0 t = _
      unfold updT
      by_cases e : t = j.nm
      · rw [if_pos e]
        exact (smT_none (fun he => by have := (hv.tb t).2 he; rw [e, hb] at this; cases this)).symm
      · rw [if_neg e]
        exact hv.ts t (((tb1 t).1 ht).resolve_left e)
  have nsm : Y.sm.add j.st j.pr 1 = smL (insE Y.L ⟨j, bv, body, tkOf S 0, tkOf S 1⟩) := by rw [smL_ins, hv.sm]
  have nts : ∀ t, (Y1.tb t).isSome = true → updT Y1.ts j.nm ((Y1.ts j.nm).add j.st j.pr 1) t = smT (insE Y.L ⟨j, bv, body, tkOf S 0, tkOf S 1⟩) t := fun t ht => by
    rw [smT_ins]
    unfold updT
    by_cases e : t = j.nm
    · subst e
      rw [if_pos rfl, if_pos rfl, ts1 _ ht]
    · rw [if_neg e, if_neg (fun e2 => e e2.symm), ts1 t ht]
  have hfl : ∀ t, (smT (insE Y.L ⟨j, bv, body, tkOf S 0, tkOf S 1⟩) t).small := fun t => smL_small (by
    have := List.length_filter_le (fun e : En => decide (e.j.nm = t)) (insE Y.L ⟨j, bv, body, tkOf S 0, tkOf S 1⟩)
    rw [insE_len] at this
    omega)
  refine ⟨lab', _, h5, ⟨⟨fun K g hg => ?_, ?_, ?_, ?_, ?_, fun t => ?_⟩, ?_, ?_, nsm, fun t ht => ?_, fun t => ?_⟩, ⟨_, _, rfl⟩, h6, h7⟩
  · have := f3.heap K g hg
    exact ⟨this.1, by have := this.2.1; omega, by have := this.2.2.1; omega, this.2.2.2⟩
  · have := f3.nt; show (PuY Y2 S).nt ≤ N + 4; omega
  · have := f3.nh; show (PuY Y2 S).nh ≤ N + 4; omega
  · show (insE Y.L _).length ≤ N + 4; rw [insE_len]; omega
  · show (Y.sm.add j.st j.pr 1).small
    rw [nsm]
    exact smL_small (by rw [insE_len]; omega)
  · show (updT Y1.ts j.nm ((Y1.ts j.nm).add j.st j.pr 1) t).small
    by_cases ht : (Y1.tb t).isSome = true
    · rw [nts t ht]; exact hfl t
    · unfold updT
      rw [if_neg (fun e => ht ((tb1 t).2 (.inl e)))]
      exact f1.ts t
  · exact insE_sorted _ _ hv.rise hno
  · intro e he
    rcases (mem_insE _ _).1 he with rfl | he
    · exact hj
    · exact hv.ok e he
  · have ht : ((PuY Y2 S).tb t).isSome = true := ht
    rw [p1, htb2] at ht
    exact nts t ht
  · show ((PuY Y2 S).tb t).isSome = true ↔ _
    rw [p1, htb2, tb1 t, hv.tb t]
    constructor
    · rintro (rfl | ⟨e, he, rfl⟩)
      · exact ⟨_, (mem_insE _ _).2 (.inl rfl), rfl⟩
      · exact ⟨e, (mem_insE _ _).2 (.inr he), rfl⟩
    · rintro ⟨e, he, rfl⟩
      rcases (mem_insE _ _).1 he with rfl | he
      · exact .inl rfl
      · exact .inr ⟨e, he, rfl⟩
end Go.Proofs.Ytonfdmbcbfpgdaa
