/-
  YFilled, YIv.
-/
import Derived.Test.YtonfdmbcbfpgdaaYOpen
import Derived.Test.YtonfdmbcbfpgdaaYSums
import Derived.Test.YtonfdmbcbfpgdaaCloX
import Derived.Test.YtonfdmbcbfpgdaaTkX
namespace Go.Proofs.Ytonfdmbcbfpgdaa
open Go.RowKit
theorem Few.more {Y : Yd} {N M : Nat} (h : Few Y N) (hM : N ≤ M) : Few Y M :=
  ⟨fun K g hg => by obtain ⟨h1, h2, h3, h4⟩ := h.heap K g hg; exact ⟨h1, by omega, by omega, h4⟩, by have := h.nt; omega, by have := h.nh; omega, by have := h.nl; omega, h.sm, h.ts⟩
theorem Inv.more {Y : Yd} {N M : Nat} (h : Inv Y N) (hM : N ≤ M) : Inv Y M := ⟨h.few.more hM, h.rise, h.ok, h.sm, h.ts, h.tb⟩
theorem inv0 (jm : Nat) (d r : HM) (hd : d.R = []) (hr : r.R = []) (hdl : d.last = 0) (hrl : r.last = 0) : Inv (yd0 jm d r) 0 :=
  ⟨few0 jm d r hd hr hdl hrl, List.Pairwise.nil, (fun e he => by cases he), rfl, (fun t ht => by cases ht), (fun t => ⟨(fun ht => by cases ht), (fun ⟨e, he, _⟩ => by cases he)⟩)⟩
/-- A yard that was made here. -/
structure Fl (w : World) (yb N : Nat) (lab : Nat → HK) (Y : Yd) (wr : World) : Prop where
  yard : YAt wr lab yb Y
  inv : Inv Y N
  bel : Below w.heap.size w wr
  labs : ∀ k, k < w.heap.size → lab k = uT
theorem addE_zero {L : List En} {j : Jb} {n : Nat} (h : addE L j n = 0) : lookE L j.id = none ∧ 1 ≤ j.id ∧ j.id ≤ 1099511627776 ∧ stB j.st = true ∧ fitB j n = true := by
  unfold addE at h
  split at h
  · cases h
  · rename_i h1
    split at h
    · cases h
    · rename_i h2
      split at h
      · cases h
      · rename_i h3
        refine ⟨?_, by omega, by omega, by simpa using h2, by simpa using h3⟩
        cases hq : lookE L j.id with
        | none => rfl
        | some e => exact absurd (.inl (by rw [hq]; rfl)) h1
/-- A new block of another's does not disturb it. -/
theorem Fl.alloc {w : World} {yb N : Nat} {lab : Nat → HK} {Y : Yd} {wr : World} (h : Fl w yb N lab Y wr) (o : Obj) : Fl w yb N lab Y (wr.alloc o) := by
  have b := (Below.refl _ wr).alloc (Nat.le_refl _) o
  exact ⟨h.yard.below b (fun _ _ => rfl), h.inv, h.bel.trans (b.mono h.bel.size), h.labs⟩
theorem Fl.add {w : World} {yb N : Nat} {lab : Nat → HK} {Y : Yd} {wr w' : World} {j : Jb} {l : List UInt8} (h : Fl w yb N lab Y wr) (hN : N ≤ 100000000) (hj : j.ok) (ha : Added wr lab yb Y j l w') : ∃ lab' Y', Fl w yb (N + 4) lab' Y' w' := by
  have hs := h.bel.size
  by_cases h0 : addE Y.L j l.length = 0
  · obtain ⟨bv, w5, lab5, a5, _, l5, k5, hL⟩ := ha.1 h0
    obtain ⟨e1, e2, e3, e4, e5⟩ := addE_zero h0
    obtain ⟨lab', Y', a6, i6, _, l6, k6⟩ := h.inv.laid (by omega) hL e1 ⟨hj, e2, e3, e4, e5⟩
    have b5 : Below w.heap.size wr w5 := k5.below hs (fun _ _ h => h)
    have hl5 : ∀ k, k < w.heap.size → lab5 k = uT := fun k hk => (l5 k (by omega)).trans (h.labs k hk)
    have s5 := k5.size
    have b6 : Below w.heap.size w5 w' := k6.below (by omega) (fun k hk hO => by
      unfold Ours at hO
      rw [hl5 k hk] at hO
      exact absurd hO (by decide))
    exact ⟨lab', Y', a6, i6, h.bel.trans (b5.trans b6), fun k hk => (l6 k (by omega)).trans (hl5 k hk)⟩
  · obtain ⟨lab', a5, l5, k5⟩ := ha.2 h0
    exact ⟨lab', Y, a5, h.inv.more (by omega), h.bel.trans (k5.below hs (fun _ _ h => h)), fun k hk => (l5 k (by omega)).trans (h.labs k hk)⟩
theorem bulk_each {l : List Jn} {y : Jn} (h : y ∈ l) : y.bulk ≤ (l.map Jn.bulk).sum := by
  induction l with
  | nil => cases h
  | cons x r ih =>
    rw [List.map_cons, List.sum_cons]
    rcases List.mem_cons.1 h with rfl | h
    · omega
    · have := ih h
      omega
theorem bulk_count (l : List Jn) : 2 * l.length ≤ (l.map Jn.bulk).sum := by
  induction l with
  | nil => simp
  | cons x r ih =>
    have : 2 ≤ x.bulk := by unfold Jn.bulk; omega
    rw [List.map_cons, List.sum_cons, List.length_cons]
    omega
theorem run_allocJ {o : Oper} {a : Act} {w : World} (ho : o.op = .alloc 41) : (execOp a.eval o).run Try.prog w = .ok (.value (.pointer (some ⟨w.heap.size, 0, none⟩))) (w.alloc (.cells (jb0.cells (.slice none 0 0)) 41)) := by
  obtain ⟨i9, hi, hz0, hz1, hz2⟩ := info_parts info_job
  simp only [execOp, ho]
  simp [Instr.alloc, Result.andThen, newVar, newRow, newObj]
  rfl
set_option maxHeartbeats 4000000 in
set_option maxRecDepth 1000000 in
theorem filled_any (a : Option Addr) (c : Nat) (l : List Jn) (w : World) (hl : IsJobs w a c l) (hb : (l.map Jn.bulk).sum ≤ 1048576) :
    Calls Try.prog 6 #[.slice a l.length c] w fun e w' => ∃ yb lab Y, e = .returned (ptrV yb) ∧ Fl w yb (4 * l.length) lab Y w' := by
  obtain ⟨n, hn⟩ : ∃ n, n = l.length := ⟨_, rfl⟩
  have hnl : n ≤ 524288 := by have := bulk_count l; omega
  have HL : Hid (IsJobs w a c l ∧ n = l.length ∧ (l.map Jn.bulk).sum ≤ 1048576) := ⟨hl, hn, hb⟩
  have CN : Hid (Calls Try.prog 16 #[] w fun e w' => ∃ yb lab Y, e = .returned (ptrV yb) ∧ Fl w yb 0 lab Y w') := by
    refine (new_any w (fun _ => uT)).mono ?_
    rintro e w' ⟨yb, lab', d, r, rfl, ha, h1, h2, h3, h4, h5, h6⟩
    exact ⟨yb, lab', _, rfl, ha, inv0 _ d r h1 h2 h3 h4, h6, h5⟩
  rw [← hn]
  clear hl hn hb
  go_enter Try.func6, Try.ntmps6
  go_wp2_with (first
    | (go_at_call 16; refine CN.out.mono ?_; rintro e w1 ⟨yb, lab1, Y1, rfl, F1⟩; have H1 : Hid (Fl w yb 0 lab1 Y1 w1) := F1; clear F1))
  go_loopw [11] (fun i wr => ∃ (k : Nat) (labr : Nat → HK) (Y : Yd), i = .int .i64 k ∧ k ≤ n ∧ Hid (Fl w yb (4 * k) labr Y wr)) (fun i _ => n - (intOf i).toNat)
  case atStart => exact ⟨0, lab1, Y1, rfl, Nat.zero_le _, H1⟩
  case round =>
    obtain ⟨k, labr, Y, rfl, hk, HF⟩ := hrel
    clear H1 CN
    by_cases hlt : k < n
    · have hltI : (k : Int) < (n : Int) := by omega
      have hk0 : (0 : Int) ≤ (k : Int) := by omega
      obtain ⟨y, hy⟩ : ∃ y, l[k]? = some y := ⟨_, List.getElem?_eq_getElem (by rw [← HL.out.2.1]; exact hlt)⟩
      have hym := List.mem_of_getElem? hy
      have IJ := HL.out.1.below HF.out.bel
      obtain ⟨lb, lo, rfl, llt, lc⟩ := IJ.2.2.2.resolve_left (fun e => by rw [e] at hym; cases hym)
      have RG : Hid (wr.rangeAt lb (lo + k * 16) y.row) := lc k y hy
      have hlb := llt
      obtain ⟨w2, hw2⟩ : ∃ w2, w2 = wr.alloc (.cells (y.j.cells y.bv) 41) := ⟨_, rfl⟩
      have HW2 : Hid (w2 = wr.alloc (.cells (y.j.cells y.bv) 41)) := hw2
      have CA : Hid (Calls Try.prog 18 #[ptrV yb, .agg (y.j.cells y.bv)] w2 fun e w' => ∃ m lab' Y', e = .returned (.int .i64 m) ∧ Fl w yb (4 * k + 4) lab' Y' w') := by
        have F2 : Fl w yb (4 * k) labr Y w2 := by rw [hw2]; exact HF.out.alloc _
        have hbk : 2 + y.j.nm.size + y.body.length ≤ _ := bulk_each hym
        have := HL.out.2.2
        have ok := IJ.2.2.1 y hym
        have okb : IsBytes w2 y.a y.c y.body := by rw [hw2]; exact ok.1.below ((Below.refl _ wr).alloc (Nat.le_refl _) _)
        refine (add_any y.j y.a y.c y.body w2 labr yb Y (4 * k) F2.yard ok.2 okb (by omega) (by omega) F2.inv.few (by omega)).mono ?_
        rintro e w' ⟨rfl, hA⟩
        obtain ⟨lab', Y', F3⟩ := F2.add (by omega) ok.2 hA
        exact ⟨_, lab', Y', rfl, F3⟩
      have H1c : Hid ((y.j.cells y.bv).all (·.oneCell') = true) := job_one _ _ _ _
      clear hw2 IJ lc hy hym llt
      go_wp2_with (first
        | (refine wpList_load_mid rfl 41 (.tmp 13) rfl lb (lo + k * 16) rfl (y.j.cells y.bv).toList _ RG.out Try.underlying41 rfl (by rw [Array.length_toList]; exact job_size y.j y.bv) ?_; rw [Array.toArray_toList])
        | (refine wpList_made rfl (run_allocJ rfl) ?_)
        | (refine wpList_store_new rfl 41 (.tmp 5) (.tmp 14) rfl (y.j.cells y.bv) rfl rfl 41 _ (job_size y.j y.bv) rfl H1c.out ?_; rw [← HW2.out])
        | (refine wpList_load_row rfl 41 (.tmp 5) rfl wr.heap.size rfl 41 (y.j.cells y.bv) (0, 0) _ (by rw [HW2.out]; exact heap_alloc_new wr _) Try.underlying41 rfl (job_size y.j y.bv) ?_)
        | (go_at_call 18; refine CA.out.mono ?_; rintro e w3 ⟨m, lab3, Y3, rfl, F3⟩; have H3 : Hid (Fl w yb (4 * k + 4) lab3 Y3 w3) := F3; clear F3))
      exact ⟨⟨k + 1, lab3, Y3, by go_num, by omega, H3⟩, by simp [intOf]; omega⟩
    · have hltI : ¬ (k : Int) < (n : Int) := by omega
      go_wp2_with fail
      go_ret
      obtain rfl : k = n := by omega
      exact ⟨yb, rfl, labr, Y, HF.out⟩
end Go.Proofs.Ytonfdmbcbfpgdaa

namespace Go.Proofs.Ytonfdmbcbfpgdaa
open Go.RowKit
theorem pushes_src {Y : Yd} {m : Mk} : ∀ S : List Pu, PuV Y m S → ∀ p ∈ S, (Y.hp p.1).isSome = true
  | [], _, p, hp => by cases hp
  | q :: S, hv, p, hp => by
    rcases List.mem_cons.1 hp with rfl | hp
    · obtain ⟨h0, g1, _⟩ := pushes_row S hv.1 p.1 p.2.1 hv.2.1
      rw [g1]
      rfl
    · exact pushes_src S hv.1 p hp
/-- What lay makes of such a yard. -/
theorem Iv.laid {Y : Yd} {N : Nat} (iv : Iv Y N) (hN : N ≤ 500000000) {w : World} {lab : Nat → HK} {yb : Nat} {j : Jb} {bv : Value} {body : List UInt8} {w' : World} (hl : Laid w lab yb Y j bv body w') (hno : lookE Y.L j.id = none) (hj : j.ok ∧ 1 ≤ j.id ∧ j.id ≤ 1099511627776 ∧ stB j.st = true ∧ fitB j body.length = true) :
    ∃ lab' Y', YAt w' lab' yb Y' ∧ Iv Y' (N + 4) ∧ (∃ t0 t1, Y'.L = insE Y.L ⟨j, bv, body, t0, t1⟩) ∧ (∀ k, k < w.heap.size → lab' k = lab k) ∧ Kept (Ours lab) w w' := by
  have hv := iv.inv
  obtain ⟨lab', Y1, Y2, S, h1, h2, h3, h4, h5, h6, h7⟩ := hl
  have hsl : S.length ≤ 2 := by
    have := congrArg List.length h4
    simp at this
    have := ks_le j
    omega
  have f1 := hv.few.one h1
  have f2 := f1.two h2
  have f3 := f2.pushes S h3
  obtain ⟨p1, p2, p3, p4, p5, p6, p7⟩ := PuY.tb Y2 S
  have htb2 : Y2.tb = Y1.tb := h2.tb
  have hlen := hv.few.nl
  have tb1 : ∀ t, (Y1.tb t).isSome = true ↔ t = j.nm ∨ (Y.tb t).isSome = true := fun t => by
    rcases h1 with ⟨b, hb, rfl⟩ | ⟨hb, b, hb0, mb0, hb1, mb1, hb2, mb2, rfl⟩
    · exact ⟨fun h => .inr h, fun h => h.elim (fun e => by rw [e, hb]; rfl) id⟩
    · show (updT Y.tb j.nm (some b) t).isSome = true ↔ _
      unfold updT
      by_cases e : t = j.nm
      · rw [if_pos e]; exact ⟨fun _ => .inl e, fun _ => rfl⟩
      · rw [if_neg e]; exact ⟨fun h => .inr h, fun h => h.resolve_left e⟩
  have ts1 : ∀ t, (Y1.tb t).isSome = true → Y1.ts t = smT Y.L t := fun t ht => by
    rcases h1 with ⟨b, hb, rfl⟩ | ⟨hb, b, hb0, mb0, hb1, mb1, hb2, mb2, rfl⟩
    · exact hv.ts t ht
    · show updT Y.ts j.nm sm0 t = _
      unfold updT
      by_cases e : t = j.nm
      · rw [if_pos e]
        exact (smT_none (fun he => by have := (hv.tb t).2 he; rw [e, hb] at this; cases this)).symm
      · rw [if_neg e]
        exact hv.ts t (((tb1 t).1 ht).resolve_left e)
  have nsm : Y.sm.add j.st j.pr 1 = smL (insE Y.L ⟨j, bv, body, tkOf S 0, tkOf S 1⟩) := by rw [smL_ins, hv.sm]
  have nts : ∀ t, (Y1.tb t).isSome = true → updT Y1.ts j.nm ((Y1.ts j.nm).add j.st j.pr 1) t = smT (insE Y.L ⟨j, bv, body, tkOf S 0, tkOf S 1⟩) t := fun t ht => by
    rw [smT_ins]
    unfold updT
    by_cases e : t = j.nm
    · subst e
      rw [if_pos rfl, if_pos rfl, ts1 _ ht]
    · rw [if_neg e, if_neg (fun e2 => e e2.symm), ts1 t ht]
  have hfl : ∀ t, (smT (insE Y.L ⟨j, bv, body, tkOf S 0, tkOf S 1⟩) t).small := fun t => smL_small (by
    have := List.length_filter_le (fun e : En => decide (e.j.nm = t)) (insE Y.L ⟨j, bv, body, tkOf S 0, tkOf S 1⟩)
    rw [insE_len] at this
    omega)
  have hlk1 : Lk Y.L Y1.hp := iv.lk.one (fun hb e he hne => by have := (hv.tb j.nm).2 ⟨e, he, hne⟩; rw [hb] at this; cases this) h1
  have hlk2 : Lk Y.L Y2.hp := hlk1.two h2
  have hlk3 : Lk (insE Y.L ⟨j, bv, body, tkOf S 0, tkOf S 1⟩) (PuY Y2 S).hp := hlk2.laid h3 h4 (fun K hK => by
    rw [← h4] at hK
    obtain ⟨p, hp, rfl⟩ := List.mem_map.1 (List.mem_reverse.1 hK)
    exact pushes_src S h3 p hp)
  have hno3 : ∀ k t, k ≤ 2 → Y1.tb t = none → (PuY Y2 S).hp (hkT k t) = none := fun k t hk ht => by
    cases hx : (PuY Y2 S).hp (hkT k t) with
    | none => rfl
    | some x =>
      exfalso
      obtain ⟨h0, g0, _⟩ := pushes_row S h3 _ x hx
      have g1 : Y1.hp (hkT k t) = some h0 := by
        rcases h2 with ⟨_, rfl⟩ | ⟨_, _, hb, mb, rfl⟩
        · exact g0
        · exact (updH_ne Y1.hp (some (hm0 hb mb)) (hk_ne (by show k ≠ 3; omega))).symm.trans g0
      have hne : t ≠ j.nm ∧ Y.tb t = none := by
        constructor
        · rintro rfl
          obtain ⟨b, hb⟩ := h1.tb
          rw [hb] at ht
          cases ht
        · cases hy : Y.tb t with
          | none => rfl
          | some b =>
            have := (tb1 t).2 (.inr (by rw [hy]; rfl))
            rw [ht] at this
            cases this
      have g2 : Y.hp (hkT k t) = some h0 := by
        rcases h1 with ⟨b, hb, rfl⟩ | ⟨hb, b, hb0, mb0, hb1, mb1, hb2, mb2, rfl⟩
        · exact g1
        · have g1 : (if hkT k t = hkT 0 j.nm then some (hm0 hb0 mb0) else if hkT k t = hkT 1 j.nm then some (hm0 hb1 mb1) else if hkT k t = hkT 2 j.nm then some (hm0 hb2 mb2) else Y.hp (hkT k t)) = some h0 := g1
          rw [if_neg (fun e => hne.1 (hkT_inj e).2), if_neg (fun e => hne.1 (hkT_inj e).2), if_neg (fun e => hne.1 (hkT_inj e).2)] at g1
          exact g1
      rw [iv.no k t hk hne.2] at g2
      cases g2
  refine ⟨lab', _, h5, ⟨⟨⟨fun K g hg => ?_, ?_, ?_, ?_, ?_, fun t => ?_⟩, ?_, ?_, nsm, fun t ht => ?_, fun t => ?_⟩, hlk3, fun k t hk ht => ?_⟩, ⟨_, _, rfl⟩, h6, h7⟩
  · have := f3.heap K g hg
    exact ⟨this.1, by have := this.2.1; omega, by have := this.2.2.1; omega, this.2.2.2⟩
  · have := f3.nt; show (PuY Y2 S).nt ≤ N + 4; omega
  · have := f3.nh; show (PuY Y2 S).nh ≤ N + 4; omega
  · show (insE Y.L _).length ≤ N + 4; rw [insE_len]; omega
  · show (Y.sm.add j.st j.pr 1).small
    rw [nsm]
    exact smL_small (by rw [insE_len]; omega)
  · show (updT Y1.ts j.nm ((Y1.ts j.nm).add j.st j.pr 1) t).small
    by_cases ht : (Y1.tb t).isSome = true
    · rw [nts t ht]; exact hfl t
    · unfold updT
      rw [if_neg (fun e => ht ((tb1 t).2 (.inl e)))]
      exact f1.ts t
  · exact insE_sorted _ _ hv.rise hno
  · intro e he
    rcases (mem_insE _ _).1 he with rfl | he
    · exact hj
    · exact hv.ok e he
  · have ht : ((PuY Y2 S).tb t).isSome = true := ht
    rw [p1, htb2] at ht
    exact nts t ht
  · show ((PuY Y2 S).tb t).isSome = true ↔ _
    rw [p1, htb2, tb1 t, hv.tb t]
    constructor
    · rintro (rfl | ⟨e, he, rfl⟩)
      · exact ⟨_, (mem_insE _ _).2 (.inl rfl), rfl⟩
      · exact ⟨e, (mem_insE _ _).2 (.inr he), rfl⟩
    · rintro ⟨e, he, rfl⟩
      rcases (mem_insE _ _).1 he with rfl | he
      · exact .inl rfl
      · exact .inr ⟨e, he, rfl⟩
  · have ht : (PuY Y2 S).tb t = none := ht
    rw [p1, htb2] at ht
    exact hno3 k t hk ht
theorem Iv.more {Y : Yd} {N M : Nat} (h : Iv Y N) (hM : N ≤ M) : Iv Y M := ⟨h.inv.more hM, h.lk, h.no⟩
theorem iv0 (jm : Nat) (d r : HM) (hd : d.R = []) (hr : r.R = []) (hdl : d.last = 0) (hrl : r.last = 0) : Iv (yd0 jm d r) 0 := by
  refine ⟨inv0 jm d r hd hr hdl hrl, lk0 (fun K x hx => ?_), fun k t hk _ => ?_⟩
  · have hx : (if K = hkD then some d else if K = hkR then some r else none) = some x := hx
    split at hx
    · cases hx; exact hd
    · split at hx
      · cases hx; exact hr
      · cases hx
  · show (if hkT k t = hkD then some d else if hkT k t = hkR then some r else none) = none
    rw [if_neg (hk_ne (by show k ≠ 4; omega)), if_neg (hk_ne (by show k ≠ 5; omega))]
/-- A yard that was made here. -/
structure Fi (w : World) (yb N : Nat) (lab : Nat → HK) (Y : Yd) (wr : World) : Prop where
  yard : YAt wr lab yb Y
  iv : Iv Y N
  bel : Below w.heap.size w wr
  labs : ∀ k, k < w.heap.size → lab k = uT
/-- A new block of another's does not disturb it. -/
theorem Fi.alloc {w : World} {yb N : Nat} {lab : Nat → HK} {Y : Yd} {wr : World} (h : Fi w yb N lab Y wr) (o : Obj) : Fi w yb N lab Y (wr.alloc o) := by
  have b := (Below.refl _ wr).alloc (Nat.le_refl _) o
  exact ⟨h.yard.below b (fun _ _ => rfl), h.iv, h.bel.trans (b.mono h.bel.size), h.labs⟩
theorem Fi.add {w : World} {yb N : Nat} {lab : Nat → HK} {Y : Yd} {wr w' : World} {j : Jb} {l : List UInt8} (h : Fi w yb N lab Y wr) (hN : N ≤ 100000000) (hj : j.ok) (ha : Added wr lab yb Y j l w') : ∃ lab' Y', Fi w yb (N + 4) lab' Y' w' := by
  have hs := h.bel.size
  by_cases h0 : addE Y.L j l.length = 0
  · obtain ⟨bv, w5, lab5, a5, _, l5, k5, hL⟩ := ha.1 h0
    obtain ⟨e1, e2, e3, e4, e5⟩ := addE_zero h0
    obtain ⟨lab', Y', a6, i6, _, l6, k6⟩ := h.iv.laid (by omega) hL e1 ⟨hj, e2, e3, e4, e5⟩
    have b5 : Below w.heap.size wr w5 := k5.below hs (fun _ _ h => h)
    have hl5 : ∀ k, k < w.heap.size → lab5 k = uT := fun k hk => (l5 k (by omega)).trans (h.labs k hk)
    have s5 := k5.size
    have b6 : Below w.heap.size w5 w' := k6.below (by omega) (fun k hk hO => by
      unfold Ours at hO
      rw [hl5 k hk] at hO
      exact absurd hO (by decide))
    exact ⟨lab', Y', a6, i6, h.bel.trans (b5.trans b6), fun k hk => (l6 k (by omega)).trans (hl5 k hk)⟩
  · obtain ⟨lab', a5, l5, k5⟩ := ha.2 h0
    exact ⟨lab', Y, a5, h.iv.more (by omega), h.bel.trans (k5.below hs (fun _ _ h => h)), fun k hk => (l5 k (by omega)).trans (h.labs k hk)⟩
set_option maxHeartbeats 4000000 in
set_option maxRecDepth 1000000 in
theorem filledI_any (a : Option Addr) (c : Nat) (l : List Jn) (w : World) (hl : IsJobs w a c l) (hb : (l.map Jn.bulk).sum ≤ 1048576) :
    Calls Try.prog 6 #[.slice a l.length c] w fun e w' => ∃ yb lab Y, e = .returned (ptrV yb) ∧ Fi w yb (4 * l.length) lab Y w' := by
  obtain ⟨n, hn⟩ : ∃ n, n = l.length := ⟨_, rfl⟩
  have hnl : n ≤ 524288 := by have := bulk_count l; omega
  have HL : Hid (IsJobs w a c l ∧ n = l.length ∧ (l.map Jn.bulk).sum ≤ 1048576) := ⟨hl, hn, hb⟩
  have CN : Hid (Calls Try.prog 16 #[] w fun e w' => ∃ yb lab Y, e = .returned (ptrV yb) ∧ Fi w yb 0 lab Y w') := by
    refine (new_any w (fun _ => uT)).mono ?_
    rintro e w' ⟨yb, lab', d, r, rfl, ha, h1, h2, h3, h4, h5, h6⟩
    exact ⟨yb, lab', _, rfl, ha, iv0 _ d r h1 h2 h3 h4, h6, h5⟩
  rw [← hn]
  clear hl hn hb
  go_enter Try.func6, Try.ntmps6
  go_wp2_with (first
    | (go_at_call 16; refine CN.out.mono ?_; rintro e w1 ⟨yb, lab1, Y1, rfl, F1⟩; have H1 : Hid (Fi w yb 0 lab1 Y1 w1) := F1; clear F1))
  go_loopw [11] (fun i wr => ∃ (k : Nat) (labr : Nat → HK) (Y : Yd), i = .int .i64 k ∧ k ≤ n ∧ Hid (Fi w yb (4 * k) labr Y wr)) (fun i _ => n - (intOf i).toNat)
  case atStart => exact ⟨0, lab1, Y1, rfl, Nat.zero_le _, H1⟩
  case round =>
    obtain ⟨k, labr, Y, rfl, hk, HF⟩ := hrel
    clear H1 CN
    by_cases hlt : k < n
    · have hltI : (k : Int) < (n : Int) := by omega
      have hk0 : (0 : Int) ≤ (k : Int) := by omega
      obtain ⟨y, hy⟩ : ∃ y, l[k]? = some y := ⟨_, List.getElem?_eq_getElem (by rw [← HL.out.2.1]; exact hlt)⟩
      have hym := List.mem_of_getElem? hy
      have IJ := HL.out.1.below HF.out.bel
      obtain ⟨lb, lo, rfl, llt, lc⟩ := IJ.2.2.2.resolve_left (fun e => by rw [e] at hym; cases hym)
      have RG : Hid (wr.rangeAt lb (lo + k * 16) y.row) := lc k y hy
      have hlb := llt
      obtain ⟨w2, hw2⟩ : ∃ w2, w2 = wr.alloc (.cells (y.j.cells y.bv) 41) := ⟨_, rfl⟩
      have HW2 : Hid (w2 = wr.alloc (.cells (y.j.cells y.bv) 41)) := hw2
      have CA : Hid (Calls Try.prog 18 #[ptrV yb, .agg (y.j.cells y.bv)] w2 fun e w' => ∃ m lab' Y', e = .returned (.int .i64 m) ∧ Fi w yb (4 * k + 4) lab' Y' w') := by
        have F2 : Fi w yb (4 * k) labr Y w2 := by rw [hw2]; exact HF.out.alloc _
        have hbk : 2 + y.j.nm.size + y.body.length ≤ _ := bulk_each hym
        have := HL.out.2.2
        have ok := IJ.2.2.1 y hym
        have okb : IsBytes w2 y.a y.c y.body := by rw [hw2]; exact ok.1.below ((Below.refl _ wr).alloc (Nat.le_refl _) _)
        refine (add_any y.j y.a y.c y.body w2 labr yb Y (4 * k) F2.yard ok.2 okb (by omega) (by omega) F2.iv.inv.few (by omega)).mono ?_
        rintro e w' ⟨rfl, hA⟩
        obtain ⟨lab', Y', F3⟩ := F2.add (by omega) ok.2 hA
        exact ⟨_, lab', Y', rfl, F3⟩
      have H1c : Hid ((y.j.cells y.bv).all (·.oneCell') = true) := job_one _ _ _ _
      clear hw2 IJ lc hy hym llt
      go_wp2_with (first
        | (refine wpList_load_mid rfl 41 (.tmp 13) rfl lb (lo + k * 16) rfl (y.j.cells y.bv).toList _ RG.out Try.underlying41 rfl (by rw [Array.length_toList]; exact job_size y.j y.bv) ?_; rw [Array.toArray_toList])
        | (refine wpList_made rfl (run_allocJ rfl) ?_)
        | (refine wpList_store_new rfl 41 (.tmp 5) (.tmp 14) rfl (y.j.cells y.bv) rfl rfl 41 _ (job_size y.j y.bv) rfl H1c.out ?_; rw [← HW2.out])
        | (refine wpList_load_row rfl 41 (.tmp 5) rfl wr.heap.size rfl 41 (y.j.cells y.bv) (0, 0) _ (by rw [HW2.out]; exact heap_alloc_new wr _) Try.underlying41 rfl (job_size y.j y.bv) ?_)
        | (go_at_call 18; refine CA.out.mono ?_; rintro e w3 ⟨m, lab3, Y3, rfl, F3⟩; have H3 : Hid (Fi w yb (4 * k + 4) lab3 Y3 w3) := F3; clear F3))
      exact ⟨⟨k + 1, lab3, Y3, by go_num, by omega, H3⟩, by simp [intOf]; omega⟩
    · have hltI : ¬ (k : Int) < (n : Int) := by omega
      go_wp2_with fail
      go_ret
      obtain rfl : k = n := by omega
      exact ⟨yb, rfl, labr, Y, HF.out⟩
end Go.Proofs.Ytonfdmbcbfpgdaa
