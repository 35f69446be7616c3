/-
  The walk of Tubes.
-/
import Derived.Test.YtogmobkkpmpdcaaSTubes
namespace Go.Proofs.Ytogmobkkpmpdcaa
open Go.RowKit Go.Maps
attribute [local go_sem] Oper.semAt_some wide_fn
set_option maxHeartbeats 8000000 in
set_option maxRecDepth 1000000 in
theorem tubes_any (B : Nat) (w : World) (lab : Nat → Int) (sb : Nat) (S : Sx) (N : Nat) (h : SAt B w lab sb S) (hn : S.nn ≤ 64) (hN : N ≤ 10000000) (hv : ∀ i x, S.F i = some x → validB x.us.data.toList = true ∧ x.n ≤ N) :
    Calls Try.prog 11 #[ptrV sb] w fun e w' => ∃ (v : Value) (g : Text → Option Int) (T : List RowT) (ss : List Int), e = .returned v ∧ Listed g T ∧ Cov S ss g ∧ (∀ i, i ∈ ss ↔ (S.F i).isSome = true) ∧ w'.ownsRow w.heap.size 9 1 v T.length (T.map fun r => encStr r.1) ∧ Below w.heap.size w w' := by
  have HS : Hid (SAt B w lab sb S) := h
  have HV : Hid (∀ i x, S.F i = some x → validB x.us.data.toList = true ∧ x.n ≤ N) := hv
  have c0 := h.cell0.1
  have slt := h.lt
  obtain ⟨D, hown, hsz, hat⟩ := h.tab
  have HO : Hid (w.ownsMap Try.prog 3 heldElemI S.mb S.nn D) := hown
  have HZ : Hid (Maps.size D = S.nn) := hsz
  have HG : Hid (∀ i : Int, has D (keyI i) = ((S.F i).map (fun x => ptrV x.blk)).isSome ∧ ∀ v, (S.F i).map (fun x => ptrV x.blk) = some v → ∀ d, D.atKey (keyI i) d = .held v) := hat
  have hml : S.mb < w.heap.size := hown.lt
  have CN : Hid (Calls Try.prog 30 #[] w fun e w' => ∃ b mb, e = .returned (.pointer (some ⟨b, 0, none⟩)) ∧ BookAt w' b mb 0 (fun _ => none) ∧ Below w.heap.size w w' ∧ w.heap.size ≤ b ∧ w.heap.size ≤ mb) := new_any w
  clear h hown hsz hat hv
  refine (callsIn_wide (n := 3)).1 ?_
  refine callsIn_of_wp_marks Try.func11 rfl trivial ?_ rfl
  simp only [Try.ntmps11, List.size_toArray, List.length_cons, List.length_nil, Nat.reduceAdd, Nat.reduceSub, Array.replicate_succ, Array.replicate_zero, List.push_toArray, List.append_toArray, List.nil_append, List.cons_append]
  refine wpIn_wide.2 ?_
  go_upto_region 2 with (go_at_call 30; refine CN.out.mono ?_; rintro e w1 ⟨ab, am, rfl, k1, b1, l1, m1⟩; have H1 : Hid (BookAt w1 ab am 0 (fun _ => none) ∧ Below w.heap.size w w1 ∧ w.heap.size ≤ ab ∧ w.heap.size ≤ am) := ⟨k1, b1, l1, m1⟩; clear k1 b1 l1 m1)
  obtain ⟨w2, hw2⟩ : ∃ w2, w2 = w1.alloc (.cells #[ptrV ab] 60) := ⟨_, rfl⟩
  have BK : Hid (Bok w ab am w1.heap.size 0 (fun _ => none) w2 ∧ ab < w2.heap.size ∧ am < w2.heap.size ∧ w1.heap.size < w2.heap.size) := by
    obtain ⟨k1, b1, l1, m1⟩ := H1.out
    have b2 : Below w1.heap.size w1 w2 := by rw [hw2]; exact (Below.refl _ w1).alloc (Nat.le_refl _) _
    have z2 : w2.heap.size = w1.heap.size + 1 := by rw [hw2]; simp
    have y1 : ab < w1.heap.size := cell_lt k1.cell
    have y2 := k1.tab.lt
    exact ⟨⟨⟨0, k1.below b2, Nat.le_refl _⟩, fun t => by show (0 : Int) ≤ 0; decide, by rw [hw2]; exact heap_alloc_new w1 _, l1, m1, b1.size, b1.trans (b2.mono b1.size)⟩, by omega, by omega, by omega⟩
  rw [← hw2]
  have c02 := (BK.out.1.bel.cell (p := ⟨sb, 0, none⟩) slt).trans c0
  have slt2 := Nat.lt_of_lt_of_le slt BK.out.1.bel.size
  obtain ⟨b3, hb3⟩ : ∃ b3, b3 = w1.heap.size := ⟨_, rfl⟩
  rw [← hb3]
  rw [← hb3] at BK
  clear hw2 hb3 H1 CN
  have HO2 : Hid (w2.ownsMap Try.prog 3 heldElemI S.mb S.nn D) := by
    obtain ⟨es, clock, hb, Ft, hs, hD⟩ := HO.out
    exact ⟨es, clock, (BK.out.1.bel.block _ hml).trans hb, Ft, hs, hD⟩
  go_wp2_with (at_range; refine wpList_range_own _ rfl _ 47 rfl 3 57 keyedI Try.underlying47 _ S.mb S.nn _ rfl HO2.out ?_; intro w0 hrg0 hg0 hs0)
  go_frame
  obtain ⟨it, hit⟩ : ∃ it, it = w2.heap.size := ⟨_, rfl⟩
  rw [← hit]
  rw [← hit] at hrg0
  have LT : Hid (ab < it ∧ am < it ∧ b3 < it ∧ w.heap.size ≤ it) := by rw [hit]; exact ⟨BK.out.2.1, BK.out.2.2.1, BK.out.2.2.2, BK.out.1.bel.size⟩
  have T0 : Hid (TI w S D it ab am b3 N [] (has D) (Maps.size D) [] (fun _ => none) w0) := by
    refine ⟨hrg0, by rw [HZ.out]; simp, ⟨List.nodup_nil, fun i => ?_⟩, fun t => by simp, ?_, ⟨List.nodup_nil, fun d hd => by cases hd⟩⟩
    · rw [(HG.out i).1, Option.isSome_map]
      simp only [List.not_mem_nil, false_iff]
      rintro ⟨h1, h2⟩
      rw [h1] at h2
      cases h2
    · rw [List.length_nil, Nat.zero_mul]
      exact BK.out.1.own (C := it) hg0 (fun r e => by cases e) (fun r hr => by have := LT.out; omega)
  clear hrg0 hg0 hs0 hit BK HO2 c02 slt2
  refine wp_loop (TInv w S D it ab am b3 N sb) (fun _ W => W.rangeLeft S.mb it) ?_ ?_
  · exact ⟨_, _, _, _, _, _, _, _, _, _, _, _, _, _, _, _, _, _, _, _, _, _, [], _, _, [], _, rfl, T0⟩
  · rintro a wr ⟨u5, u6, u13, u14, u15, u16, u17, u18, u19, u20, u21, u22, u23, u24, u25, u26, u27, u28, u29, u30, u31, u32, ds, left, cnt, ss, g, rfl, HT⟩
    clear T0
    obtain ⟨dm, hdm⟩ : ∃ dm, dm = ds.map markOf := ⟨_, rfl⟩
    have HDM : Hid (dm = ds.map markOf) := hdm
    rw [← hdm]
    clear hdm
    go_wp2_with (at_next; refine wpList_next_ranges _ rfl _ rfl 3 keyedI heldElemI (Value.int .i64) (fun v : Value => v) (fun key kl hk => by obtain ⟨x, hx, _⟩ := Maps.keyOf_int_inv Try.underlying3 hk; exact ⟨x, hx⟩) (fun v y _ => ⟨v, rfl⟩) S.mb it S.nn _ _ _ rfl HT.out.rg ?_ ?_)
    · intro hc1 hl0
      have hcov : Cov S ss g := HT.out.cov
      have hss : ∀ i, i ∈ ss ↔ (S.F i).isSome = true := fun i => by rw [HT.out.seen.mem i]; simp [hl0]
      obtain ⟨n, hbk, hnc⟩ := HT.out.bok.book
      have hsl : ss.length ≤ 64 := by have := HT.out.cs; omega
      have hnb : n ≤ 1073741823 := by
        have h1 : ss.length * (N + 1) ≤ 64 * 10000001 := Nat.mul_le_mul hsl (by omega)
        omega
      obtain ⟨T, hT, _, _⟩ := hbk.listed
      have CNM : Hid (Calls Try.prog 33 #[.pointer (some ⟨ab, 0, none⟩)] wr fun e w' => ∃ v, e = .returned v ∧ w'.ownsRow wr.heap.size 9 1 v T.length (T.map fun r => encStr r.1) ∧ Below wr.heap.size wr w') := (names_any wr ab am n g T hbk hnb hT).mono fun e w' ⟨gb, cap, h1, h2, h3⟩ => ⟨_, h1, h2, h3⟩
      have cB : wr.cell? ⟨b3, 0, none⟩ = some (ptrV ab) := by simp [World.cell?, HT.out.bok.box]
      have HL : Hid (Listed g T ∧ Cov S ss g ∧ ∀ i, i ∈ ss ↔ (S.F i).isSome = true) := ⟨hT, hcov, hss⟩
      clear hc1 hl0 hcov hss hbk hnc hsl hnb hT
      go_wp2_with (go_at_call 33; refine CNM.out.mono ?_; rintro e w4 ⟨v, rfl, o4, b4⟩; have H4 : Hid (w4.ownsRow wr.heap.size 9 1 v T.length (T.map fun r => encStr r.1) ∧ Below wr.heap.size wr w4) := ⟨o4, b4⟩; clear o4 b4)
      rw [HDM.out]
      have bl := HT.out.bok.bel
      refine leaves_marks w (fun W => W.ownsRow w.heap.size 9 1 v T.length (T.map fun r => encStr r.1) ∧ Below w.heap.size w W) (fun W d hW hd hK => ?_) (fun W hW => ?_) ds w4 ?_ ?_
      · have hg := grownBy_putObj' W d (.deferred none)
        have hr : ∀ r, some d = some r → 0 ≤ r ∧ ∃ o : Obj, W.heap[r]? = some o ∧ o.isCells = false := fun r e => by cases e; exact ⟨Nat.zero_le _, _, hK, rfl⟩
        refine ⟨⟨hW.1.1, ?_⟩, hW.2.grown hg hW.2.size (fun k e => by cases e; exact hd)⟩
        rcases hW.1.2 with h0 | ⟨gq, cap, cur, hq, hB, hgg, rest⟩
        · exact .inl h0
        · exact .inr ⟨gq, cap, cur, hq, hB, cells_own hgg hg hr, rest⟩
      · exact ⟨v, by simp [results, Try.f11, go_sem], v, g, T, ss, rfl, HL.out.1, HL.out.2.1, HL.out.2.2, hW.1, hW.2⟩
      · exact ⟨HT.out.mks.1, fun d hd => ⟨(HT.out.mks.2 d hd).1, (H4.out.2.block d (Array.getElem?_eq_some_iff.1 (HT.out.mks.2 d hd).2).1).trans (HT.out.mks.2 d hd).2⟩⟩
      · refine ⟨⟨H4.out.1.1, ?_⟩, bl.trans (H4.out.2.mono bl.size)⟩
        rcases H4.out.1.2 with h0 | ⟨gq, cap, cur, hq, hB, rest⟩
        · exact .inl h0
        · exact .inr ⟨gq, cap, cur, hq, Nat.le_trans bl.size hB, rest⟩
    · intro x v kl yd yp w3 cnt2 hkey hlk hv hat hrg2 hlt hg2 hs2 hen
      obtain ⟨x', ex, rfl, hxl⟩ := Maps.keyOf_int_inv Try.underlying3 hkey
      cases ex
      have hy : yd = .held v := by
        have : some ((.held v, []) : DataW Value × List MemPlace) = some (yd, yp) := hv
        cases this
        rfl
      have hF : ∃ X, S.F x = some X ∧ v = ptrV X.blk := by
        have h1 := has_true_of_atKey hat
        rw [show has D (Lit.int .i64 x) = has D (keyI x) from rfl, (HG.out x).1, Option.isSome_map] at h1
        obtain ⟨X, hX⟩ := Option.isSome_iff_exists.1 h1
        refine ⟨X, hX, ?_⟩
        have h2 := (HG.out x).2 (ptrV X.blk) (by rw [hX]; rfl) (.held v)
        have h3 := hat (.held v)
        rw [hy] at h3
        have h4 := h2.symm.trans h3
        simpa using h4.symm
      obtain ⟨X, hX, rfl⟩ := hF
      have BK3 : Bok w ab am b3 (ss.length * (N + 1)) g w3 := HT.out.bok.own (C := it) hg2 (fun r e => by cases e; exact Nat.le_refl _) (fun r hr => by have := LT.out; omega)
      have SN2 : Seen S (fun z => left z && !z.sameKey (Lit.int .i64 x)) (ss ++ [x]) := HT.out.seen.step (by rw [hX]; rfl) hlk
      have MK3 : Marks w w3 ds := ⟨HT.out.mks.1, fun d hd => ⟨(HT.out.mks.2 d hd).1, (hg2.block d (Array.getElem?_eq_some_iff.1 (HT.out.mks.2 d hd).2).1 (fun e => by
        have e : d = it := by simpa using e
        have h5 := (HT.out.mks.2 d hd).2
        obtain ⟨_, _, _, _, _, _, _, _, _, hio, _⟩ := HT.out.rg
        rw [e, hio] at h5
        cases h5)).trans (HT.out.mks.2 d hd).2⟩⟩
      obtain ⟨hvu, hxn⟩ := HV.out x X hX
      have XC : CnAt w3 lab x X := (HS.out.each x X hX).kept (P := fun _ => False) (Kept.ofBelow (BK3.bel.mono (Nat.le_refl _))) (fun _ _ h => h.elim) (fun _ _ => rfl)
      obtain ⟨L, hL, hLn, hLl⟩ := XC.book.listed
      obtain ⟨n3, hb3', hn3⟩ := BK3.book
      obtain ⟨c3, hc3⟩ : ∃ c3, c3 = ss.length * (N + 1) := ⟨_, rfl⟩
      have hsl : ss.length + 1 ≤ 64 := by have := HT.out.cs; omega
      have hcb : c3 ≤ 640000064 := by
        have h1 : ss.length * (N + 1) ≤ 64 * 10000001 := Nat.mul_le_mul (by omega) (by omega)
        omega
      rw [← hc3] at BK3 hn3
      have cov0 : CovM S ss X [] (holdG g X.us.data.toList) := fun u => by
        rw [hold_some g hb3'.pos hvu u, HT.out.cov u]
        simp only [List.map_nil, List.not_mem_nil, or_false]
        constructor
        · rintro (h1 | h1)
          · exact .inr h1.symm
          · exact .inl h1
        · rintro (h1 | h1)
          · exact .inr h1
          · exact .inl h1.symm
      have CH : Hid (∀ W, Below w3.heap.size w3 W → Calls Try.prog 31 #[.pointer (some ⟨ab, 0, none⟩), .string X.us] W fun e w' => ∃ z y : Int, e = .returned (.tuple #[.int .i64 z, .int .i64 y]) ∧ TM w S D it ab am b3 (c3 + 1) ds (fun z => left z && !z.sameKey (Lit.int .i64 x)) cnt2 ss X [] (holdG g X.us.data.toList) w') := fun W hW => by
        have hgW : w3.grownBy W none := ⟨hW.os, hW.tape, hW.output, hW.size, fun k hk _ => hW.block k hk⟩
        have bokW : Bok w ab am b3 c3 g W := BK3.own (C := W.heap.size) hgW (fun r e => by cases e) (fun r hr => by have h1 := LT.out; have h2 := hW.size; have h3 := (Array.getElem?_eq_some_iff.1 (show w3.heap[b3]? = _ from BK3.box)).1; have h4 := hb3'.tab.lt; have h5 : ab < w3.heap.size := cell_lt hb3'.cell; have h6 := BK3.bel.size; omega)
        refine (hold_any W ab am n3 g X.us (hb3'.below hW) (by have := valid_len hvu; unfold maxLen; omega) (by unfold maxLen; omega) (by have := BK3.cnt X.us.data.toList; omega)).mono ?_
        rintro e w' ⟨rfl, k1, k2⟩
        refine ⟨held g X.us.data.toList + 1, 0, by unfold holdE; rw [hvu]; rfl, ?_⟩
        have hcovU : CovM S ss X [] (holdG g X.us.data.toList) := cov0
        have hl := bokW.lm
        have lt := LT.out
        have mkW : Marks w W ds := ⟨MK3.1, fun d hd => ⟨(MK3.2 d hd).1, (hW.block d (Array.getElem?_eq_some_iff.1 (MK3.2 d hd).2).1).trans (MK3.2 d hd).2⟩⟩
        have rgW := hrg2.kept hgW (by simp) (by simp)
        refine ⟨rgW.kept (row := some am) ⟨k2.os, k2.tape, k2.output, k2.size, fun k hk' hne => k2.block k hk' (fun e => hne (by rw [show k = am from e]))⟩ (by simp; omega) (by simp; omega), bokW.hold k1 hn3 k2, hcovU, mkW.1, fun d hd => ⟨(mkW.2 d hd).1, (k2.block d (Array.getElem?_eq_some_iff.1 (mkW.2 d hd).2).1 (fun e => ?_)).trans (mkW.2 d hd).2⟩⟩
        have e : d = am := e
        obtain ⟨es, cl, hm⟩ := (hb3'.below hW).tab.map
        have hx := (mkW.2 d hd).2
        rw [e, hm] at hx
        cases hx
      have q0 : w3.cell? ⟨X.blk, 0, none⟩ = some (.string X.us) := (XC.cell 0).trans rfl
      have cB : w3.cell? ⟨b3, 0, none⟩ = some (ptrV ab) := by simp [World.cell?, BK3.box]
      have blt := XC.lt.1
      have HXX : Hid (S.F x = some X ∧ Listed X.g L ∧ L.length ≤ N ∧ X.n ≤ N) := ⟨hX, hL, by omega, hxn⟩
      have H3 : Hid (Seen S (fun z => left z && !z.sameKey (Lit.int .i64 x)) (ss ++ [x]) ∧ c3 = ss.length * (N + 1) ∧ cnt2 < cnt ∧ ss.length + cnt ≤ S.nn) := ⟨SN2, hc3, hlt, HT.out.cs⟩
      have hrl : wr.rangeLeft S.mb it = cnt := HT.out.rg.left_eq
      have HRL : Hid (wr.rangeLeft S.mb it = cnt) := hrl
      clear hrl hkey hv hat hrg2 hg2 hs2 hxl hy hX BK3 SN2 MK3 hvu hxn XC hL hLn hLl hb3' hn3 cov0 hlk hlt hc3 HT
      go_upto_region 5 with fail
      refine (wpIn_wide (n := 3)).1 ?_
      refine wide_tail 5 mixed (by kernel_rfl) (by kernel_rfl) ?_
      simp only [List.take_succ_cons, List.take_zero, List.drop_succ_cons, List.drop_zero]
      repeat still_step
      refine wpStill_nil ?_
      gi_wp2
      refine (callsIn_wide.2 (CH.out _ (Below.refl _ w3).drew)).mono ?_
      rintro e w4 ⟨z4, y4, rfl, m4⟩
      have H4 : Hid (TM w S D it ab am b3 (c3 + 1) ds (fun z => left z && !z.sameKey (Lit.int .i64 x)) cnt2 ss X [] (holdG g X.us.data.toList) w4) := m4
      have XC4 : CnAt w4 lab x X := (HS.out.each x X HXX.out.1).kept (P := fun _ => False) (Kept.ofBelow (m4.bok.bel.mono (Nat.le_refl _))) (fun _ _ h => h.elim) (fun _ _ => rfl)
      have q1 : w4.cell? ⟨X.blk, 1, none⟩ = some (ptrV X.bb) := (XC4.cell 1).trans rfl
      have blt4 := XC4.lt.1
      have CA : Hid (Calls Try.prog 32 #[.pointer (some ⟨X.bb, 0, none⟩)] w4 fun e w' => e = .returned (allV w4.heap.size) ∧ boxed w' w4.heap.size X.bb ∧ Below w4.heap.size w4 w') := all_any w4 X.bb
      have HX4 : Hid (BookAt w4 X.bb X.bm X.n X.g) := XC4.book
      clear m4 XC4 CH cB q0 blt
      gi_wp2
      go_wp2_with (go_at_call 32; refine CA.out.mono ?_; rintro e w5 ⟨rfl, x5, b5⟩; have H5 : Hid (boxed w5 w4.heap.size X.bb ∧ Below w4.heap.size w4 w5) := ⟨x5, b5⟩; clear x5 b5)
      obtain ⟨cb, hcb⟩ : ∃ cb, cb = w4.heap.size := ⟨_, rfl⟩
      rw [← hcb]
      rw [← hcb] at H5
      have T5 : Hid (TM w S D it ab am b3 (c3 + 1) ds (fun z => left z && !z.sameKey (Lit.int .i64 x)) cnt2 ss X [] (holdG g X.us.data.toList) w5 ∧ BookAt w5 X.bb X.bm X.n X.g ∧ boxed w5 cb X.bb) := by
        have b5 := H5.out.2
        have hz : cb = w4.heap.size := hcb
        rw [hz] at b5
        have lt := LT.out
        have itl : it < w4.heap.size := by
          obtain ⟨_, _, _, _, _, _, _, _, _, hio, _⟩ := H4.out.rg
          exact (Array.getElem?_eq_some_iff.1 hio).1
        refine ⟨H4.out.own (C := w4.heap.size) (row := none) ⟨b5.os, b5.tape, b5.output, b5.size, fun k hk _ => b5.block k hk⟩ (fun r e => by cases e) ⟨by omega, by omega, by omega, itl, by have := H4.out.bok.bel.size; omega, H4.out.bok.bel.size, fun d hd => (Array.getElem?_eq_some_iff.1 (H4.out.mks.2 d hd).2).1⟩, HX4.out.below b5, H5.out.1⟩
      clear hcb H5 H4 HX4 CA q1 blt4
      unfold allV
      have LTC : Hid (ab < w5.heap.size ∧ am < w5.heap.size ∧ b3 < w5.heap.size ∧ it < w5.heap.size ∧ S.mb < w5.heap.size ∧ w.heap.size ≤ w5.heap.size ∧ ∀ d ∈ ds, d < w5.heap.size) := by
        have lt := LT.out
        have itl : it < w5.heap.size := by
          obtain ⟨_, _, _, _, _, _, _, _, _, hio, _⟩ := T5.out.1.rg
          exact (Array.getElem?_eq_some_iff.1 hio).1
        have := T5.out.1.bok.bel.size
        exact ⟨by omega, by omega, by omega, itl, by omega, by omega, fun d hd => (Array.getElem?_eq_some_iff.1 (T5.out.1.mks.2 d hd).2).1⟩
      refine (wpIn_wide (n := 3)).1 ?_
      refine wpIn_told rfl (by omega) (gf := 55) (lb := #[.pointer (some ⟨cb, 0, none⟩)]) rfl trivial (enters_of Try.func55 (by kernel_rfl) rfl)
        (all_told 2 cb X.bb X.bm X.n X.g L w5 T5.out.2.1 T5.out.2.2 (by have := HXX.out.2.2.2; omega) HXX.out.2.1) (fun h k => h.trans k) (fun W l o o' _ hl ho _ => Kp.put W l o o' hl ho) (Below.refl _ _) (fun _ => rfl)
        (fun pre W => pre <+: L ∧ ∃ g', TM w S D it ab am b3 (c3 + 1 + pre.length) ds (fun z => left z && !z.sameKey (Lit.int .i64 x)) cnt2 ss X pre g' W)
        (fun _ _ _ => False)
        (fun pre W W' row hs hgr hr => by
          obtain ⟨i1, g', i2⟩ := hs
          exact ⟨i1, g', i2.own hgr (fun r e => (hr r e).1) LTC.out⟩)
        (fun _ _ _ _ _ h _ _ => h.elim)
        (fun pre x A _ _ _ _ h _ _ => h)
        ⟨List.nil_prefix, _, T5.out.1⟩
        ?a1 ?assign ?body ?done ?stop
      case assign =>
        intro l x W K hK
        gi_wp2
        exact hK
      case body =>
        rintro id pre ⟨xt, xc⟩ A V hid _ _ _ _ ⟨i1, g', i2⟩ hx hlt
        have hxm := List.mem_of_getElem? hx
        have hvx : validB xt = true := T5.out.2.1.ok xt xc ((HXX.out.2.1.mem xt xc).1 hxm)
        obtain ⟨n', hbk, hnc⟩ := i2.bok.book
        have hpl : pre.length ≤ N := by have := HXX.out.2.2.1; omega
        have hst : (⟨xt.toArray⟩ : ByteArray).data.toList = xt := by simp
        have hsz : (⟨xt.toArray⟩ : ByteArray).size ≤ maxLen := by
          have h1 : (⟨xt.toArray⟩ : ByteArray).size ≤ 200 := valid_len (by rw [hst]; exact hvx)
          unfold maxLen
          omega
        have hcov : CovM S ss X (pre ++ [(xt, xc)]) (holdG g' xt) := fun u => by
          rw [hold_some g' hbk.pos hvx u, i2.cov u, List.map_append, List.mem_append]
          simp only [List.map_cons, List.map_nil, List.mem_singleton]
          constructor
          · rintro (h1 | h1 | h1 | h1)
            · exact .inr (.inr (.inr h1))
            · exact .inl h1
            · exact .inr (.inl h1)
            · exact .inr (.inr (.inl h1))
          · rintro (h1 | h1 | h1 | h1)
            · exact .inr (.inl h1)
            · exact .inr (.inr (.inl h1))
            · exact .inr (.inr (.inr h1))
            · exact .inl h1
        have HLD : Hid (Calls Try.prog 31 #[.pointer (some ⟨ab, 0, none⟩), .string ⟨xt.toArray⟩] V fun e w' => ∃ z y : Int, e = .returned (.tuple #[.int .i64 z, .int .i64 y]) ∧ TM w S D it ab am b3 (c3 + 1 + pre.length + 1) ds (fun z => left z && !z.sameKey (Lit.int .i64 x)) cnt2 ss X (pre ++ [(xt, xc)]) (holdG g' xt) w' ∧ Kept (fun k => k = am) V w') := by
          have h1 := i2.bok.cnt (⟨xt.toArray⟩ : ByteArray).data.toList
          refine (hold_any V ab am n' g' ⟨xt.toArray⟩ hbk hsz (by unfold maxLen; omega) (by omega)).mono ?_
          rintro e w' ⟨rfl, k1, k2⟩
          rw [hst] at k1 ⊢
          exact ⟨held g' xt + 1, 0, by unfold holdE; rw [hvx]; rfl, i2.hold LT.out.2.1 hml k1 hnc k2 hcov, k2⟩
        have cB : V.cell? ⟨b3, 0, none⟩ = some (ptrV ab) := by simp [World.cell?, i2.bok.box]
        have HPR : Hid (pre ++ [(xt, xc)] <+: L) := by
          obtain ⟨T', hT'⟩ := i1
          rw [← hT', List.getElem?_append_right (Nat.le_refl _), Nat.sub_self] at hx
          cases T' with
          | nil => cases hx
          | cons a T =>
            simp only [List.getElem?_cons_zero, Option.some.injEq] at hx
            exact ⟨T, by rw [← hT', hx]; simp⟩
        have HMP : Hid (∃ es cl, V.heap[am]? = some (.map es cl)) := hbk.tab.map
        unfold encStr
        clear i1 i2 hx hxm hbk hnc hcov hst hsz hvx hlt hid
        gi_wp2
        refine CallsIn.mono (show CallsIn (Fence.wide.inRound id) _ _ _ _ _ _ from (callsIn_wide.2 HLD.out)) ?_
        rintro e V4 ⟨z4', y4', rfl, m4, k4⟩
        have H4 : Hid (TM w S D it ab am b3 (c3 + 1 + pre.length + 1) ds (fun z => left z && !z.sameKey (Lit.int .i64 x)) cnt2 ss X (pre ++ [(xt, xc)]) (holdG g' xt) V4 ∧ Kept (fun k => k = am) V V4) := ⟨m4, k4⟩
        clear m4 k4 HLD
        gi_wp2
        obtain ⟨m4, k4⟩ := H4.out
        obtain ⟨es, cl, hm⟩ := HMP.out
        refine ⟨⟨k4.size, fun k o hk ho _ => (k4.block k (Array.getElem?_eq_some_iff.1 ho).1 (fun e => ?_)).trans ho⟩, Kp.ofKept k4 (fun k c hc e => ?_), HPR.out, holdG g' xt, ?_⟩
        · have e : k = am := e
          have := LTC.out.2.1
          omega
        · have e : k = am := e
          rw [e, hm] at hc
          cases hc
        · rw [List.length_append, show c3 + 1 + (pre.length + [(xt, xc)].length) = c3 + 1 + pre.length + 1 from rfl]
          exact m4
      case done =>
        rintro D' xs V hD hS ⟨i1, g', i2⟩ hK
        subst hS
        have hlen := HXX.out.2.2.1
        have h3 := H3.out
        have hxs : Cov S (ss ++ [x]) g' := i2.cov.done HXX.out.1 HXX.out.2.1
        have hc : c3 + 1 + xs.length ≤ (ss ++ [x]).length * (N + 1) := by
          rw [List.length_append, List.length_singleton, Nat.add_mul, Nat.one_mul, ← h3.2.1]
          omega
        have hmk : Marks w V (D' :: ds) := ⟨List.nodup_cons.2 ⟨fun hm => by have := LTC.out.2.2.2.2.2.2 D' hm; omega, i2.mks.1⟩, fun d hd => by
          rcases List.mem_cons.1 hd with rfl | hd
          · exact ⟨by have := LTC.out.2.2.2.2.2.1; omega, hK⟩
          · exact i2.mks.2 d hd⟩
        have TF : Hid (TI w S D it ab am b3 N (D' :: ds) (fun z => left z && !z.sameKey (Lit.int .i64 x)) cnt2 (ss ++ [x]) g' V) := ⟨i2.rg, by rw [List.length_append, List.length_singleton]; omega, h3.1, hxs, i2.bok.mono hc, hmk⟩
        have HML : Hid (V.rangeLeft S.mb it < wr.rangeLeft S.mb it) := by
          have h4 : V.rangeLeft S.mb it = cnt2 := i2.rg.left_eq
          rw [h4, HRL.out]
          exact h3.2.2.1
        have hdm := HDM.out
        subst hdm
        clear hlen h3 hxs hc hmk i1 i2
        go_wp2_with fail
        exact ⟨⟨_, _, _, _, _, _, _, _, _, _, _, _, _, _, _, _, _, _, _, _, _, _, D' :: ds, _, cnt2, ss ++ [x], g', rfl, TF⟩, HML.out⟩
      case stop =>
        rintro D' c pre W hD _ h
        exact h.elim
end Go.Proofs.Ytogmobkkpmpdcaa
