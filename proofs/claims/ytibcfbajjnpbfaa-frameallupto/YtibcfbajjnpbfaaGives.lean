/-
  The walk of gives.
-/
import Derived.Test.YtibcfbajjnpbfaaGivesK
import Derived.Test.YtibcfbajjnpbfaaRound
import Derived.Test.YtibcfbajjnpbfaaLent
import Derived.Laws.EntriesVeiled
namespace Go.Proofs.Ytibcfbajjnpbfaa
open Go.RowKit Go.Lib

attribute [local go_sem] Oper.semAt_some wide_fn
set_option maxHeartbeats 4000000 in
set_option maxRecDepth 1000000 in
theorem gives_any (w0 w : World) (lab : Nat → Tag) (Hb : Nat) (es : List Ent) (f : Int) (a : Option Addr) (c : Nat) (l : List UInt8) (vw : Value) (ys : List Given) (most : Int) (hs : HS w0 w lab Hb es) (hl : IsBytes w0 a c l) (hlen : l.length ≤ 1048576) (ho : OnesAt w w0.heap.size vw ys) (hy : ys.map Given.pr = frames f l 0)
    (hu : (∀ k, vw.ownBlock = some k → lab k = .user 0) ∧ ∀ y ∈ ys, ∀ k, y.2.1.ownBlock = some k → lab k = .user 0) (hm : 1 ≤ most ∧ most ≤ 9223372036854775807) (hes : es.length ≤ 1000) :
    Calls Try.prog 26 #[.int .i64 f, .slice a l.length c, vw, .int .i64 most, .pointer (some ⟨Hb, 0, none⟩)] w fun e w' => e = .returned (.bool true) ∧ ∃ lab' es', HS w0 w' lab' Hb es' ∧ es'.length ≤ es.length + 2 * ys.length := by
  have HSW := hide hs
  have HL := hide hl
  have HO := hide ho
  have HY := hide hy
  have HU := hide hu
  obtain ⟨av, cv, hvw, hnv, hcv⟩ := rowG_shape ho.1
  subst hvw
  have hz := hs.bel.size
  have hyl : ys.length ≤ 1048576 := by
    have h1 := frames_len0 f l
    have h2 := congrArg List.length hy
    rw [List.length_map] at h2
    omega
  clear hs hl ho hy hu
  refine (callsIn_wide (n := 5)).1 ?_
  refine callsIn_of_wp_marks Try.func26 rfl trivial ?_ rfl
  simp only [Try.ntmps26, List.size_toArray, List.length_cons, List.length_nil, Nat.reduceAdd, Nat.reduceSub, Array.replicate_succ, Array.replicate_zero, List.push_toArray, List.append_toArray, List.nil_append, List.cons_append]
  refine wpIn_wide.2 ?_
  obtain ⟨W4, hW4⟩ : ∃ W4, W4 = (((w.alloc (.cells #[.slice av ys.length cv] 37)).alloc (.cells #[.int .i64 most] 3)).alloc (.cells #[.pointer (some ⟨Hb, 0, none⟩)] 41)).alloc (.cells #[.bool false] 4) := ⟨_, rfl⟩
  have hz4 : W4.heap.size = w.heap.size + 4 := by rw [hW4]; simp
  have b4 : Below w.heap.size w W4 := by rw [hW4]; exact ((((Below.refl _ w).alloc (Nat.le_refl _) _).alloc (by simp) _).alloc (by simp; omega) _).alloc (by simp; omega) _
  have b7 : Boxed W4 w.heap.size 37 (.slice av ys.length cv) := by rw [hW4]; exact (((Boxed.new w _ _).alloc _).alloc _).alloc _
  have b8 : Boxed W4 (w.heap.size + 1) 3 (.int .i64 most) := by rw [hW4]; have := Boxed.new (w.alloc (.cells #[.slice av ys.length cv] 37)) 3 (.int .i64 most); rw [World.size_alloc] at this; exact (this.alloc _).alloc _
  have b9 : Boxed W4 (w.heap.size + 1 + 1) 41 (.pointer (some ⟨Hb, 0, none⟩)) := by
    rw [hW4]
    have := Boxed.new ((w.alloc (.cells #[.slice av ys.length cv] 37)).alloc (.cells #[.int .i64 most] 3)) 41 (.pointer (some ⟨Hb, 0, none⟩))
    rw [World.size_alloc, World.size_alloc] at this
    exact this.alloc _
  have b10 : Boxed W4 (w.heap.size + 1 + 1 + 1) 4 (.bool false) := by
    rw [hW4]
    have := Boxed.new (((w.alloc (.cells #[.slice av ys.length cv] 37)).alloc (.cells #[.int .i64 most] 3)).alloc (.cells #[.pointer (some ⟨Hb, 0, none⟩)] 41)) 4 (.bool false)
    rw [World.size_alloc, World.size_alloc, World.size_alloc] at this
    exact this
  have HBX := hide (And.intro b7 (And.intro b8 (And.intro b9 b10)))
  have HB4 := hide b4
  have HW4 := hide hW4
  have HZ4 := hide hz4
  have CL := hide (lent_any a c l W4 (HL.out.below (HSW.out.bel.trans (b4.mono hz))) (by omega))
  clear b7 b8 b9 b10 b4 hW4 hz4
  go_upto_region 1 with fail
  rw [← HW4.out]
  obtain ⟨B7, hB7⟩ : ∃ B7, B7 = w.heap.size := ⟨_, rfl⟩
  have HB7 := hide hB7
  rw [← hB7] at HBX ⊢
  clear hB7
  go_upto_region 2 with (go_at_call 10; refine CL.out.mono ?_; rintro e w5 ⟨g, cap, rfl, own5, b5⟩; have OWN5 := hide own5; have B5 := hide b5; clear own5 b5)
  have hcap : l.length + 8 ≤ cap := by have := OWN5.out.is.1.1; simp [marks] at this; omega
  have hcapm : cap ≤ 9223372036854775807 := by have := OWN5.out.is.1.2.1; unfold maxLen at this; omega
  have j1 : (l.length : Int) ≤ (cap : Int) := by omega
  have j2 : (l.length : Int) ≤ (l.length : Int) + 8 := by omega
  have CA := hide (all_any f (some ⟨g, 0, none⟩) cap l w5 OWN5.out.is.1.head (by omega) (by rintro ⟨⟩))
  go_upto_region 4 with (go_at_call 40; refine CA.out.mono ?_; rintro e w6 ⟨Bf, Bk, rfl, at6, b6⟩; have AT6 := hide at6; have B6 := hide b6; clear at6 b6; unfold seqOf)
  obtain ⟨W7, hW7⟩ : ∃ W7, W7 = w6.alloc (.cells #[.func (.func 41) #[] #[.pointer (some ⟨Bf, 0, none⟩), .pointer (some ⟨Bk, 0, none⟩)]] 59) := ⟨_, rfl⟩
  obtain ⟨B13, hB13⟩ : ∃ B13, B13 = w6.heap.size := ⟨_, rfl⟩
  rw [← hW7, ← hB13]
  have b13 : Boxed W7 B13 59 (.func (.func 41) #[] #[.pointer (some ⟨Bf, 0, none⟩), .pointer (some ⟨Bk, 0, none⟩)]) := by rw [hW7, hB13]; exact Boxed.new _ _ _
  have k13 := b13.cell
  have hl13 := b13.lt
  have B67 : Below w6.heap.size w6 W7 := by rw [hW7]; exact (Below.refl _ w6).alloc (Nat.le_refl _) _
  have hz7 : W7.heap.size = B13 + 1 := by rw [hW7, hB13]; simp
  have B57 := B6.out.trans (B67.mono B6.out.size)
  have BW7 : Below w.heap.size w W7 := HB4.out.trans ((B5.out.trans (B57.mono B5.out.size)).mono HB4.out.size)
  have OWN7 := hide (OWN5.out.below B57)
  have AT7 := hide (AT6.out.toH.stay (w' := W7) (fun k _ hk => B67.block k hk) B67.size)
  have HX := hide (And.intro (HBX.out.1.kept (grown_of_below (B5.out.trans (B57.mono B5.out.size))) (by simp)) (And.intro (HBX.out.2.1.kept (grown_of_below (B5.out.trans (B57.mono B5.out.size))) (by simp)) (And.intro (HBX.out.2.2.1.kept (grown_of_below (B5.out.trans (B57.mono B5.out.size))) (by simp)) (And.intro (HBX.out.2.2.2.kept (grown_of_below (B5.out.trans (B57.mono B5.out.size))) (by simp)) b13))))
  have HN : Hid (W4.heap.size ≤ g ∧ g < w5.heap.size ∧ B7 + 4 = W4.heap.size ∧ w5.heap.size ≤ w6.heap.size ∧ w6.heap.size = B13 ∧ W7.heap.size = B13 + 1 ∧ B7 = w.heap.size) := ⟨OWN5.out.block.1, OWN5.out.block.2, by rw [HZ4.out, HB7.out], B6.out.size, hB13.symm, hz7, HB7.out⟩
  have HBW7 := hide BW7
  have CS := hide (still_any (some ⟨g, 0, none⟩) cap a c l W7 OWN7.out.is.1 (HL.out.below (HSW.out.bel.trans (BW7.mono hz))))
  clear hW7 hB13 b13 B67 hz7 B57 BW7 AT6 B6 OWN5 HBX CA CL B5 HW4 HZ4
  have qseq := seq_nil
  go_upto_region 6 with (go_at_call 13; refine CS.out.mono ?_; rintro e w8 ⟨rfl, n8, hw8⟩; have B8 : Hid (Below W7.heap.size W7 w8) := (by rw [hw8]; exact below_drewN (Below.refl _ W7) n8); clear hw8)
  have OWN8 := hide (OWN7.out.below B8.out)
  clear qseq CS k13 hl13
  go_wp2_with fail
  go_loopw [14] (fun i wr => ∃ (k : Nat) (X : List UInt8), i = .int .i64 k ∧ k ≤ l.length + 8 ∧ X.length = l.length + 8 ∧ Hid (Own wr W4.heap.size (.slice (some ⟨g, 0, none⟩) (l.length + 8) cap) X ∧ Kept (fun q => q = g) w8 wr)) (fun i _ => l.length + 8 - (intOf i).toNat)
  case atStart => exact ⟨0, l ++ marks 8, rfl, Nat.zero_le _, by simp [marks], ⟨OWN8.out, Kept.refl _ _⟩⟩
  case round =>
    obtain ⟨k, X, rfl, hk, hXl, HOW⟩ := hrel
    by_cases hlt : k < l.length + 8
    · have hki : (k : Int) < (l.length : Int) + 8 := by omega
      obtain ⟨x, hx⟩ : ∃ x, X[k]? = some x := ⟨_, List.getElem?_eq_getElem (by omega)⟩
      have cx := HOW.out.1.cell k x hx
      have fx := HOW.out.1.frozen k
      have hlx := HOW.out.1.block.2
      have HST := hide (HOW.out.1.set k 90).1
      have HKP := hide (HOW.out.2.trans (Kept.setCell (fun q => q = g) wr g k (.int .u8 ((90 : UInt8).toNat : Int)) rfl))
      clear hx
      go_wp2_with fail
      go_roundw
      case rel => exact ⟨k + 1, X.set k 90, by go_num, by omega, by rw [List.length_set]; exact hXl, ⟨HST.out, HKP.out⟩⟩
      case measure => simp [intOf]; omega
    · have hki : ¬ (k : Int) < (l.length : Int) + 8 := by omega
      have KW : Hid (Kept (fun q => q = g) W7 wr) := (Kept.ofBelow B8.out).trans HOW.out.2
      clear HOW OWN8 OWN7 B8
      obtain ⟨W15, hW15⟩ : ∃ W15, W15 = wr.alloc (.cells #[.int .i64 0] 3) := ⟨_, rfl⟩
      obtain ⟨B15, hB15⟩ : ∃ B15, B15 = wr.heap.size := ⟨_, rfl⟩
      have b15 : Boxed W15 B15 3 (.int .i64 ((0 : Nat) : Int)) := by rw [hW15, hB15]; exact Boxed.new _ _ _
      have hz15 : W15.heap.size = B15 + 1 := by rw [hW15, hB15]; simp
      have KW15 : Kept (fun q => q = g) W7 W15 := KW.out.step (Kept.ofBelow (P := fun q => q = g) (by rw [hW15]; exact (Below.refl _ wr).alloc (Nat.le_refl _) _)) (fun j _ h => h)
      obtain ⟨n1, n2, n3, n4, n5, n6, n7⟩ := HN.out
      have BW15 : Below w.heap.size w W15 := HBW7.out.trans (KW15.below HBW7.out.size (fun k hk e => by omega))
      have hz715 : W7.heap.size ≤ B15 := by rw [hB15]; exact KW.out.size
      obtain ⟨lab1, hlab1⟩ : ∃ lab1 : Nat → Tag, lab1 = fun k => if k < B7 then lab k else .user 0 := ⟨_, rfl⟩
      have e0 : ∀ k, k < B7 → lab1 k = lab k := fun k hk => by rw [hlab1]; exact if_pos hk
      have e1 : ∀ k, B7 ≤ k → lab1 k = .user 0 := fun k hk => by rw [hlab1]; exact if_neg (by omega)
      obtain ⟨lab2, hs2, hc2, hL2, _, hu2⟩ := ((HSW.out.relabel (lab' := lab1) (fun k hk => e0 k (by omega))).below BW15).clean
      have k13 := (KW.out.boxed HX.out.2.2.2.2 (by omega)).cell
      have hl13 := (KW.out.boxed HX.out.2.2.2.2 (by omega)).lt
      have GCC : Hid (GC w0 W15 lab2 B7 B13 B15 w5.heap.size w6.heap.size Bf Bk Hb (.slice av ys.length cv) ys most f l) := by
        refine ⟨by omega, KW15.boxed HX.out.1 (by omega), KW15.boxed HX.out.2.1 (by omega), KW15.boxed HX.out.2.2.1 (by omega), KW15.boxed HX.out.2.2.2.1 (by omega), KW15.boxed HX.out.2.2.2.2 (by omega), AT7.out.stay (fun k h1 h2 => KW15.block k (by omega) (by omega)) KW15.size, HO.out.below BW15, fun k h1 _ => hu2 k (e1 k h1), ⟨fun k hk => ?_, fun y hy k hk => ?_⟩, by omega⟩
        · have := (World.ownsRow.lt HO.out.1 k hk).2
          exact ⟨hu2 k ((e0 k (by omega)).trans (HU.out.1 k hk)), by omega⟩
        · have := ((HO.out.2 y hy).lt k hk).2
          exact ⟨hu2 k ((e0 k (by omega)).trans (HU.out.2 y hy k hk)), by omega⟩
      have HW15 := hide hW15
      have HB15 := hide hB15
      have HRG : Hid (Rg w0 W15 lab2 Hb B15 (es.length + 0) 0 W15) := ⟨lab2, es, hs2, hc2, fun _ _ h => h, ⟨hu2 B15 (e1 B15 (by omega)), fun _ _ h => h⟩, rfl, b15, Kept.refl _ _⟩
      have HZB : Hid (w0.heap.size ≤ W15.heap.size ∧ w0.heap.size ≤ B15 ∧ w6.heap.size ≤ W15.heap.size) := ⟨by omega, by omega, by omega⟩
      clear hW15 hB15 b15 KW15 BW15 n1 n2 n3 n4 n5 n6 n7 hlab1 e0 e1 hs2 hc2 hL2 hu2 AT7 KW HX hz15 hz715
      go_upto_region 11 with fail
      rw [← HW15.out, ← HB15.out]
      have k13 := GCC.out.b13.cell
      have hl13 := GCC.out.b13.lt
      go_wp2_with fail
      rename_i K hK
      generalize hA0 : Act.mk _ _ = A0
      have REST : Hid (∀ (D n : Nat) (W : World), W15.heap.size ≤ D → W.heap[D]? = some (.deferred (some [])) → Rg w0 W15 lab2 Hb B15 (es.length + n) n W → n ≤ ys.length → ((n : Int) = most ∨ n = ys.length) → K { A0 with defers := { target := .collected D, args := #[] } :: A0.defers } W) := by
        intro D n W hD hK0 rg hn hnm
        refine hK _ _ ?_
        rw [← hA0]
        dsimp only
        clear hK k13 hl13
        obtain ⟨b7, b8, b9, b10, b13, _, _⟩ := GCC.out.at rg.kept0
        have c7 := b7.cell
        have c8 := b8.cell
        have c13 := b13.cell
        have c15 := rg.count.cell
        have f15 := rg.count.frozen
        have hl7 := b7.lt
        have hl8 := b8.lt
        have hl13 := b13.lt
        have hl15 := rg.count.lt
        have RGW := hide rg
        have HK0 := hide hK0
        have HNM := hide hnm
        clear b7 b8 b9 b10 b13 rg hK0 hnm hA0
        go_upto_region 19 with fail
        go_cut [96] from 88 to 95 (fun y wx => y = .bool false ∧ wx = W)
        case first =>
          cases hmb : ((n : Int) != most) with
          | false =>
            go_wp2_with fail
            go_meet
            exact ⟨rfl, rfl⟩
          | true =>
            have hb2 : ((n : Int) != (ys.length : Int)) = false := by
              rcases HNM.out with h | h
              · exfalso
                simp at hmb
                exact hmb h
              · rw [h]
                simp
            go_wp2_with fail
            go_meet
            exact ⟨rfl, rfl⟩
        case rest =>
          obtain ⟨rfl, hwc⟩ := hcut
          rw [hwc]
          clear hwc wc
          have RG0 := hide (RGW.out.recount HZB.out.2.1 0)
          go_upto_region 22 with fail
          obtain ⟨W2, hW2⟩ : ∃ W2, W2 = W.setCell ⟨B15, 0, none⟩ (.int .i64 ((0 : Nat) : Int)) := ⟨_, rfl⟩
          rw [← hW2] at RG0
          rw [show (W.setCell ⟨B15, 0, none⟩ (.int .i64 0)) = W2 from hW2.symm]
          have HD2 : Hid (W2.heap[D]? = some (.deferred (some []))) := by rw [hW2]; exact (KeepsOthers.setCell W ⟨B15, 0, none⟩ (.int .i64 ((0 : Nat) : Int))).same D _ HK0.out rfl
          have hz2 : W15.heap.size ≤ W2.heap.size := RG0.out.kept0.size
          clear hW2 c7 c8 c13 c15 f15 hl7 hl8 hl13 hl15 HK0 RGW
          obtain ⟨z1, z2, z3, z4, b13, al2, z7⟩ := GCC.out.at RG0.out.kept0
          clear z1 z2 z3 z4 z7
          have AL2 := hide al2
          have c13 := b13.cell
          have hl13 := b13.lt
          clear b13 al2
          obtain ⟨n0, hn0⟩ : ∃ n0, n0 = n := ⟨_, rfl⟩
          rw [← hn0] at hn HNM RG0
          clear hn0 n
          go_wp2_with fail
          rename_i K2 hK2
          generalize hA2 : Act.mk _ _ = A2
          have RESTF : Hid (∀ (D2 : Nat) (X : World), W2.heap.size ≤ D2 → X.heap[D2]? = some (.deferred (some [])) → X.heap[D]? = some (.deferred (some [])) → Rg w0 W15 lab2 Hb B15 (es.length + n0 + ys.length) ys.length X → K2 { A2 with defers := { target := .collected D2, args := #[] } :: A2.defers } X) := by
            intro D2 X hD2 hK2' hK1' rg
            refine hK2 _ _ ?_
            rw [← hA2]
            dsimp only
            clear hK2 hA2 c13 hl13
            obtain ⟨b7, z2, z3, b10, z5, z6, z7⟩ := GCC.out.at rg.kept0
            have c7 := b7.cell
            have c10 := b10.cell
            have f10 := b10.frozen
            have c15 := rg.count.cell
            have hl7 := b7.lt
            have hl10 := b10.lt
            have hl15 := rg.count.lt
            have RGX := hide rg
            have HK1 := hide hK1'
            have HK2 := hide hK2'
            have HB10 := hide b10
            clear b7 z2 z3 b10 z5 z6 z7 rg hK1' hK2'
            go_wp2_with fail
            have hne1 : D ≠ D2 := by
              have := (Array.getElem?_eq_some_iff.1 HD2.out).1
              omega
            have hK2' := (KeepsOthers.setCell X ⟨B7 + 1 + 1 + 1, 0, none⟩ (.bool true)).same D2 _ HK2.out rfl
            have hK1' := (KeepsOthers.setCell X ⟨B7 + 1 + 1 + 1, 0, none⟩ (.bool true)).same D _ HK1.out rfl
            have hK1'' := (World.putObj_heap_other (o := .deferred none) hne1).trans hK1'
            refine ⟨by simp, .inl ⟨_, _, rfl, run_takeDeferred hK2', ?_⟩⟩
            refine ⟨by simp, .inl ⟨_, _, rfl, run_takeDeferred hK1'', ?_⟩⟩
            have hbx := HB10.out.set (.bool true)
            have hc5 := cell_kept (cell_kept hbx.cell (grownBy_putObj' _ D2 (.deferred none)) (fun r e => by cases e; exact ⟨_, hK2', rfl⟩)) (grownBy_putObj' _ D (.deferred none)) (fun r e => by cases e; exact ⟨_, hK1'', rfl⟩)
            obtain ⟨labF, esF, hF, _, _, huF, hEF, _, _⟩ := RGX.out
            have hzz := HZB.out
            refine ⟨.bool true, by simp [results, Try.f26, go_sem, hc5], rfl, labF, esF, ?_, by rw [hEF]; omega⟩
            have hoo := GCC.out.ord
            have hzz2 := GCC.out.z
            have h1 := hF.kept (Kept.setCell (fun k => k = B7 + 1 + 1 + 1) X (B7 + 1 + 1 + 1) 0 (.bool true) rfl) (fun k e _ => ⟨by omega, 0, by rw [e]; exact huF.2 _ GCC.out.b10.lt (GCC.out.lab _ (by omega) GCC.out.b10.lt)⟩)
            have h2 := h1.turned (grownBy_putObj' _ D2 (.deferred none)) (fun r e => by cases e; exact ⟨by omega, _, hK2', rfl⟩)
            exact h2.turned (grownBy_putObj' _ D (.deferred none)) (fun r e => by cases e; exact ⟨by omega, _, hK1'', rfl⟩)
          subst hA2
          clear hK2 c13 hl13
          refine (wpIn_wide (n := 5)).1 ?_
          refine wpIn_told rfl (by omega) (gf := 41) (lb := #[.pointer (some ⟨Bf, 0, none⟩), .pointer (some ⟨Bk, 0, none⟩)]) rfl trivial (enters_of Try.func41 (by kernel_rfl) rfl)
            (all1_toldH 4 w5.heap.size w6.heap.size Bf Bk f l W2 AL2.out (by omega)) (fun h k => h.trans k) (midK_b (by have := HZB.out.2.2; omega)) (Below.refl _ _) (fun _ => rfl)
            (fun pre X => Rg w0 W15 lab2 Hb B15 (es.length + n0 + pre.length) pre.length X ∧ X.heap[D]? = some (.deferred (some [])))
            (fun _ _ _ => False)
            (fun s A C row hs hg hr => ⟨hs.1.turned HZB.out.1 hg (fun r e => ⟨Nat.le_trans hz2 (hr r e).1, (hr r e).2⟩), (hg.block D (Array.getElem?_eq_some_iff.1 hs.2).1 (fun e => by have := (hr D e.symm).1; have := (Array.getElem?_eq_some_iff.1 HD2.out).1; omega)).trans hs.2⟩)
            (fun _ _ _ _ _ hs _ _ => hs)
            (toldAll_own f l _)
            ⟨RG0.out, HD2.out⟩
            ?a2 ?assign2 ?body2 ?done2 ?stop2
          case assign2 =>
            intro l x W K hK
            gi_wp2
            exact hK
          case body2 =>
            rintro id pre ⟨p, v, b⟩ A W hid ⟨ra, hra⟩ ⟨rl, hrl⟩ hgr ⟨rgA, hDA⟩ ⟨_, hDW⟩ ⟨hfr, hown⟩ _
            obtain ⟨lab3, es3, hs3, hc3, h23, hu3, hE3, hb3, hk3, ho3, ht3, _⟩ := rgA.told HZB.out.1 hgr (fun r e => by cases e; exact ⟨Nat.le_trans hz2 hid, _, hra, rfl⟩) hown
            obtain ⟨n, hn⟩ : ∃ n, n = pre.length := ⟨_, rfl⟩
            have HN1 : Hid ((pre ++ [((p, v, b) : Given)]).length = n + 1) := by rw [List.length_append, ← hn]; rfl
            rw [← hn] at hfr hE3 hb3
            rw [← HY.out, List.getElem?_map, Option.map_eq_some_iff] at hfr
            obtain ⟨⟨py, vy, by'⟩, hy, hpr⟩ := hfr
            simp only [Given.pr, Prod.mk.injEq] at hpr
            obtain ⟨rfl, rfl⟩ := hpr
            have hnl := (List.getElem?_eq_some_iff.1 hy).1
            obtain ⟨b7, b8, b9, _, b13, al3, on⟩ := GCC.out.at hk3
            obtain ⟨gy, cy2, hvy, hgy, hyc, hcm, q0, q1⟩ := on.cells hy
            simp only [Value.slice.injEq] at hvy
            obtain ⟨rfl, _, rfl⟩ := hvy
            obtain ⟨ap, cp, hv, isp⟩ := hown.shape
            dsimp only at hv
            subst hv
            obtain ⟨ay, cy, hay, isy⟩ := (on.2 _ (List.mem_of_getElem? hy)).shape
            dsimp only at hay q1 q0
            subst hay
            obtain ⟨nb, hnb⟩ : ∃ nb, nb = by'.length := ⟨_, rfl⟩
            have SM := hide (same_yes ap ay cp cy by' W isp isy)
            rw [← hnb] at SM q1 HN1 ⊢
            have hbl : by'.length ≤ 1048576 := by
              have h1 := frames_fit0 (f := f) (l := l) (k := n) (x := (py, by')) (by rw [← HY.out, List.getElem?_map, hy]; rfl)
              simp only [] at h1
              omega
            have CK : Hid (∀ X, Below W.heap.size W X → Calls Try.prog 19 #[.pointer (some ⟨Hb, 0, none⟩), .slice ap nb cp] X fun e w' => e = .returned (.tuple #[]) ∧ Boxed w' B15 3 (.int .i64 (n : Int)) ∧ ∀ n' : Nat, Rg w0 W15 lab2 Hb B15 (es.length + n0 + (n + 1)) n' (w'.setCell ⟨B15, 0, none⟩ (.int .i64 (n' : Int))) ∧ Kept (fun k => Lists lab3 k ∨ k = B15) W (w'.setCell ⟨B15, 0, none⟩ (.int .i64 (n' : Int)))) := by
              intro X hX
              have hkX := hk3.step (Kept.ofBelow (P := fun _ => False) hX) (fun _ _ h => h.elim)
              have hK := (hs3.below hX).keep (a := ap) (c := cp) (l := by') (ho3.below hX) ht3 (by omega) (by omega)
              rw [← hnb] at hK
              refine hK.mono ?_
              rintro e w' ⟨rfl, lab4, es4, hs4, he4, hl4, hk4⟩
              obtain ⟨p1, p2⟩ := rg_push (n := n) (B15 := B15) (E := es.length + n0 + (n + 1)) hs4 hl4 hk4 h23 hu3 (by omega) (hb3.kept (grown_of_below hX) (by simp)) hkX HZB.out.2.1
              exact ⟨rfl, p1, fun n' => ⟨(p2 n').1, (Kept.ofBelow hX).trans (p2 n').2⟩⟩
            have HC3 := hide (And.intro hc3 (And.intro h23 hb3))
            have c7 := b7.cell
            have c9 := b9.cell
            have hl9 := b9.lt
            have c13 := b13.cell
            have hl13 := b13.lt
            have ON := hide on
            have AL := hide al3
            have HRL := hide hrl
            have HDW := hide hDW
            have hl7 := b7.lt
            have hl15 := hb3.lt
            have c15 := hb3.cell
            have hzW : W15.heap.size ≤ W.heap.size := hk3.size
            have hni : (n : Int) < (ys.length : Int) := by omega
            clear hs3 hc3 h23 hu3 hE3 hk3 ho3 ht3 hgr rgA hown on isp isy hra hrl hn hnb hb3 b7 b8 b9 b13 al3 hDA hDW
            gi_wp2_with (gi_at_call 17; refine (CallsIn.inRound _ (callsIn_wide.2 SM.out)).mono ?_; rintro e w1 ⟨rfl, m1, hw1⟩; have B1 : Hid (Below W.heap.size W w1) := (by rw [hw1]; exact below_drewN (Below.refl _ W) m1); clear hw1; have c13' := (B1.out.cell (p := ⟨B13, 0, none⟩) hl13).trans c13; have hl13' := Nat.lt_of_lt_of_le hl13 B1.out.size)
            obtain ⟨Wn, hWn⟩ : ∃ Wn, Wn = w1.alloc (.cells #[.int .i64 0] 3) := ⟨_, rfl⟩
            obtain ⟨B20, hB20⟩ : ∃ B20, B20 = w1.heap.size := ⟨_, rfl⟩
            rw [← hWn, ← hB20]
            have b20 : Boxed Wn B20 3 (.int .i64 ((0 : Nat) : Int)) := by rw [hWn, hB20]; exact Boxed.new _ _ _
            have BN : Below W.heap.size W Wn := by rw [hWn]; exact B1.out.alloc B1.out.size _
            have hzn : B20 < Wn.heap.size := b20.lt
            have hz6W : w6.heap.size ≤ W.heap.size := Nat.le_trans HZB.out.2.2 hzW
            have hzB : W.heap.size ≤ B20 := by rw [hB20]; exact B1.out.size
            clear hWn hB20
            rename_i K3 hK3
            generalize hA3 : Act.mk _ _ = A3
            have REST3 : Hid (∀ Wm, Below W.heap.size W Wm → K3 A3 Wm) := by
              intro Wm hBm
              refine hK3 _ _ ?_
              rw [← hA3]
              clear hK3 hA3
              have HBM := hide hBm
              have c9' := (hBm.cell (p := ⟨B7 + 1 + 1, 0, none⟩) hl9).trans c9
              have hl9' := Nat.lt_of_lt_of_le hl9 hBm.size
              clear hBm
              gi_wp2_with (gi_at_call 19; refine (CallsIn.inRound _ (callsIn_wide.2 (CK.out _ HBM.out))).mono ?_; rintro e w2 ⟨rfl, bx15, rg2⟩; have RG2 := hide rg2; clear rg2; have c15' := bx15.cell; have f15' := bx15.frozen; have l15 := bx15.lt; clear bx15)
              have hfin := RG2.out (n + 1)
              rw [show ((n + 1 : Nat) : Int) = (n : Int) + 1 by omega] at hfin
              have hfr := fun B => keepsFrom_of B HC3.out.1 HC3.out.2.2 hfin.2
              refine ⟨hfr _, ⟨hfin.2.size, fun k h1 h2 => hfin.2.block k (by have := HZB.out.2.2; omega) (fun hL => GCC.out.not (k := k) (by have := GCC.out.ord; omega) (by have := HZB.out.2.2; omega) (by have := GCC.out.ord; omega) (hL.imp (fun h => HC3.out.2.1 k (by have := HZB.out.2.2; omega) h) (fun h => h)))⟩, ?_, (hfr 0).same D _ (Nat.zero_le _) HDW.out rfl⟩
              rw [HN1.out]
              exact hfin.1
            subst hA3
            clear hK3
            refine wpIn_told_in (l₀ := id) (r₀ := rl) rfl ((BN.block id (Array.getElem?_eq_some_iff.1 HRL.out).1).trans HRL.out) (by omega) (gf := 41) (lb := #[.pointer (some ⟨Bf, 0, none⟩), .pointer (some ⟨Bk, 0, none⟩)]) rfl trivial (enters_of Try.func41 (by kernel_rfl) rfl)
              (SeqTold.inRound id (all1_toldH 2 w5.heap.size w6.heap.size Bf Bk f l Wn (AL.out.stay (fun k _ h2 => BN.block k (by omega)) BN.size) (by omega))) (fun h k => h.trans k) (midK_b (by have := BN.size; omega)) (Below.refl _ _) (fun _ => rfl)
              (fun pre X => (Boxed X B20 3 (.int .i64 (pre.length : Int)) ∧ Below W.heap.size W X) ∧ pre.length ≤ 2)
              (fun c pre X => Below W.heap.size W X ∧ c = .exit 6)
              (fun s A C row hs hg hr => ⟨⟨boxed_own (β := Unit) _ _ (fun _ => .int .i64 (s.length : Int)) () A C row hs.1.1 hg (fun r e => (hr r e).2), hs.1.2.grown hg (by have := hs.1.2.size; omega) (fun k e => by have := (hr k e).1; omega)⟩, hs.2⟩)
              (fun c s A C row hs hg hr => ⟨hs.1.grown hg (by have := hs.1.size; omega) (fun k e => by have := (hr k e).1; omega), hs.2⟩)
              (toldAll_own f l _)
              ⟨⟨b20, BN⟩, by simp⟩
              ?a3 ?assign3 ?body3 ?done3 ?stop3
            case assign3 =>
              intro l x W K hK
              gi_wp2
              exact hK
            case body3 =>
              rintro id3 pre3 ⟨p3, v3, b3⟩ A3 X hid3 _ ⟨rl3, hrl3⟩ _ _ ⟨⟨hbx, hBX⟩, hle⟩ ⟨hfr3, hown3⟩ _
              obtain ⟨n3, hn3⟩ : ∃ n3, n3 = pre3.length := ⟨_, rfl⟩
              have HN3 : Hid ((pre3 ++ [((p3, v3, b3) : Given)]).length = n3 + 1) := by rw [List.length_append, ← hn3]; rfl
              rw [← hn3] at hfr3 hbx hle
              rw [← HY.out, List.getElem?_map, Option.map_eq_some_iff] at hfr3
              obtain ⟨⟨py3, vy3, by3⟩, hy3, hpr3⟩ := hfr3
              simp only [Given.pr, Prod.mk.injEq] at hpr3
              obtain ⟨rfl, rfl⟩ := hpr3
              have hnl3 := (List.getElem?_eq_some_iff.1 hy3).1
              have onX := ON.out.below hBX
              obtain ⟨gy3, cy23, hvy3, hgy3, hyc3, hcm3, r0, r1⟩ := onX.cells hy3
              simp only [Value.slice.injEq, Option.some.injEq, Addr.mk.injEq, and_true] at hvy3
              obtain ⟨rfl, _, rfl⟩ := hvy3
              obtain ⟨ap3, cp3, hv3, isp3⟩ := hown3.shape
              dsimp only at hv3
              subst hv3
              obtain ⟨ay3, cy3, hay3, isy3⟩ := (onX.2 _ (List.mem_of_getElem? hy3)).shape
              dsimp only at hay3 r1 r0
              subst hay3
              obtain ⟨nb3, hnb3⟩ : ∃ nb3, nb3 = by3.length := ⟨_, rfl⟩
              have SM3 := hide (same_yes ap3 ay3 cp3 cy3 by3 X isp3 isy3)
              rw [← hnb3] at SM3 r1 HN3 ⊢
              have c7' := (hBX.cell (p := ⟨B7, 0, none⟩) hl7).trans c7
              have hl7' := Nat.lt_of_lt_of_le hl7 hBX.size
              have c20 := hbx.cell
              have HBX3 := hide (And.intro hbx hBX)
              have hl20 := hbx.lt
              have hni3 : (n3 : Int) < (ys.length : Int) := by omega
              have hzX : Wn.heap.size ≤ X.heap.size := Nat.le_of_lt (Nat.lt_of_le_of_lt hid3 (Array.getElem?_eq_some_iff.1 hrl3).1)
              clear hn3 hnb3 hbx hBX onX hown3 isp3 isy3 hy3 hrl3
              have hg3 : n3 < 2 ∨ n3 = 2 := by omega
              rcases hg3 with hg3 | hg3
              · have hgi : ¬ (2 : Int) < (n3 : Int) + 1 := by omega
                gi_wp2_with (gi_at_call 17; refine (CallsIn.inRound _ (callsIn_wide.2 SM3.out)).mono ?_; rintro e x1 ⟨rfl, mx, hx1⟩; have BX1 : Hid (Below X.heap.size X x1) := (by rw [hx1]; exact below_drewN (Below.refl _ X) mx); clear hx1; have bx20 := HBX3.out.1.kept (grown_of_below BX1.out) (by simp); have c20' := bx20.cell; have f20' := bx20.frozen; have l20' := bx20.lt)
                refine ⟨(KeepsFrom.of_grownBy (grown_of_below BX1.out) (fun j e => by cases e)).trans ((KeepsOthers.setCell _ _ _).from _), (Mid.of_below BX1.out (by omega)).set (p := ⟨B20, 0, none⟩) (.inr (by show w6.heap.size ≤ B20; omega)) _, ⟨⟨?_, (HBX3.out.2.trans (BX1.out.mono HBX3.out.2.size)).setCell (p := ⟨B20, 0, none⟩) (by show W.heap.size ≤ B20; omega) _⟩, ?_⟩⟩
                · rw [HN3.out, show ((n3 + 1 : Nat) : Int) = (n3 : Int) + 1 by omega]
                  exact bx20.set _
                · rw [HN3.out]
                  omega
              · have HG3 := hide hg3
                have hgi : (2 : Int) < (n3 : Int) + 1 := by omega
                clear hg3
                gi_wp2_with (gi_at_call 17; refine (CallsIn.inRound _ (callsIn_wide.2 SM3.out)).mono ?_; rintro e x1 ⟨rfl, mx, hx1⟩; have BX1 : Hid (Below X.heap.size X x1) := (by rw [hx1]; exact below_drewN (Below.refl _ X) mx); clear hx1; have bx20 := HBX3.out.1.kept (grown_of_below BX1.out) (by simp); have c20' := bx20.cell; have f20' := bx20.frozen; have l20' := bx20.lt)
                exact ⟨(KeepsFrom.of_grownBy (grown_of_below BX1.out) (fun j e => by cases e)).trans ((KeepsOthers.setCell _ _ _).from _), (HBX3.out.2.trans (BX1.out.mono HBX3.out.2.size)).setCell (p := ⟨B20, 0, none⟩) (by show W.heap.size ≤ B20; omega) _, rfl⟩
            case done3 =>
              rintro xs X hS ⟨⟨_, hBX⟩, _⟩
              exact REST3.out X hBX
            case stop3 =>
              rintro c pre X hSp ⟨hBX, rfl⟩
              gi_wp2
              exact REST3.out X hBX
          case done2 =>
            rintro D2 xs X hD2 hS ⟨rg, hKD⟩ hK0
            have hxl : xs.length = ys.length := by
              have h1 := congrArg List.length hS
              have h2 := congrArg List.length HY.out
              rw [List.length_map] at h1 h2
              omega
            rw [hxl] at rg
            exact RESTF.out D2 X hD2 hK0 hKD rg
          case stop2 =>
            rintro D2 c pre X _ _ h _
            exact h.elim
      subst hA0
      clear hK k13 hl13
      refine (wpIn_wide (n := 5)).1 ?_
      refine wpIn_told rfl (by omega) (gf := 41) (lb := #[.pointer (some ⟨Bf, 0, none⟩), .pointer (some ⟨Bk, 0, none⟩)]) rfl trivial (enters_of Try.func41 (by kernel_rfl) rfl)
        (all1_toldH 4 w5.heap.size w6.heap.size Bf Bk f l W15 GCC.out.all (by omega)) (fun h k => h.trans k) (midK_b HZB.out.2.2) (Below.refl _ _) (fun _ => rfl)
        (fun pre W => Rg w0 W15 lab2 Hb B15 (es.length + pre.length) pre.length W ∧ (pre.length : Int) < most)
        (fun c pre W => Rg w0 W15 lab2 Hb B15 (es.length + pre.length) pre.length W ∧ (c = .exit 2 ∧ (pre.length : Int) = most))
        (rg_own (fun s : List Given => es.length + s.length) (fun s : List Given => s.length) HZB.out.1 (Nat.le_refl _) (fun s : List Given => (s.length : Int) < most))
        (fun c => rg_own (fun s : List Given => es.length + s.length) (fun s : List Given => s.length) HZB.out.1 (Nat.le_refl _) (fun s : List Given => c = .exit 2 ∧ (s.length : Int) = most))
        (toldAll_own f l _)
        ⟨HRG.out, by simp; omega⟩
        ?a1 ?assign ?body ?done ?stop
      case assign =>
        intro l x W K hK
        gi_wp2
        exact hK
      case body =>
        rintro id pre ⟨p, v, b⟩ A W hid ⟨ra, hra⟩ ⟨rl, hrl⟩ hgr ⟨rgA, hmA⟩ _ ⟨hfr, hown⟩ _
        obtain ⟨lab3, es3, hs3, hc3, h23, hu3, hE3, hb3, hk3, ho3, ht3, _⟩ := rgA.told HZB.out.1 hgr (fun r e => by cases e; exact ⟨hid, _, hra, rfl⟩) hown
        obtain ⟨n, hn⟩ : ∃ n, n = pre.length := ⟨_, rfl⟩
        have HN1 : Hid ((pre ++ [((p, v, b) : Given)]).length = n + 1) := by rw [List.length_append, ← hn]; rfl
        rw [← hn] at hfr hmA hE3 hb3
        rw [← HY.out, List.getElem?_map, Option.map_eq_some_iff] at hfr
        obtain ⟨⟨py, vy, by'⟩, hy, hpr⟩ := hfr
        simp only [Given.pr, Prod.mk.injEq] at hpr
        obtain ⟨rfl, rfl⟩ := hpr
        have hnl := (List.getElem?_eq_some_iff.1 hy).1
        obtain ⟨b7, b8, b9, _, _, _, on⟩ := GCC.out.at hk3
        obtain ⟨gy, cy2, hvy, hgy, hyc, hcm, q0, q1⟩ := on.cells hy
        simp only [Value.slice.injEq] at hvy
        obtain ⟨rfl, _, rfl⟩ := hvy
        obtain ⟨ap, cp, hv, isp⟩ := hown.shape
        dsimp only at hv
        subst hv
        obtain ⟨ay, cy, hay, isy⟩ := (on.2 _ (List.mem_of_getElem? hy)).shape
        dsimp only at hay q1 q0
        subst hay
        obtain ⟨nb, hnb⟩ : ∃ nb, nb = by'.length := ⟨_, rfl⟩
        have SM := hide (same_yes ap ay cp cy by' W isp isy)
        rw [← hnb] at SM q1 HN1 ⊢
        have hbl : by'.length ≤ 1048576 := by
          have h1 := frames_fit0 (f := f) (l := l) (k := n) (x := (py, by')) (by rw [← HY.out, List.getElem?_map, hy]; rfl)
          simp only [] at h1
          omega
        have CK : Hid (∀ X, Below W.heap.size W X → Calls Try.prog 19 #[.pointer (some ⟨Hb, 0, none⟩), .slice ap nb cp] X fun e w' => e = .returned (.tuple #[]) ∧ Boxed w' B15 3 (.int .i64 (n : Int)) ∧ Boxed w' (B7 + 1) 3 (.int .i64 most) ∧ ∀ n' : Nat, Rg w0 W15 lab2 Hb B15 (es.length + (n + 1)) n' (w'.setCell ⟨B15, 0, none⟩ (.int .i64 (n' : Int))) ∧ Kept (fun k => Lists lab3 k ∨ k = B15) W (w'.setCell ⟨B15, 0, none⟩ (.int .i64 (n' : Int)))) := by
          intro X hX
          have hkX := hk3.step (Kept.ofBelow (P := fun _ => False) hX) (fun _ _ h => h.elim)
          have hK := (hs3.below hX).keep (a := ap) (c := cp) (l := by') (ho3.below hX) ht3 (by omega) (by omega)
          rw [← hnb] at hK
          refine hK.mono ?_
          rintro e w' ⟨rfl, lab4, es4, hs4, he4, hl4, hk4⟩
          obtain ⟨p1, p2⟩ := rg_push (n := n) (B15 := B15) (E := es.length + (n + 1)) hs4 hl4 hk4 h23 hu3 (by omega) (hb3.kept (grown_of_below hX) (by simp)) hkX HZB.out.2.1
          have hkk := Kept.ofBelow (P := Lists lab3) hX
          refine ⟨rfl, p1, ?_, fun n' => ⟨(p2 n').1, (Kept.ofBelow hX).trans (p2 n').2⟩⟩
          have hnot := GCC.out.not (k := B7 + 1) (by omega) GCC.out.b8.lt (by have := GCC.out.ord; omega)
          exact hk4.boxed (b8.kept (grown_of_below hX) (by simp)) (fun hL => hnot (.inl (h23 _ GCC.out.b8.lt hL)))
        have HC3 := hide (And.intro hc3 (And.intro h23 hb3))
        have c7 := b7.cell
        have c8 := b8.cell
        have c9 := b9.cell
        have hl9 := b9.lt
        have hl8 := b8.lt
        have hl7 := b7.lt
        have hl15 := hb3.lt
        have c15 := hb3.cell
        have hzW : W15.heap.size ≤ W.heap.size := hk3.size
        have hni : (n : Int) < (ys.length : Int) := by omega
        clear hs3 hc3 h23 hu3 hE3 hk3 ho3 ht3 hgr rgA hown on isp isy hra hrl hn hnb hb3 b7 b8 b9
        have hne : B7 + 1 ≠ B15 := by have := GCC.out.ord; omega
        cases hmb : ((n : Int) + 1 == most) with
        | true =>
          gi_wp2_with (first
            | (gi_at_call 17; refine (CallsIn.inRound _ (callsIn_wide.2 SM.out)).mono ?_; rintro e w1 ⟨rfl, m1, hw1⟩; have B1 : Hid (Below W.heap.size W w1) := (by rw [hw1]; exact below_drewN (Below.refl _ W) m1); clear hw1; have c9' := (B1.out.cell (p := ⟨B7 + 1 + 1, 0, none⟩) hl9).trans c9)
            | (gi_at_call 19; refine (CallsIn.inRound _ (callsIn_wide.2 (CK.out _ B1.out))).mono ?_; rintro e w2 ⟨rfl, bx15, bx8, rg2⟩; have RG2 := hide rg2; clear rg2; have c15' := bx15.cell; have f15' := bx15.frozen; have c8' := bx8.cell; have l15 := bx15.lt; have l8 := bx8.lt; have c8s := (cell_set_other w2 B15 0 (.int .i64 ((n : Int) + 1)) (B7 + 1) 0 hne).trans c8'; clear c8' bx8 bx15))
          have hfin := RG2.out (n + 1)
          rw [show ((n + 1 : Nat) : Int) = (n : Int) + 1 by omega] at hfin
          have hfr := keepsFrom_of W15.heap.size HC3.out.1 HC3.out.2.2 hfin.2
          refine ⟨hfr, ?_, rfl, ?_⟩
          · rw [HN1.out]
            exact hfin.1
          · rw [HN1.out]
            have := of_decide_eq_true (by simpa using hmb : decide ((n : Int) + 1 = most) = true)
            omega
        | false =>
          gi_wp2_with (first
            | (gi_at_call 17; refine (CallsIn.inRound _ (callsIn_wide.2 SM.out)).mono ?_; rintro e w1 ⟨rfl, m1, hw1⟩; have B1 : Hid (Below W.heap.size W w1) := (by rw [hw1]; exact below_drewN (Below.refl _ W) m1); clear hw1; have c9' := (B1.out.cell (p := ⟨B7 + 1 + 1, 0, none⟩) hl9).trans c9)
            | (gi_at_call 19; refine (CallsIn.inRound _ (callsIn_wide.2 (CK.out _ B1.out))).mono ?_; rintro e w2 ⟨rfl, bx15, bx8, rg2⟩; have RG2 := hide rg2; clear rg2; have c15' := bx15.cell; have f15' := bx15.frozen; have c8' := bx8.cell; have l15 := bx15.lt; have l8 := bx8.lt; have c8s := (cell_set_other w2 B15 0 (.int .i64 ((n : Int) + 1)) (B7 + 1) 0 hne).trans c8'; clear c8' bx8 bx15))
          have hfin := RG2.out (n + 1)
          rw [show ((n + 1 : Nat) : Int) = (n : Int) + 1 by omega] at hfin
          have hfr := keepsFrom_of W15.heap.size HC3.out.1 HC3.out.2.2 hfin.2
          refine ⟨hfr, ⟨hfin.2.size, fun k h1 h2 => hfin.2.block k (by have := HZB.out.2.2; omega) (fun hL => GCC.out.not (k := k) (by have := GCC.out.ord; omega) (by have := HZB.out.2.2; omega) (by have := GCC.out.ord; omega) (hL.imp (fun h => HC3.out.2.1 k (by have := HZB.out.2.2; omega) h) (fun h => h)))⟩, ?_, ?_⟩
          · rw [HN1.out]
            exact hfin.1
          · rw [HN1.out]
            have : ¬ (n : Int) + 1 = most := by simpa using hmb
            omega
      case done =>
        rintro D xs W hD hS ⟨rg, hlt⟩ hK0
        have hxl : xs.length = ys.length := by
          have h1 := congrArg List.length hS
          have h2 := congrArg List.length HY.out
          rw [List.length_map] at h1 h2
          omega
        exact REST.out D xs.length W hD hK0 rg (by omega) (.inr hxl)
      case stop =>
        rintro D c pre W hD hSp ⟨rg, rfl, hlt⟩ hK0
        have hxl : pre.length ≤ ys.length := by
          have h1 := hSp.length_le
          have h2 := congrArg List.length HY.out
          rw [List.length_map] at h1 h2
          omega
        gi_wp2
        exact REST.out D pre.length W hD hK0 rg hxl (.inl hlt)
end Go.Proofs.Ytibcfbajjnpbfaa
