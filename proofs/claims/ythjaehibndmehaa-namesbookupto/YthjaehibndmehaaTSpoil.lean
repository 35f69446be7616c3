/-
  The walk of the method spoil.
-/
import Derived.Test.YthjaehibndmehaaTHalf
import Derived.Test.YthjaehibndmehaaTKeep
import Derived.Test.YthjaehibndmehaaTMark
import Derived.Deep.RegionWith
import Derived.Deep.Cut
import Derived.Deep.CutRange
namespace Go.Proofs.Ythjaehibndmehaa
open Go.RowKit Go.Lib

theorem Held.reads {w : World} {B : Nat} {lab : Nat → Tag} {Hb : Nat} {fr : Value} {ok : Nat → Nat → Prop} {es : List Ent} (h : Held w B lab Hb fr ok es) :
    ∃ ao co aw cw, w.cell? ⟨Hb, 0, none⟩ = some (.slice ao es.length co) ∧ w.cell? ⟨Hb, 1, none⟩ = some (.slice aw es.length cw) ∧ w.cell? ⟨Hb, 2, none⟩ = some fr ∧
      (∀ (j : Nat) e, es[j]? = some e → ∃ go gw, (ao = some ⟨go, 0, none⟩ ∧ w.cell? ⟨go, j, none⟩ = some e.out ∧ go < w.heap.size) ∧ (aw = some ⟨gw, 0, none⟩ ∧ w.cell? ⟨gw, j, none⟩ = some e.want ∧ gw < w.heap.size)) ∧ Hb < w.heap.size := by
  obtain ⟨_, _, hr, _⟩ := h
  exact hr.reads

theorem mark_sum (a b : Nat) (w : World) (h : a + b ≤ 1152921504606846976) : Calls Try.prog 35 #[.int .i64 ((a : Int) + (b : Int))] w fun e w' => e = .returned (.string (markS (a + b))) ∧ Below w.heap.size w w' := by
  have := mark_any (a + b) w h
  rwa [Int.natCast_add] at this

set_option maxHeartbeats 4000000 in
set_option maxRecDepth 1000000 in
theorem spoil_any (w : World) (B : Nat) (lab : Nat → Tag) (Hb M : Nat) (fr : Value) (es : List Ent) (hh : Held w B lab Hb fr (okA 0) es) (hB : B ≤ w.heap.size) (hn : es.length ≤ 16777216) (hM : M ≤ 1073741824) (hlen : ∀ (j : Nat) e, es[j]? = some e → e.bytes.length ≤ M) :
    Calls Try.prog 18 #[.pointer (some ⟨Hb, 0, none⟩)] w fun e w' => e = .returned (.bool true) ∧
      ∃ lab' fs, Held w' B lab' Hb fr (okB 0 es.length) fs ∧ (∀ k, k < w.heap.size → lab' k = lab k) ∧ Kept (NotUser lab) w w' := by
  have HH : Hid (Held w B lab Hb fr (okA 0) es) := hh
  have HLEN : Hid (∀ (j : Nat) e, es[j]? = some e → e.bytes.length ≤ M) := hlen
  clear hh hlen
  go_enter Try.func18, Try.ntmps18
  go_wp2_with fail
  refine (holds_any w B lab Hb _ _ es HH.out).mono ?_
  rintro e w1 ⟨rfl, m1, hm1⟩
  have B1 : Below w.heap.size w w1 := by rw [hm1]; exact below_drewN (Below.refl _ w) m1
  have H1 : Hid (Held w1 B lab Hb fr (okA 0) es) := HH.out.below B1
  have K1 : Hid (Kept (NotUser lab) w w1) := Kept.ofBelow B1
  have hz1 := B1.size
  clear B1 hm1
  obtain ⟨ao, co, _, _, r0, _, r2, _, _⟩ := H1.out.reads
  go_wp2_with fail
  clear r0 r2
  go_loopw [4] (fun i wr => ∃ (k : Nat) (fs : List Ent), 0 ≤ k ∧ k ≤ es.length ∧ i = .int .i64 k ∧ fs.length = es.length ∧ Held wr B lab Hb fr (okA 0) fs ∧ (∀ (j : Nat) e, fs[j]? = some e → e.bytes.length ≤ M) ∧ Kept (NotUser lab) w wr) (fun i _ => es.length - (intOf i).toNat)
  case atStart => exact ⟨0, es, Nat.le_refl _, Nat.zero_le _, rfl, rfl, H1.out, HLEN.out, K1.out⟩
  case round =>
    obtain ⟨i, fs, hfi, hi, rfl, hfl, hheld, hfb, hkept⟩ := hrel
    have HF : Hid (Held wr B lab Hb fr (okA 0) fs) := hheld
    have HFB : Hid (∀ (j : Nat) e, fs[j]? = some e → e.bytes.length ≤ M) := hfb
    have HK : Hid (Kept (NotUser lab) w wr) := hkept
    clear hheld hfb hkept H1 K1
    by_cases hlt : i < es.length
    · obtain ⟨e0, he0⟩ : ∃ e, fs[i]? = some e := ⟨_, List.getElem?_eq_getElem (by omega)⟩
      have hL := HFB.out i e0 he0
      obtain ⟨L, hLL⟩ : ∃ L, L = e0.bytes.length := ⟨_, rfl⟩
      rw [← hLL] at hL
      have HE0 : Hid (fs[i]? = some e0) := he0
      have HLL : Hid (L = e0.bytes.length) := hLL
      clear he0 hLL
      go_wp2_with fail
      go_loopw [5] (fun q wq => ∃ (k : Nat) (gs : List Ent) (f : Ent), k ≤ L ∧ q = .int .i64 k ∧ gs.length = es.length ∧ Held wq B lab Hb fr (okA 0) gs ∧ gs[i]? = some f ∧ f.bytes.length = L ∧ (∀ (j : Nat) e, gs[j]? = some e → e.bytes.length ≤ M) ∧ Kept (NotUser lab) w wq) (fun q _ => L - (intOf q).toNat)
      case atStart => exact ⟨0, fs, e0, Nat.zero_le _, rfl, hfl, HF.out, HE0.out, HLL.out.symm, HFB.out, HK.out⟩
      case round =>
        obtain ⟨k, gs, f, hk, rfl, hgl, hheld, hf, hfL, hgb, hkept⟩ := hrel
        have HG : Hid (Held wr B lab Hb fr (okA 0) gs) := hheld
        have HGB : Hid (∀ (j : Nat) e, gs[j]? = some e → e.bytes.length ≤ M) := hgb
        have HGK : Hid (Kept (NotUser lab) w wr) := hkept
        have HFF : Hid (gs[i]? = some f) := hf
        have HFL : Hid (f.bytes.length = L) := hfL
        obtain ⟨ao, co, aw, cw, r0, _, _, rc, hHb⟩ := hheld.reads
        rw [hgl] at r0
        obtain ⟨go, gw, ⟨rfl, q0, hgo⟩, ⟨rfl, _, _⟩⟩ := rc i f hf
        obtain ⟨vo, vw, hr, hes⟩ := hheld
        obtain ⟨⟨o1, l1⟩, o2, l2⟩ := hes i f hf
        have hki : (i : Int) < (es.length : Int) := by omega
        by_cases hkL : k < L
        · obtain ⟨g1, d1, t1⟩ := o1.shapeSome (by omega)
          obtain ⟨g2, d2, t2⟩ := o2.shapeSome (by omega)
          have T1 : Hid (f.out = .slice (some ⟨g1, 0, none⟩) f.bytes.length d1) := t1
          have T2 : Hid (f.want = .slice (some ⟨g2, 0, none⟩) f.bytes.length d2) := t2
          rw [t1] at q0 o1
          rw [hfL] at q0 o1
          obtain ⟨y, hy⟩ : ∃ y, f.bytes[k]? = some y := ⟨_, List.getElem?_eq_getElem (by omega)⟩
          have z1 : wr.cell? ⟨g1, k, none⟩ = some (.string y) := o1.cell k y hy
          have z2 : wr.frozen? ⟨g1, k, none⟩ = false := o1.frozen k
          have hg1 : g1 < wr.heap.size := (o1.lt g1 rfl).2
          have hkLi : (k : Int) < (L : Int) := by omega
          clear rc hr hes o1 o2 l1 l2 hgb hkept t1 t2 hy hfL
          go_upto_region 10 with fail
          go_cut [44] from 23 to 56 (fun _ wx => ∃ wa, Below wr.heap.size wr wa ∧ wx = wa.setCell ⟨g1, k, none⟩ (.string (markS i)))
          case first =>
            go_region_with (go_at_call 35
                            refine (mark_any i _ (by omega)).mono ?_
                            rintro e wa ⟨rfl, Ba⟩
                            have Bb : Below wr.heap.size wr wa := by first | exact (Below.refl _ wr).drew.trans Ba | exact Ba
                            have x0 : wa.cell? ⟨Hb, 0, none⟩ = _ := (Bb.cell (p := ⟨Hb, 0, none⟩) hHb).trans r0
                            have x1 : wa.cell? ⟨go, i, none⟩ = _ := (Bb.cell (p := ⟨go, i, none⟩) hgo).trans q0
                            have x2 : wa.cell? ⟨g1, k, none⟩ = _ := (Bb.cell (p := ⟨g1, k, none⟩) hg1).trans z1
                            have x3 : wa.frozen? ⟨g1, k, none⟩ = _ := (Bb.frozen (p := ⟨g1, k, none⟩) hg1).trans z2
                            have HBb : Hid (Below wr.heap.size wr wa) := Bb
                            clear Ba Bb)
            all_goals (go_wp2_with fail; go_meet)
            all_goals exact ⟨wa, HBb.out, rfl⟩
          case rest =>
            obtain ⟨wa, Bwa, hwc⟩ := hcut
            have hst := Half.start (HG.out.below Bwa) i k hfi f HFF.out (markS i) g1 d1 T1.out
            rw [← hwc] at hst
            have HALF : Hid (Half wc B lab Hb fr 0 gs i f (f.bytes.set k (markS i))) := hst.1
            have KW : Hid (Kept (NotUser lab) w wc) := (HGK.out.trans (Kept.ofBelow Bwa)).trans hst.2
            clear hst hwc Bwa r0 q0 z1 z2 hHb hgo hg1
            obtain ⟨vo, vw, hr, _, _, _, ⟨o2, _⟩, _⟩ := HALF.out
            obtain ⟨ao, co, aw, cw, _, r1, _, rc, hHb⟩ := hr.reads
            rw [hgl] at r1
            obtain ⟨go, gw, _, ⟨rfl, q1, hgw⟩⟩ := rc i f HFF.out
            rw [T2.out, HFL.out] at q1 o2
            obtain ⟨y2, hy2⟩ : ∃ y, f.bytes[k]? = some y := ⟨_, List.getElem?_eq_getElem (by rw [HFL.out]; omega)⟩
            have z1 : wc.cell? ⟨g2, k, none⟩ = some (.string y2) := o2.cell k y2 hy2
            have z2 : wc.frozen? ⟨g2, k, none⟩ = false := o2.frozen k
            have hg2 : g2 < wc.heap.size := (o2.lt g2 rfl).2
            clear rc hr o2 hy2
            go_upto_region 11 with fail
            have HLb : Hid (∀ (j : Nat) e, (gs.set i ⟨f.out, f.want, f.bytes.set k (markS i)⟩)[j]? = some e → e.bytes.length ≤ M) := by
              intro j e he
              rw [List.getElem?_set] at he
              split at he
              · split at he
                · simp only [Option.some.injEq] at he
                  subst he
                  simpa using HGB.out i f HFF.out
                · cases he
              · exact HGB.out j e he
            go_region_with (go_at_call 35
                            refine (mark_any i _ (by omega)).mono ?_
                            rintro e wb ⟨rfl, Ba⟩
                            have Bb : Below wc.heap.size wc wb := by first | exact (Below.refl _ wc).drew.trans Ba | exact Ba
                            have x0 : wb.cell? ⟨Hb, 1, none⟩ = _ := (Bb.cell (p := ⟨Hb, 1, none⟩) hHb).trans r1
                            have x1 : wb.cell? ⟨gw, i, none⟩ = _ := (Bb.cell (p := ⟨gw, i, none⟩) hgw).trans q1
                            have x2 : wb.cell? ⟨g2, k, none⟩ = _ := (Bb.cell (p := ⟨g2, k, none⟩) hg2).trans z1
                            have x3 : wb.frozen? ⟨g2, k, none⟩ = _ := (Bb.frozen (p := ⟨g2, k, none⟩) hg2).trans z2
                            have hfn2 := (HALF.out.below Bb).finish g2 d2 T2.out
                            have H5 : Hid (Held (wb.setCell ⟨g2, k, none⟩ (.string (markS i))) B lab Hb fr (okA 0) (gs.set i ⟨f.out, f.want, f.bytes.set k (markS i)⟩)) := hfn2.1
                            have K5 : Hid (Kept (NotUser lab) w (wb.setCell ⟨g2, k, none⟩ (.string (markS i)))) := (KW.out.trans (Kept.ofBelow Bb)).trans hfn2.2
                            clear Ba Bb hfn2)
            all_goals go_wp2
            all_goals go_roundw
            all_goals try (simp [intOf]; omega)
            all_goals
              first
                | (refine ⟨k + 1, gs.set i ⟨f.out, f.want, f.bytes.set k (markS i)⟩, ⟨f.out, f.want, f.bytes.set k (markS i)⟩, by omega, by go_num, by simp [hgl], H5.out, List.getElem?_set_self (by omega), by simp [HFL.out], HLb.out, K5.out⟩)
                | (repeat apply Exists.intro
                   exact ⟨⟨k + 1, gs.set i ⟨f.out, f.want, f.bytes.set k (markS i)⟩, ⟨f.out, f.want, f.bytes.set k (markS i)⟩, by omega, by go_num, by simp [hgl], H5.out, List.getElem?_set_self (by omega), by simp [HFL.out], HLb.out, K5.out⟩, rfl⟩)
        · obtain ⟨a1, c1, s1, i1⟩ := o1.shape
          rw [s1, hfL] at q0
          clear rc hr hes o1 o2 i1 l1 l2 s1 hgb hkept hf
          go_wp2
          go_roundw
          case rel => exact ⟨i + 1, gs, by omega, by omega, by go_num, hgl, HG.out, HGB.out, HGK.out⟩
          case measure => simp [intOf]; omega
    · obtain rfl : i = es.length := by omega
      clear HLEN HH
      go_wp2_with fail
      refine (holds_any wr B lab Hb _ _ fs HF.out).mono ?_
      rintro e w2 ⟨rfl, m2, hm2⟩
      have B2 : Below wr.heap.size wr w2 := by rw [hm2]; exact below_drewN (Below.refl _ wr) m2
      have H2 : Hid (Held w2 B lab Hb fr (okB 0 es.length) fs) := (HF.out.below B2).toB
      have K2 : Hid (Kept (NotUser lab) w w2) := HK.out.trans (Kept.ofBelow B2)
      have HFB2 : Hid (∀ (j : Nat) e, fs[j]? = some e → e.bytes.length ≤ M) := HFB.out
      clear B2 hm2 HF HK HFB
      go_wp2_with fail
      go_loopw [6] (fun q wr => ∃ (i t : Nat) (lab1 : Nat → Tag) (news : List Ent), i = 0 + t ∧ i ≤ es.length ∧ q = .int .i64 i ∧ news.length = t ∧ Held wr B lab1 Hb fr (okB 0 es.length) (fs ++ news) ∧ (∀ k, k < w.heap.size → lab1 k = lab k) ∧ Kept (NotUser lab) w wr ∧ (∀ (j : Nat) e, (fs ++ news)[j]? = some e → e.bytes.length ≤ M + 20)) (fun q _ => es.length - (intOf q).toNat)
      case atStart => exact ⟨0, 0, lab, [], rfl, Nat.zero_le _, rfl, rfl, by rw [List.append_nil]; exact H2.out, fun _ _ => rfl, K2.out, fun j e he => by rw [List.append_nil] at he; have := HFB2.out j e he; omega⟩
      case round =>
        obtain ⟨i, t, lab1, news, hit, hi, rfl, hnl, hheld, hlab1, hkept, hbd⟩ := hrel
        have HIT : Hid (i = 0 + t) := hit
        have HG : Hid (Held wr B lab1 Hb fr (okB 0 es.length) (fs ++ news)) := hheld
        have HLB : Hid (∀ k, k < w.heap.size → lab1 k = lab k) := hlab1
        have HGK : Hid (Kept (NotUser lab) w wr) := hkept
        have HBD : Hid (∀ (j : Nat) e, (fs ++ news)[j]? = some e → e.bytes.length ≤ M + 20) := hbd
        have hz3 := hkept.size
        have hfnl : (fs ++ news).length = es.length + t := by simp [hfl, hnl]
        have HFNL : Hid ((fs ++ news).length = es.length + t) := hfnl
        have htn : t ≤ es.length := by omega
        clear hlab1 hkept H2 K2 hbd
        by_cases hlt : i < es.length
        · obtain ⟨e0, he0⟩ : ∃ e, fs[i]? = some e := ⟨_, List.getElem?_eq_getElem (by omega)⟩
          have he1 : (fs ++ news)[i]? = some e0 := by rw [List.getElem?_append_left (by omega)]; exact he0
          have hL := HFB2.out i e0 he0
          obtain ⟨ao, co, aw, cw, r0, r1, _, rc, hHb⟩ := hheld.reads
          rw [hfnl] at r0 r1
          obtain ⟨go, gw, ⟨rfl, q0, hgo⟩, ⟨rfl, q1, hgw⟩⟩ := rc i e0 he1
          obtain ⟨vo, vw, hr, hes⟩ := hheld
          obtain ⟨⟨o1, l1⟩, o2, l2⟩ := hes i e0 he1
          obtain ⟨a1, c1, s1, i1⟩ := o1.shape
          obtain ⟨a2, c2, s2, i2⟩ := o2.shape
          rw [s1] at q0
          rw [s2] at q1
          have I2 : Hid (IsStrs wr a2 c2 e0.bytes) := i2
          have HE1 : Hid ((fs ++ news)[0 + t]? = some e0) := by rw [← HIT.out]; exact he1
          have HS1 : Hid (e0.out = .slice a1 e0.bytes.length c1) := s1
          have hki : (i : Int) < (es.length : Int) + (t : Int) := by omega
          have hft : 0 + t < es.length := by omega
          have al0 : Below wr.heap.size wr (wr.alloc (.cells #[] 9)) := (Below.refl _ wr).alloc (Nat.le_refl _) _
          have y1 : (wr.alloc (.cells #[] 9)).cell? ⟨Hb, 1, none⟩ = _ := (al0.cell (p := ⟨Hb, 1, none⟩) hHb).trans r1
          have y2 : (wr.alloc (.cells #[] 9)).cell? ⟨gw, i, none⟩ = _ := (al0.cell (p := ⟨gw, i, none⟩) hgw).trans q1
          clear rc hr hes o1 o2 i1 i2 l1 l2 s1 s2 he0 he1 hit hfnl hnl
          go_wp2_with (refine wpList_appendS rfl (.tmp 73) (.tmp 80) rfl wr.heap.size (.slice (some ⟨wr.heap.size, 0, none⟩) 0 0) [] rfl (OwnS.lit wr _ (Nat.le_refl _)) a2 c2 e0.bytes rfl (I2.out.below al0) (by simp; omega) (by simp) ?_
                       intro u4 w4 own4 gr4 _ _ _
                       have B4 : Below wr.heap.size wr w4 := al0.grown gr4 (by simp) (fun k hk => by simp [Value.ownBlock] at hk; omega)
                       have hgs := Grows.start HG.out HFNL.out hft e0 HE1.out B4 own4 (by omega)
                       rw [HS1.out] at hgs
                       have GS4 : Hid (Grows w4 B (fun k => if k < wr.heap.size then lab1 k else .want (es.length + t)) Hb fr 0 es.length t (fs ++ news) (.slice a1 e0.bytes.length c1) u4 e0.bytes e0.bytes) := hgs
                       have K4 : Hid (Kept (NotUser lab) w w4) := HGK.out.trans (Kept.ofBelow B4)
                       clear hgs own4 B4 gr4)
          have HLB4 : Hid (∀ k, k < w.heap.size → (fun k => if k < wr.heap.size then lab1 k else Tag.want (es.length + t)) k = lab k) := by
            intro k hk
            simp only []
            rw [if_pos (by omega)]
            exact HLB.out k hk
          clear r0 r1 q0 q1 y1 y2 al0
          obtain ⟨x, hx⟩ : ∃ x, x = markS (es.length + i) := ⟨_, rfl⟩
          have HX : Hid (x = markS (es.length + i)) := hx
          clear hx
          go_loopw [7, 8, 9] (fun v u q wr => ∃ (k : Nat) (labq : Nat → Tag) (l : List ByteArray), k ≤ 20 ∧ q = .int .i64 k ∧ Grows wr B labq Hb fr 0 es.length t (fs ++ news) v u l l ∧ l.length = e0.bytes.length + k ∧ (∀ k, k < w.heap.size → labq k = lab k) ∧ Kept (NotUser lab) w wr) (fun _ _ q _ => 20 - (intOf q).toNat)
          case atStart => exact ⟨0, _, e0.bytes, by omega, rfl, GS4.out, rfl, HLB4.out, K4.out⟩
          case round =>
            obtain ⟨k, labq, l, hk, rfl, hgr, hll, hlq, hkq⟩ := hrel
            have GS : Hid (Grows wr B labq Hb fr 0 es.length t (fs ++ news) u7 u8 l l) := hgr
            have HLQ : Hid (∀ k, k < w.heap.size → labq k = lab k) := hlq
            have KQ : Hid (Kept (NotUser lab) w wr) := hkq
            have hzq := hkq.size
            clear hgr hlq hkq GS4 K4 HLB4 HG HLB HGK
            by_cases hk12 : k < 20
            · go_wp2_with fail
              refine (mark_sum es.length i wr (by omega)).mono ?_
              rintro e wm ⟨rfl, Bm⟩
              rw [← HX.out]
              have al : Below wm.heap.size wm (wm.alloc (.cells #[.string x] 9)) := (Below.refl _ wm).alloc (Nat.le_refl _) _
              have GA : Hid (Grows (wm.alloc (.cells #[.string x] 9)) B labq Hb fr 0 es.length t (fs ++ news) u7 u8 l l) := (GS.out.below Bm).below al
              have KA : Hid (Kept (NotUser lab) w (wm.alloc (.cells #[.string x] 9))) := (KQ.out.trans (Kept.ofBelow Bm)).trans (Kept.ofBelow al)
              have hzm := Bm.size
              clear al Bm
              go_wp2_with (refine wpList_appendS rfl (.tmp 86) (.tmp 91) rfl B u7 l rfl GA.out.2.1.1 (some ⟨wm.heap.size, 0, none⟩) 1 [x] rfl (IsStrs.ofNew wm x) (by simp; omega) (by simp; omega) ?_
                           intro v5 w5 ho5 hg5 hk5 hv5 _
                           have hs5 := GA.out.out ho5 hg5 hk5 hv5
                           have GB0 : Hid (Grows w5 B (fun k => if k = (wm.alloc (.cells #[.string x] 9)).heap.size then .out (es.length + t) else labq k) Hb fr 0 es.length t (fs ++ news) v5 u8 (l ++ [x]) l) := hs5.1
                           have KB0 : Hid (Kept (NotUser lab) w w5) := KA.out.step hs5.2 (fun j hj h i => by rw [← HLQ.out j hj]; exact h i)
                           have hz5 := hg5.size
                           clear hs5 ho5 hg5 hk5 hv5)
              refine (mark_sum es.length i w5 (by omega)).mono ?_
              rintro e wn ⟨rfl, Bn⟩
              rw [← HX.out]
              have al5 : Below wn.heap.size wn (wn.alloc (.cells #[.string x] 9)) := (Below.refl _ wn).alloc (Nat.le_refl _) _
              have GB : Hid (Grows (wn.alloc (.cells #[.string x] 9)) B (fun k => if k = (wm.alloc (.cells #[.string x] 9)).heap.size then .out (es.length + t) else labq k) Hb fr 0 es.length t (fs ++ news) v5 u8 (l ++ [x]) l) := (GB0.out.below Bn).below al5
              have KB : Hid (Kept (NotUser lab) w (wn.alloc (.cells #[.string x] 9))) := (KB0.out.trans (Kept.ofBelow Bn)).trans (Kept.ofBelow al5)
              have hzn := Bn.size
              clear al5 Bn GB0 KB0
              go_wp2_with (refine wpList_appendS rfl (.tmp 93) (.tmp 98) rfl B u8 l rfl GB.out.2.2.1.1 (some ⟨wn.heap.size, 0, none⟩) 1 [x] rfl (IsStrs.ofNew wn x) (by simp; omega) (by simp at hz5 ⊢; omega) ?_
                           intro v6 w6 ho6 hg6 _ hv6 _
                           have hs6 := GB.out.want ho6 hg6 hv6
                           have G6 : Hid (Grows w6 B (fun k => if k = (wn.alloc (.cells #[.string x] 9)).heap.size then .want (es.length + t) else (fun k => if k = (wm.alloc (.cells #[.string x] 9)).heap.size then .out (es.length + t) else labq k) k) Hb fr 0 es.length t (fs ++ news) v5 v6 (l ++ [x]) (l ++ [x])) := hs6.1
                           have K6 : Hid (Kept (NotUser lab) w w6) := KB.out.step hs6.2 (fun j hj h a => by
                             have := h a
                             simp only [World.size_alloc] at this
                             rw [if_neg (by omega)] at this
                             rw [← HLQ.out j hj]
                             exact this)
                           clear hs6 ho6 hg6 hv6)
              go_roundw
              case rel =>
                refine ⟨k + 1, _, l ++ [x], by omega, by go_num, G6.out, by simp; omega, ?_, K6.out⟩
                intro j hj
                simp only [World.size_alloc] at hz5 ⊢
                rw [if_neg (by omega), if_neg (by omega)]
                exact HLQ.out j hj
              case measure => simp [intOf]; omega
            · obtain rfl : k = 20 := by omega
              have hl12 : l.length ≤ M + 20 := by omega
              have HL12 : Hid (l.length ≤ M + 20) := hl12
              clear hll hl12
              have HENT := GS.out.entry
              obtain ⟨av, cv, hv7, _⟩ := GS.out.2.1.1.shape
              obtain ⟨au, cu, hv8, _⟩ := GS.out.2.2.1.1.shape
              subst hv7 hv8
              obtain ⟨vo, vw, hr, hes⟩ := GS.out.1
              obtain ⟨ao, co, hvo, _⟩ := row_shape hr.2.2.2.1.1
              obtain ⟨aw, cw, hvw, _⟩ := row_shape hr.2.2.2.2.1
              rw [List.length_map, HFNL.out] at hvo hvw
              subst hvo hvw
              have k0 := hr.cell0
              have HR : Hid (HRows wr B labq Hb (.slice ao (es.length + t) co) (.slice aw (es.length + t) cw) fr ((fs ++ news).map (·.out)) ((fs ++ news).map (·.want))) := hr
              have HES : Hid (Ents wr B labq (okB 0 es.length) (fs ++ news)) := hes
              have HNT : Hid (EntAt wr B labq (okB 0 es.length) (fs ++ news).length ⟨.slice av l.length cv, .slice au l.length cu, l⟩) := HENT
              clear hr hes HENT
              have hlo : ((fs ++ news).map (·.out)).length ≤ 1073741824 := by rw [List.length_map, HFNL.out]; omega
              have hlw : ((fs ++ news).map (·.want)).length ≤ 1073741824 := by rw [List.length_map, HFNL.out]; omega
              have hBw : B ≤ wr.heap.size := by omega
              go_wp2_with (first
                | (refine wpList_push rfl (.tmp 104) (.tmp 106) rfl B (.slice ao (es.length + t) co) ((fs ++ news).map (·.out)) rfl HR.out.2.2.2.1.1 (.slice av l.length cv) _ rfl rfl rfl hlo hBw ?_
                   intro vo' w5 ho5 hg5 hv5
                   obtain ⟨ao', co', hvo', _⟩ := row_shape ho5
                   rw [List.length_map, HFNL.out] at hvo'
                   subst hvo'
                   obtain ⟨c50, _, f50, _⟩ := box_cell ((HR.out.alloc (.cells #[.slice av l.length cv] 54)).boxOut hg5)
                   have HR5 : Hid (HRows (w5.setCell ⟨Hb, 0, none⟩ (.slice ao' (es.length + t + 1) co')) B (fun k => if k = (wr.alloc (.cells #[.slice av l.length cv] 54)).heap.size then .outs else labq k) Hb (.slice ao' (es.length + t + 1) co') (.slice aw (es.length + t) cw) fr ((fs ++ news).map (·.out) ++ [.slice av l.length cv]) ((fs ++ news).map (·.want))) := ((HR.out.alloc (.cells #[.slice av l.length cv] 54)).pushOut ho5 hg5 (by simpa using hv5)).1
                   obtain ⟨_, c51, _, _⟩ := box_cell HR5.out.1
                   have hz5 := hg5.size)
                | (refine wpList_push rfl (.tmp 114) (.tmp 116) rfl B (.slice aw (es.length + t) cw) ((fs ++ news).map (·.want)) rfl HR5.out.2.2.2.2.1 (.slice au l.length cu) _ (by simp) rfl rfl hlw (by simp at hz5 ⊢; omega) ?_
                   intro vw' w6 ho6 hg6 hv6
                   obtain ⟨aw', cw', hvw', _⟩ := row_shape ho6
                   rw [List.length_map, HFNL.out] at hvw'
                   subst hvw'
                   obtain ⟨_, c61, _, f61⟩ := box_cell ((HR5.out.alloc (.cells #[.slice au l.length cu] 54)).boxWant hg6)))
              go_roundw
              case rel =>
                obtain ⟨lab7, h7, l7, k7⟩ := Held.pushed (e := ⟨.slice av l.length cv, .slice au l.length cu, l⟩) HR.out HES.out HNT.out (.cells #[.slice av l.length cv] 54) (.cells #[.slice au l.length cu] 54) ho5 hg5 (by simpa using hv5) ho6 hg6 (by simpa using hv6)
                have hnl : news.length = t := by have := HFNL.out; simp at this; omega
                refine ⟨i + 1, t + 1, lab7, news ++ [⟨.slice av l.length cv, .slice au l.length cu, l⟩], by have := HIT.out; omega, by omega, by go_num, by simp [hnl], by rw [← List.append_assoc]; exact h7, fun j hj => (l7 j (by omega)).trans (HLQ.out j hj), ?_, ?_⟩
                · refine KQ.out.step k7 (fun j hj h a => ?_)
                  rw [← HLQ.out j hj]
                  rcases h with h | h | h <;> rw [h] <;> simp
                · intro j e he
                  rw [← List.append_assoc] at he
                  by_cases hjl : j < (fs ++ news).length
                  · rw [List.getElem?_append_left hjl] at he
                    exact HBD.out j e he
                  · rw [List.getElem?_append_right (by omega)] at he
                    have hj0 : j - (fs ++ news).length = 0 := by have := (List.getElem?_eq_some_iff.1 he).1; simp at this; simp; omega
                    rw [hj0] at he
                    simp only [List.getElem?_cons_zero, Option.some.injEq] at he
                    rw [← he]
                    exact HL12.out
              case measure => simp [intOf]; omega
        · obtain rfl : i = es.length := by omega
          clear hheld hfnl hit
          go_wp2_with fail
          refine (holds_any wr B lab1 Hb _ _ (fs ++ news) HG.out).mono ?_
          rintro e w9 ⟨rfl, m9, hm9⟩
          have B9 : Below wr.heap.size wr w9 := by rw [hm9]; exact below_drewN (Below.refl _ _) m9
          have H9 := HG.out.below B9
          have K9 := HGK.out.trans (Kept.ofBelow (P := NotUser lab) B9)
          clear hm9 B9
          go_wp2
          go_ret
          exact ⟨rfl, lab1, fs ++ news, H9, HLB.out, K9⟩
end Go.Proofs.Ythjaehibndmehaa
