/-
  The walk of the method write.
-/
import Derived.Test.YtkjjinccnaphpaaIHalf
import Derived.Test.YtkjjinccnaphpaaIKeepM
import Derived.Deep.RegionWith
import Derived.Deep.CutRange
import Derived.BigQuiet
namespace Go.Proofs.Ytkjjinccnaphpaa
open Go.RowKit Go.Lib

theorem Held.reads {w : World} {B : Nat} {lab : Nat → Tag} {Hb : Nat} {fr : Fx} {ok : Nat → Nat → Prop} {es : List Ent} (h : Held w B lab Hb fr ok es) :
    ∃ ao co aw cw, w.cell? ⟨Hb, 2, none⟩ = some (.slice ao es.length co) ∧ w.cell? ⟨Hb, 3, none⟩ = some (.slice aw es.length cw) ∧ w.cell? ⟨Hb, 4, none⟩ = some fr.f ∧
      (∀ (j : Nat) e, es[j]? = some e → ∃ go gw, (ao = some ⟨go, 0, none⟩ ∧ w.cell? ⟨go, j, none⟩ = some e.out ∧ go < w.heap.size) ∧ (aw = some ⟨gw, 0, none⟩ ∧ w.cell? ⟨gw, j, none⟩ = some e.want ∧ gw < w.heap.size)) ∧ Hb < w.heap.size := by
  obtain ⟨_, _, hr, _⟩ := h
  exact hr.reads

set_option maxHeartbeats 4000000 in
set_option maxRecDepth 1000000 in
theorem write_any (w : World) (B : Nat) (lab : Nat → Tag) (Hb M first : Nat) (va vb : Value) (es : List Ent) (hh : Held w B lab Hb ⟨va, vb, .int .i64 (first : Int)⟩ (okA first) es) (hB : B ≤ w.heap.size) (hfn : first ≤ es.length) (hn : es.length ≤ 16777216) (hM : M ≤ 1073741000) (hlen : ∀ (j : Nat) e, es[j]? = some e → e.bytes.length ≤ M) :
    Calls Try.prog 11 #[.pointer (some ⟨Hb, 2, none⟩)] w fun e w' => e = .returned (.bool true) ∧
      ∃ lab' fs, Held w' B lab' Hb ⟨va, vb, .int .i64 (fs.length : Int)⟩ (okA fs.length) fs ∧ fs.length = es.length + (es.length - first) ∧ (∀ (j : Nat) e, fs[j]? = some e → e.bytes.length ≤ M + 40) ∧ (∀ k, k < w.heap.size → lab' k = lab k) ∧ Kept (NotUser lab) w w' := by
  obtain ⟨fr, hfr⟩ : ∃ fr : Fx, fr = ⟨va, vb, .int .i64 (first : Int)⟩ := ⟨_, rfl⟩
  have hf1 : fr.f = .int .i64 (first : Int) := by rw [hfr]
  rw [← hfr] at hh
  have HFR : Hid (fr.x0 = va ∧ fr.x1 = vb) := by rw [hfr]; exact ⟨rfl, rfl⟩
  clear hfr
  have HH : Hid (Held w B lab Hb fr (okA first) es) := hh
  have HLEN : Hid (∀ (j : Nat) e, es[j]? = some e → e.bytes.length ≤ M) := hlen
  have H1b : Hid (∀ (j : Nat) e, es[j]? = some e → e.bytes.length ≤ 1073741823) := fun j e he => by have := hlen j e he; omega
  clear hh hlen
  obtain ⟨is1, hi1, hz10, hz11, hz12⟩ := info_parts info_str
  go_enter Try.func11, Try.ntmps11
  go_wp2_with fail
  refine (holds_any w B lab Hb _ _ es HH.out H1b.out).mono ?_
  rintro e w1 ⟨rfl, B1⟩
  have H1 : Hid (Held w1 B lab Hb fr (okA first) es) := HH.out.below B1
  have K1 : Hid (Kept (NotUser lab) w w1) := Kept.ofBelow B1
  have hz1 := B1.size
  clear B1
  obtain ⟨ao, co, _, _, r0, _, r2, _, hHb1⟩ := H1.out.reads
  rw [hf1] at r2
  go_wp2_with fail
  go_quiet (fail)
  generalize hWd : w1.drewN _ = Wd
  have Bd : Below w1.heap.size w1 Wd := by rw [← hWd]; exact below_drewN (Below.refl _ _) _
  have HD : Hid (Held Wd B lab Hb fr (okA first) es) := H1.out.below Bd
  have KD : Hid (Kept (NotUser lab) w Wd) := K1.out.trans (Kept.ofBelow Bd)
  clear hWd Bd r0 r2 H1 K1
  have hLf : (first : Int) ≤ (es.length : Int) := by omega
  clear hHb1
  go_wp2_with fail
  go_loopw [6] (fun i wr => ∃ (k : Nat) (fs : List Ent), first ≤ k ∧ k ≤ es.length ∧ i = .int .i64 k ∧ fs.length = es.length ∧ Held wr B lab Hb fr (okA first) fs ∧ (∀ (j : Nat) e, fs[j]? = some e → e.bytes.length ≤ M) ∧ Kept (NotUser lab) w wr) (fun i _ => es.length - (intOf i).toNat)
  case atStart => exact ⟨first, es, Nat.le_refl _, hfn, rfl, rfl, HD.out, HLEN.out, KD.out⟩
  case round =>
    obtain ⟨i, fs, hfi, hi, rfl, hfl, hheld, hfb, hkept⟩ := hrel
    have HF : Hid (Held wr B lab Hb fr (okA first) fs) := hheld
    have HFB : Hid (∀ (j : Nat) e, fs[j]? = some e → e.bytes.length ≤ M) := hfb
    have HK : Hid (Kept (NotUser lab) w wr) := hkept
    clear hheld hfb hkept HD KD
    by_cases hlt : i < es.length
    · obtain ⟨e0, he0⟩ : ∃ e, fs[i]? = some e := ⟨_, List.getElem?_eq_getElem (by omega)⟩
      have hL := HFB.out i e0 he0
      obtain ⟨L, hLL⟩ : ∃ L, L = e0.bytes.length := ⟨_, rfl⟩
      rw [← hLL] at hL
      have HE0 : Hid (fs[i]? = some e0) := he0
      have HLL : Hid (L = e0.bytes.length) := hLL
      obtain ⟨ao, co, aw, cw, r0, _, _, rc, hHb⟩ := HF.out.reads
      rw [hfl] at r0
      obtain ⟨go, gw, ⟨rfl, q0, hgo⟩, _⟩ := rc i e0 he0
      obtain ⟨vo, vw, hr, hes⟩ := HF.out
      obtain ⟨a1, c1, s1, _⟩ := (hes i e0 he0).1.1.shape
      rw [s1, ← hLL] at q0
      have hii : (i : Int) < (es.length : Int) := by omega
      clear rc hr hes s1 he0 hLL
      go_wp2_with fail
      clear r0 q0 hHb hgo
      go_loopw [36] (fun q wq => ∃ (k : Nat) (gs : List Ent) (f : Ent), k ≤ L ∧ q = .int .i64 k ∧ gs.length = es.length ∧ Held wq B lab Hb fr (okA first) gs ∧ gs[i]? = some f ∧ f.bytes.length = L ∧ (∀ (j : Nat) e, gs[j]? = some e → e.bytes.length ≤ M) ∧ Kept (NotUser lab) w wq) (fun q _ => L - (intOf q).toNat)
      case atStart => exact ⟨0, fs, e0, Nat.zero_le _, rfl, hfl, HF.out, HE0.out, HLL.out.symm, HFB.out, HK.out⟩
      case round =>
        obtain ⟨k, gs, f, hk, rfl, hgl, hheld, hf, hfL, hgb, hkept⟩ := hrel
        have HG : Hid (Held wr B lab Hb fr (okA first) gs) := hheld
        have HGB : Hid (∀ (j : Nat) e, gs[j]? = some e → e.bytes.length ≤ M) := hgb
        have HGK : Hid (Kept (NotUser lab) w wr) := hkept
        have HFF : Hid (gs[i]? = some f) := hf
        have HFL : Hid (f.bytes.length = L) := hfL
        obtain ⟨ao, co, aw, cw, r0, _, _, rc, hHb⟩ := hheld.reads
        rw [hgl] at r0
        obtain ⟨go, gw, ⟨rfl, q0, hgo⟩, ⟨rfl, _, _⟩⟩ := rc i f hf
        obtain ⟨vo, vw, hr, hes⟩ := hheld
        obtain ⟨⟨o1, l1⟩, o2, l2⟩ := hes i f hf
        by_cases hkL : k < L
        · obtain ⟨g1, d1, t1⟩ := o1.shapeSome (by omega)
          obtain ⟨g2, d2, t2⟩ := o2.shapeSome (by omega)
          have T1 : Hid (f.out = .slice (some ⟨g1, 0, none⟩) f.bytes.length d1) := t1
          have T2 : Hid (f.want = .slice (some ⟨g2, 0, none⟩) f.bytes.length d2) := t2
          rw [t1] at q0 o1
          rw [hfL] at q0 o1
          obtain ⟨y, hy⟩ : ∃ y, f.bytes[k]? = some y := ⟨_, List.getElem?_eq_getElem (by omega)⟩
          have z1 : wr.cell? ⟨g1, k, none⟩ = some (.int .i64 y) := o1.cell k y hy
          have z2 : wr.frozen? ⟨g1, k, none⟩ = false := o1.frozen k
          have hkLi : (k : Int) < (L : Int) := by omega
          obtain ⟨x, hx⟩ : ∃ x : Int, -1 - (i : Int) = x := ⟨_, rfl⟩
          have hst := Half.start HG.out i k hfi f HFF.out x g1 d1 T1.out
          obtain ⟨wc, hwc⟩ : ∃ wc, wr.setCell ⟨g1, k, none⟩ (.int .i64 x) = wc := ⟨_, rfl⟩
          rw [hwc] at hst
          have HALF : Hid (Half wc B lab Hb fr first gs i f (f.bytes.set k x)) := hst.1
          have KW : Hid (Kept (NotUser lab) w wc) := HGK.out.trans hst.2
          obtain ⟨vo2, vw2, hr2, _, _, _, ⟨o2', _⟩, _⟩ := hst.1
          obtain ⟨ao', co', aw', cw', _, r1, _, rc', hHb'⟩ := hr2.reads
          rw [hgl] at r1
          obtain ⟨go', gw', _, ⟨rfl, q1, hgw'⟩⟩ := rc' i f HFF.out
          rw [T2.out, HFL.out] at q1 o2'
          have x1 : wc.cell? ⟨g2, k, none⟩ = some (.int .i64 y) := o2'.cell k y hy
          have x2 : wc.frozen? ⟨g2, k, none⟩ = false := o2'.frozen k
          have hfn2 := HALF.out.finish g2 d2 T2.out
          have H5 : Hid (Held (wc.setCell ⟨g2, k, none⟩ (.int .i64 x)) B lab Hb fr (okA first) (gs.set i ⟨f.out, f.want, f.bytes.set k x⟩)) := hfn2.1
          have K5 : Hid (Kept (NotUser lab) w (wc.setCell ⟨g2, k, none⟩ (.int .i64 x))) := KW.out.trans hfn2.2
          have HLb : Hid (∀ (j : Nat) e, (gs.set i ⟨f.out, f.want, f.bytes.set k x⟩)[j]? = some e → e.bytes.length ≤ M) := by
            intro j e he
            rw [List.getElem?_set] at he
            split at he
            · split at he
              · simp only [Option.some.injEq] at he
                subst he
                simpa using HGB.out i f HFF.out
              · cases he
            · exact HGB.out j e he
          clear rc hr hes o1 o2 l1 l2 hgb hkept t1 t2 hy hfL hst hr2 o2' rc' hfn2 hf
          go_wp2_with fail
          go_roundw
          case rel => exact ⟨k + 1, gs.set i ⟨f.out, f.want, f.bytes.set k x⟩, ⟨f.out, f.want, f.bytes.set k x⟩, by omega, by go_num, by simp [hgl], H5.out, List.getElem?_set_self (by omega), by simp [HFL.out], HLb.out, K5.out⟩
          case measure => simp [intOf]; omega
        · clear rc hr hes o1 o2 l1 l2 hgb hkept hf r0 q0
          go_wp2_with fail
          go_roundw
          case rel => exact ⟨i + 1, gs, by omega, by omega, by go_num, hgl, HG.out, HGB.out, HGK.out⟩
          case measure => simp [intOf]; omega
    · obtain rfl : i = es.length := by omega
      have H2 : Hid (Held wr B lab Hb fr (okB first es.length) fs) := HF.out.toB
      have K2 : Hid (Kept (NotUser lab) w wr) := HK.out
      have HFB2 : Hid (∀ (j : Nat) e, fs[j]? = some e → e.bytes.length ≤ M) := HFB.out
      clear HLEN HH HF HK HFB
      go_wp2_with fail
      go_loopw [8] (fun q wr => ∃ (i t : Nat) (lab1 : Nat → Tag) (news : List Ent), i = first + t ∧ i ≤ es.length ∧ q = .int .i64 i ∧ news.length = t ∧ Held wr B lab1 Hb fr (okB first es.length) (fs ++ news) ∧ (∀ k, k < w.heap.size → lab1 k = lab k) ∧ Kept (NotUser lab) w wr ∧ (∀ (j : Nat) e, (fs ++ news)[j]? = some e → e.bytes.length ≤ M + 40)) (fun q _ => es.length - (intOf q).toNat)
      case atStart => exact ⟨first, 0, lab, [], rfl, hfi, rfl, rfl, by rw [List.append_nil]; exact H2.out, fun _ _ => rfl, K2.out, fun j e he => by rw [List.append_nil] at he; have := HFB2.out j e he; omega⟩
      case round =>
        obtain ⟨i, t, lab1, news, hit, hi, rfl, hnl, hheld, hlab1, hkept, hbd⟩ := hrel
        have HIT : Hid (i = first + t) := hit
        have HG : Hid (Held wr B lab1 Hb fr (okB first es.length) (fs ++ news)) := hheld
        have HLB : Hid (∀ k, k < w.heap.size → lab1 k = lab k) := hlab1
        have HGK : Hid (Kept (NotUser lab) w wr) := hkept
        have HBD : Hid (∀ (j : Nat) e, (fs ++ news)[j]? = some e → e.bytes.length ≤ M + 40) := hbd
        have hz3 := hkept.size
        have hfnl : (fs ++ news).length = es.length + t := by simp [hfl, hnl]
        have HFNL : Hid ((fs ++ news).length = es.length + t) := hfnl
        have htn : t ≤ es.length := by omega
        clear hlab1 hkept H2 K2 hbd
        by_cases hlt : i < es.length
        · obtain ⟨e0, he0⟩ : ∃ e, fs[i]? = some e := ⟨_, List.getElem?_eq_getElem (by omega)⟩
          have he1 : (fs ++ news)[i]? = some e0 := by rw [List.getElem?_append_left (by omega)]; exact he0
          have hL := HFB2.out i e0 he0
          obtain ⟨ao, co, aw, cw, r0, r1, _, rc, hHb⟩ := hheld.reads
          rw [hfnl] at r0 r1
          obtain ⟨go, gw, ⟨rfl, q0, hgo⟩, ⟨rfl, q1, hgw⟩⟩ := rc i e0 he1
          obtain ⟨vo, vw, hr, hes⟩ := hheld
          obtain ⟨⟨o1, l1⟩, o2, l2⟩ := hes i e0 he1
          obtain ⟨a1, c1, s1, i1⟩ := o1.shape
          obtain ⟨a2, c2, s2, i2⟩ := o2.shape
          rw [s1] at q0
          rw [s2] at q1
          have I2 : Hid (IsInts wr a2 c2 e0.bytes) := i2
          have HE1 : Hid ((fs ++ news)[first + t]? = some e0) := by rw [← HIT.out]; exact he1
          have HS1 : Hid (e0.out = .slice a1 e0.bytes.length c1) := s1
          have hki : (i : Int) < (es.length : Int) + (t : Int) := by omega
          have hft : first + t < es.length := by omega
          have hii : (i : Int) < (es.length : Int) := by omega
          clear rc hr hes o1 o2 i1 i2 l1 l2 s1 s2 he0 he1 hit hfnl hnl
          go_upto_region 15 with fail
          go_cut [9, 10] from 63 to 115 (fun v9 v10 wx => v9 = .slice a1 e0.bytes.length c1 ∧ OwnI wx wr.heap.size v10 e0.bytes ∧ Below wr.heap.size wr wx)
          case first =>
            go_region_law (refine step_row rfl (.const (.slice none 0 0)) (.tmp 81) 63 rfl _ wr.heap.size 3 is1 _ Try.underlying63 hi1 hz10 hz11 rfl (.slice none 0 0) 0 [] (by first | rfl | simp [Act.eval, Act.put]) (World.ownsRow_nil _ _ _ _) a2 e0.bytes.length c2 (e0.bytes.map (Value.int .i64)) (by first | rfl | simp [Act.eval, Act.put]) (by simp) I2.out.src (by intro u hu; obtain ⟨x, _, rfl⟩ := List.mem_map.1 hu; rfl) (by unfold maxLen; omega) (by rw [hz12]; omega) (Nat.le_refl _) ?_
                           intro u4 w4 own4 gr4 _
                           rw [Nat.zero_add, List.nil_append] at own4
                           have B4 : Hid (Below wr.heap.size wr w4) := ((Below.refl _ wr).drew).grown gr4 (Nat.le_refl _) (fun k hk => by cases hk)
                           have OC : Hid (OwnI w4 wr.heap.size u4 e0.bytes) := (show World.ownsRow _ _ _ _ _ _ _ by simpa using own4)
                           have x0 : w4.cell? ⟨Hb, 2, none⟩ = _ := (B4.out.cell (p := ⟨Hb, 2, none⟩) hHb).trans r0
                           have x1 : w4.cell? ⟨go, i, none⟩ = _ := (B4.out.cell (p := ⟨go, i, none⟩) hgo).trans q0
                           clear own4 gr4)
            all_goals (go_wp2_with fail; go_meet)
            all_goals exact ⟨rfl, OC.out, B4.out⟩
          case rest =>
            obtain ⟨rfl, own4, B4⟩ := hcut
            have hgs := Grows.start HG.out HFNL.out hft e0 HE1.out B4 own4 (by omega)
            rw [HS1.out] at hgs
            have GS4 : Hid (Grows wc B (fun k => if k < wr.heap.size then lab1 k else .want (es.length + t)) Hb fr first es.length t (fs ++ news) (.slice a1 e0.bytes.length c1) u10 e0.bytes e0.bytes) := hgs
            have K4 : Hid (Kept (NotUser lab) w wc) := HGK.out.trans (Kept.ofBelow B4)
            have hz4 := B4.size
            have HLB4 : Hid (∀ k, k < w.heap.size → (fun k => if k < wr.heap.size then lab1 k else Tag.want (es.length + t)) k = lab k) := by
              intro k hk
              simp only []
              rw [if_pos (by omega)]
              exact HLB.out k hk
            clear r0 r1 q0 q1 hgs own4 B4
            obtain ⟨x, hx⟩ : ∃ x : Int, -1 - (i : Int) = x := ⟨_, rfl⟩
            go_wp2_with fail
            go_loopw [9, 10, 83] (fun v u q wr => ∃ (k : Nat) (labq : Nat → Tag) (l : List Int), k ≤ 40 ∧ q = .int .i64 k ∧ Grows wr B labq Hb fr first es.length t (fs ++ news) v u l l ∧ l.length = e0.bytes.length + k ∧ (∀ k, k < w.heap.size → labq k = lab k) ∧ Kept (NotUser lab) w wr) (fun _ _ q _ => 40 - (intOf q).toNat)
            case atStart => exact ⟨0, _, e0.bytes, by omega, rfl, GS4.out, rfl, HLB4.out, K4.out⟩
            case round =>
              obtain ⟨k, labq, l, hk, rfl, hgr, hll, hlq, hkq⟩ := hrel
              have GS : Hid (Grows wr B labq Hb fr first es.length t (fs ++ news) u9 u10 l l) := hgr
              have HLQ : Hid (∀ k, k < w.heap.size → labq k = lab k) := hlq
              have KQ : Hid (Kept (NotUser lab) w wr) := hkq
              have hzq := hkq.size
              clear hgr hlq hkq GS4 K4 HLB4 HG HLB HGK
              by_cases hk12 : k < 40
              · have hk40 : (k : Int) < 40 := by omega
                have al : Below wr.heap.size wr (wr.alloc (.cells #[.int .i64 x] 3)) := (Below.refl _ wr).alloc (Nat.le_refl _) _
                have GA : Hid (Grows (wr.alloc (.cells #[.int .i64 x] 3)) B labq Hb fr first es.length t (fs ++ news) u9 u10 l l) := GS.out.below al
                have KA : Hid (Kept (NotUser lab) w (wr.alloc (.cells #[.int .i64 x] 3))) := KQ.out.trans (Kept.ofBelow al)
                clear al
                go_wp2_with (first
                  | (refine wpList_appendS rfl (.tmp 85) (.tmp 88) rfl B u9 l rfl GA.out.2.1.1 (some ⟨wr.heap.size, 0, none⟩) 1 [x] rfl (IsInts.ofNew wr x) (by simp; omega) (by simp; omega) ?_
                     intro v5 w5 ho5 hg5 hk5 hv5 _
                     have hs5 := GA.out.out ho5 hg5 hk5 hv5
                     have GB0 : Hid (Grows w5 B (fun k => if k = (wr.alloc (.cells #[.int .i64 x] 3)).heap.size then .out (es.length + t) else labq k) Hb fr first es.length t (fs ++ news) v5 u10 (l ++ [x]) l) := hs5.1
                     have KB0 : Hid (Kept (NotUser lab) w w5) := KA.out.step hs5.2 (fun j hj h i => by rw [← HLQ.out j hj]; exact h i)
                     have hz5 := hg5.size
                     have al5 : Below w5.heap.size w5 (w5.alloc (.cells #[.int .i64 x] 3)) := (Below.refl _ w5).alloc (Nat.le_refl _) _
                     have GB : Hid (Grows (w5.alloc (.cells #[.int .i64 x] 3)) B (fun k => if k = (wr.alloc (.cells #[.int .i64 x] 3)).heap.size then .out (es.length + t) else labq k) Hb fr first es.length t (fs ++ news) v5 u10 (l ++ [x]) l) := GB0.out.below al5
                     have KB : Hid (Kept (NotUser lab) w (w5.alloc (.cells #[.int .i64 x] 3))) := KB0.out.trans (Kept.ofBelow al5)
                     clear hs5 ho5 hg5 hk5 hv5 al5 GB0 KB0)
                  | (refine wpList_appendS rfl (.tmp 90) (.tmp 93) rfl B u10 l rfl GB.out.2.2.1.1 (some ⟨w5.heap.size, 0, none⟩) 1 [x] rfl (IsInts.ofNew w5 x) (by simp; omega) (by simp at hz5 ⊢; omega) ?_
                     intro v6 w6 ho6 hg6 _ hv6 _
                     have hs6 := GB.out.want ho6 hg6 hv6
                     have G6 : Hid (Grows w6 B (fun k => if k = (w5.alloc (.cells #[.int .i64 x] 3)).heap.size then .want (es.length + t) else (fun k => if k = (wr.alloc (.cells #[.int .i64 x] 3)).heap.size then .out (es.length + t) else labq k) k) Hb fr first es.length t (fs ++ news) v5 v6 (l ++ [x]) (l ++ [x])) := hs6.1
                     have K6 : Hid (Kept (NotUser lab) w w6) := KB.out.step hs6.2 (fun j hj h a => by
                       have := h a
                       simp only [World.size_alloc] at this
                       rw [if_neg (by omega)] at this
                       rw [← HLQ.out j hj]
                       exact this)
                     clear hs6 ho6 hg6 hv6))
                go_roundw
                case rel =>
                  refine ⟨k + 1, _, l ++ [x], by omega, by go_num, G6.out, by simp; omega, ?_, K6.out⟩
                  intro j hj
                  simp only [World.size_alloc] at hz5 ⊢
                  rw [if_neg (by omega), if_neg (by omega)]
                  exact HLQ.out j hj
                case measure => simp [intOf]; omega
              · obtain rfl : k = 40 := by omega
                have hl12 : l.length ≤ M + 40 := by omega
                have HL12 : Hid (l.length ≤ M + 40) := hl12
                clear hll hl12
                have HENT := GS.out.entry
                obtain ⟨av, cv, hv7, _⟩ := GS.out.2.1.1.shape
                obtain ⟨au, cu, hv8, _⟩ := GS.out.2.2.1.1.shape
                subst hv7 hv8
                obtain ⟨vo, vw, hr, hes⟩ := GS.out.1
                obtain ⟨ao, co, hvo, _⟩ := row_shape hr.2.2.2.1.1
                obtain ⟨aw, cw, hvw, _⟩ := row_shape hr.2.2.2.2.1
                rw [List.length_map, HFNL.out] at hvo hvw
                subst hvo hvw
                have k0 := hr.cell0
                have hHb := hr.lt
                have HR : Hid (HRows wr B labq Hb (.slice ao (es.length + t) co) (.slice aw (es.length + t) cw) fr ((fs ++ news).map (·.out)) ((fs ++ news).map (·.want))) := hr
                have HES : Hid (Ents wr B labq (okB first es.length) (fs ++ news)) := hes
                have HNT : Hid (EntAt wr B labq (okB first es.length) (fs ++ news).length ⟨.slice av l.length cv, .slice au l.length cu, l⟩) := HENT
                clear hr hes HENT
                have hlo : ((fs ++ news).map (·.out)).length ≤ 1073741824 := by rw [List.length_map, HFNL.out]; omega
                have hlw : ((fs ++ news).map (·.want)).length ≤ 1073741824 := by rw [List.length_map, HFNL.out]; omega
                have hBw : B ≤ wr.heap.size := by omega
                go_wp2_with (first
                  | (refine wpList_push rfl (.tmp 100) (.tmp 102) rfl B (.slice ao (es.length + t) co) ((fs ++ news).map (·.out)) rfl HR.out.2.2.2.1.1 (.slice av l.length cv) _ rfl rfl rfl hlo hBw ?_
                     intro vo' w5 ho5 hg5 hv5
                     obtain ⟨ao', co', hvo', _⟩ := row_shape ho5
                     rw [List.length_map, HFNL.out] at hvo'
                     subst hvo'
                     obtain ⟨c50, _, f50, _⟩ := box_cell ((HR.out.alloc (.cells #[.slice av l.length cv] 63)).boxOut hg5)
                     have hHb5 : Hb < w5.heap.size := (Array.getElem?_eq_some_iff.1 ((HR.out.alloc (.cells #[.slice av l.length cv] 63)).boxOut hg5)).1
                     have HR5 : Hid (HRows (w5.setCell ⟨Hb, 2, none⟩ (.slice ao' (es.length + t + 1) co')) B (fun k => if k = (wr.alloc (.cells #[.slice av l.length cv] 63)).heap.size then .outs else labq k) Hb (.slice ao' (es.length + t + 1) co') (.slice aw (es.length + t) cw) fr ((fs ++ news).map (·.out) ++ [.slice av l.length cv]) ((fs ++ news).map (·.want))) := ((HR.out.alloc (.cells #[.slice av l.length cv] 63)).pushOut ho5 hg5 (by simpa using hv5)).1
                     obtain ⟨_, c51, _, _⟩ := box_cell HR5.out.1
                     have hz5 := hg5.size)
                  | (refine wpList_push rfl (.tmp 110) (.tmp 112) rfl B (.slice aw (es.length + t) cw) ((fs ++ news).map (·.want)) rfl HR5.out.2.2.2.2.1 (.slice au l.length cu) _ (by simp) rfl rfl hlw (by simp at hz5 ⊢; omega) ?_
                     intro vw' w6 ho6 hg6 hv6
                     obtain ⟨aw', cw', hvw', _⟩ := row_shape ho6
                     rw [List.length_map, HFNL.out] at hvw'
                     subst hvw'
                     obtain ⟨_, c61, _, f61⟩ := box_cell ((HR5.out.alloc (.cells #[.slice au l.length cu] 63)).boxWant hg6)
                     have hHb6 : Hb < w6.heap.size := (Array.getElem?_eq_some_iff.1 ((HR5.out.alloc (.cells #[.slice au l.length cu] 63)).boxWant hg6)).1))
                go_roundw
                case rel =>
                  obtain ⟨lab7, h7, l7, k7⟩ := Held.pushed (e := ⟨.slice av l.length cv, .slice au l.length cu, l⟩) HR.out HES.out HNT.out (.cells #[.slice av l.length cv] 63) (.cells #[.slice au l.length cu] 63) ho5 hg5 (by simpa using hv5) ho6 hg6 (by simpa using hv6)
                  have hnl : news.length = t := by have := HFNL.out; simp at this; omega
                  refine ⟨i + 1, t + 1, lab7, news ++ [⟨.slice av l.length cv, .slice au l.length cu, l⟩], by have := HIT.out; omega, by omega, by go_num, by simp [hnl], by rw [← List.append_assoc]; exact h7, fun j hj => (l7 j (by omega)).trans (HLQ.out j hj), ?_, ?_⟩
                  · refine KQ.out.step k7 (fun j hj h a => ?_)
                    rw [← HLQ.out j hj]
                    rcases h with h | h | h <;> rw [h] <;> simp
                  · intro j e he
                    rw [← List.append_assoc] at he
                    by_cases hjl : j < (fs ++ news).length
                    · rw [List.getElem?_append_left hjl] at he
                      exact HBD.out j e he
                    · rw [List.getElem?_append_right (by omega)] at he
                      have hj0 : j - (fs ++ news).length = 0 := by have := (List.getElem?_eq_some_iff.1 he).1; simp at this; simp; omega
                      rw [hj0] at he
                      simp only [List.getElem?_cons_zero, Option.some.injEq] at he
                      rw [← he]
                      exact HL12.out
                case measure => simp [intOf]; omega
        · obtain rfl : i = es.length := by omega
          clear hheld hfnl hit
          obtain ⟨N, hN⟩ : ∃ N, N = (fs ++ news).length := ⟨_, rfl⟩
          obtain ⟨ao, co, aw, cw, r0, _, r2, _, hHb⟩ := HG.out.reads
          have f2 : wr.frozen? ⟨Hb, 4, none⟩ = false := by obtain ⟨_, _, hr, _⟩ := HG.out; exact hr.frozen 4
          rw [← hN] at r0
          have hA := (HG.out.fresh (.int .i64 (N : Int)))
          have H8 : Hid (Held (wr.setCell ⟨Hb, 4, none⟩ (.int .i64 (N : Int))) B lab1 Hb ⟨fr.x0, fr.x1, .int .i64 (N : Int)⟩ (okA (fs ++ news).length) (fs ++ news)) := hA.1.toA hfn (by have := HFNL.out; omega)
          have K8 : Hid (Kept (NotUser lab) w (wr.setCell ⟨Hb, 4, none⟩ (.int .i64 (N : Int)))) := HGK.out.step hA.2 (fun j hj h a => by
            rw [← HLB.out j hj]
            rcases h with h | h | h <;> rw [h] <;> simp)
          have HB8 : Hid (∀ (j : Nat) e, (fs ++ news)[j]? = some e → e.bytes.length ≤ 1073741823) := fun j e he => by have := HBD.out j e he; omega
          have HNN : Hid (N = (fs ++ news).length ∧ N ≤ 33554432) := ⟨hN, by have := HFNL.out; omega⟩
          have hN32 : N ≤ 33554432 := by have := HFNL.out; omega
          obtain ⟨w8, hw8⟩ : ∃ w8, wr.setCell ⟨Hb, 4, none⟩ (.int .i64 (N : Int)) = w8 := ⟨_, rfl⟩
          rw [hw8] at H8 K8
          rw [hf1] at r2
          clear hA hN
          go_wp2_with fail
          refine (holds_any w8 B lab1 Hb _ _ (fs ++ news) H8.out HB8.out).mono ?_
          rintro e w9 ⟨rfl, B9⟩
          have H9 := H8.out.below B9
          have K9 := K8.out.trans (Kept.ofBelow (P := NotUser lab) B9)
          have hx := HFR.out
          rw [hx.1, hx.2, HNN.out.1] at H9
          have HL9 : (fs ++ news).length = es.length + (es.length - first) := by have h1 := HFNL.out; have h2 := HIT.out; omega
          have HE : Hid (∃ lab' fs, Held w9 B lab' Hb ⟨va, vb, .int .i64 (fs.length : Int)⟩ (okA fs.length) fs ∧ fs.length = es.length + (es.length - first) ∧ (∀ (j : Nat) e, fs[j]? = some e → e.bytes.length ≤ M + 40) ∧ (∀ k, k < w.heap.size → lab' k = lab k) ∧ Kept (NotUser lab) w w9) := ⟨lab1, fs ++ news, H9, HL9, HBD.out, HLB.out, K9⟩
          clear H9 K9 hx HL9 B9
          go_wp2_with fail
          go_ret
          exact ⟨rfl, HE.out⟩
end Go.Proofs.Ytkjjinccnaphpaa
