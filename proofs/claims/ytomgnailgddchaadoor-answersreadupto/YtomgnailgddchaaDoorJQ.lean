/-
  XSpoil, XBk.
-/
import Derived.Test.YtomgnailgddchaaDoorJH
import Derived.Test.YtomgnailgddchaaDoorXLent
namespace Go.Proofs.YtomgnailgddchaaDoor
open Go.RowKit Go.Lib

/-- What the walk reads of lists that are kept. -/
theorem Held.reads {w : World} {B : Nat} {lab : Nat → Tag} {Hb n : Nat} {es : List Ent} (h : Held w B lab Hb n es) :
    ∃ ao co aw cw, w.cell? ⟨Hb, 0, none⟩ = some (.slice ao es.length co) ∧ w.cell? ⟨Hb, 1, none⟩ = some (.slice aw es.length cw) ∧
      (∀ (j : Nat) e, es[j]? = some e → ∃ go gw, (ao = some ⟨go, 0, none⟩ ∧ w.cell? ⟨go, j, none⟩ = some e.out ∧ lab go = .outs) ∧ (aw = some ⟨gw, 0, none⟩ ∧ w.cell? ⟨gw, j, none⟩ = some e.want ∧ lab gw = .wants)) ∧ lab Hb = .box := by
  obtain ⟨vo, vw, hr, hes⟩ := h
  have k0 := hr.cell0
  have k1 := hr.cell1
  obtain ⟨ao, co, rfl, _, _, hob⟩ := row_shape hr.2.2.2.1.1
  obtain ⟨aw, cw, rfl, _, _, hwb⟩ := row_shape hr.2.2.2.2.1
  rw [List.length_map] at k0 k1 hob hwb
  refine ⟨ao, co, aw, cw, k0, k1, fun j e he => ?_, hr.2.1⟩
  have hl : 0 < es.length := by have := (List.getElem?_eq_some_iff.1 he).1; omega
  obtain ⟨go, h1, h2, h3⟩ := hob hl
  obtain ⟨gw, h4, h5, h6⟩ := hwb hl
  exact ⟨go, gw, ⟨h1, h3 j e.out (by simp [he]), hr.2.2.2.1.2 go (by rw [List.length_map]; exact h2)⟩, ⟨h4, h6 j e.want (by simp [he]), hr.2.2.2.2.2 gw (by rw [List.length_map]; exact h5)⟩⟩

theorem cell_set_other (w : World) (g k : Nat) (v : Value) (b o : Nat) (h : b ≠ g) : (w.setCell ⟨g, k, none⟩ v).cell? ⟨b, o, none⟩ = w.cell? ⟨b, o, none⟩ := World.cell?_of_block (Below.heap_setCell w ⟨g, k, none⟩ v b h)
theorem frozen_set_other (w : World) (g k : Nat) (v : Value) (b o : Nat) (h : b ≠ g) : (w.setCell ⟨g, k, none⟩ v).frozen? ⟨b, o, none⟩ = w.frozen? ⟨b, o, none⟩ := World.frozen?_of_block (Below.heap_setCell w ⟨g, k, none⟩ v b h)

set_option maxHeartbeats 4000000 in
set_option maxRecDepth 1000000 in
theorem spoil_any (w : World) (B : Nat) (lab : Nat → Tag) (Hb : Nat) (es : List Ent) (hh : Held w B lab Hb 0 es) (hB : B ≤ w.heap.size) (hn : es.length ≤ 16777216) (hlen : ∀ (j : Nat) e, es[j]? = some e → e.bytes.length ≤ 4294967296) :
    Calls Tryd.prog 12 #[.pointer (some ⟨Hb, 0, none⟩)] w fun e w' => e = .returned (.bool true) ∧ Kept (NotUser lab) w w' ∧ ∃ vo vw, w'.heap[Hb]? = some (.cells #[vo, vw] 33 (0, 0)) := by
  have HH : Hid (Held w B lab Hb 0 es) := hh
  have HLEN : Hid (∀ (j : Nat) e, es[j]? = some e → e.bytes.length ≤ 4294967296) := hlen
  clear hh hlen
  go_enter Tryd.func12, Tryd.ntmps12
  go_wp2_with fail
  refine (holds_any w B lab Hb 0 es HH.out).mono ?_
  rintro e w1 ⟨rfl, m1, hm1⟩
  have B1 : Below w.heap.size w w1 := by rw [hm1]; exact below_drewN (Below.refl _ w) m1
  have H1 : Hid (Held w1 B lab Hb 0 es) := HH.out.below B1
  have K1 : Hid (Kept (NotUser lab) w w1) := Kept.ofBelow B1
  have hz1 := B1.size
  clear B1 hm1
  obtain ⟨ao, co, _, _, r0, _, _, _⟩ := H1.out.reads
  go_wp2_with fail
  clear r0
  go_loopw [4] (fun i wr => ∃ (k : Nat) (fs : List Ent), k ≤ es.length ∧ i = .int .i64 k ∧ fs.length = es.length ∧ Held wr B lab Hb 0 fs ∧ (∀ (j : Nat) e, fs[j]? = some e → e.bytes.length ≤ 4294967296) ∧ Kept (NotUser lab) w wr) (fun i _ => es.length - (intOf i).toNat)
  case atStart => exact ⟨0, es, Nat.zero_le _, rfl, rfl, H1.out, HLEN.out, K1.out⟩
  case round =>
    obtain ⟨i, fs, hi, rfl, hfl, hheld, hfb, hkept⟩ := hrel
    have HF : Hid (Held wr B lab Hb 0 fs) := hheld
    have HFB : Hid (∀ (j : Nat) e, fs[j]? = some e → e.bytes.length ≤ 4294967296) := hfb
    have HK : Hid (Kept (NotUser lab) w wr) := hkept
    clear hheld hfb hkept H1 K1
    by_cases hlt : i < es.length
    · obtain ⟨e0, he0⟩ : ∃ e, fs[i]? = some e := ⟨_, List.getElem?_eq_getElem (by omega)⟩
      have hL := HFB.out i e0 he0
      obtain ⟨L, hLL⟩ : ∃ L, L = e0.bytes.length := ⟨_, rfl⟩
      rw [← hLL] at hL
      have HE0 : Hid (fs[i]? = some e0) := he0
      have HLL : Hid (L = e0.bytes.length) := hLL
      clear he0 hLL
      go_wp2_with fail
      go_loopw [5] (fun q wq => ∃ (k : Nat) (gs : List Ent) (f : Ent), k ≤ L ∧ q = .int .i64 k ∧ gs.length = es.length ∧ Held wq B lab Hb 0 gs ∧ gs[i]? = some f ∧ f.bytes.length = L ∧ (∀ (j : Nat) e, gs[j]? = some e → e.bytes.length ≤ 4294967296) ∧ Kept (NotUser lab) w wq) (fun q _ => L - (intOf q).toNat)
      case atStart => exact ⟨0, fs, e0, Nat.zero_le _, rfl, hfl, HF.out, HE0.out, HLL.out.symm, HFB.out, HK.out⟩
      case round =>
        obtain ⟨k, gs, f, hk, rfl, hgl, hheld, hf, hfL, hgb, hkept⟩ := hrel
        have HG : Hid (Held wr B lab Hb 0 gs) := hheld
        have HGB : Hid (∀ (j : Nat) e, gs[j]? = some e → e.bytes.length ≤ 4294967296) := hgb
        have HGK : Hid (Kept (NotUser lab) w wr) := hkept
        have HFF : Hid (gs[i]? = some f) := hf
        obtain ⟨ao, co, aw, cw, r0, r1, rc, rb⟩ := hheld.reads
        rw [hgl] at r0 r1
        obtain ⟨go, gw, ⟨rfl, q0, lo⟩, ⟨rfl, q1, lw⟩⟩ := rc i f hf
        obtain ⟨vo, vw, hr, hes⟩ := hheld
        obtain ⟨⟨o1, l1⟩, o2, l2⟩ := hes i f hf
        obtain ⟨a1, c1, s1, i1⟩ := o1.shape
        obtain ⟨a2, c2, s2, i2⟩ := o2.shape
        rw [hfL] at s1 s2
        have hL1 := HGB.out i f hf
        have hki : (i : Int) < (es.length : Int) := by omega
        by_cases hkL : k < L
        · obtain ⟨x, hx⟩ : ∃ x, x = UInt8.ofNat (i * 7 + 1) := ⟨_, rfl⟩
          have hxw : IntKind.u8.wrap ((i : Int) * 7 + 1) = (x.toNat : Int) := by rw [IntKind.wrap_u8, hx, UInt8.toNat_ofNat']; omega
          obtain ⟨g1, d1, t1⟩ := o1.shapeSome (by omega)
          obtain ⟨g2, d2, t2⟩ := o2.shapeSome (by omega)
          have lg1 : lab g1 = .out i := by rcases l1 g1 (by rw [t1]; rfl) with h | ⟨_, h⟩; exact h; simpa using h
          have lg2 : lab g2 = .want i := l2 g2 (by rw [t2]; rfl)
          have hmk := HG.out.mark i k f hf x (by omega) g1 d1 g2 d2 t1 t2
          rw [t1] at q0 o1
          rw [t2] at q1 o2
          rw [hfL] at q0 q1 o1 o2
          obtain ⟨y, hy⟩ : ∃ y, f.bytes[k]? = some y := ⟨_, List.getElem?_eq_getElem (by omega)⟩
          have z1 : wr.cell? ⟨g1, k, none⟩ = some (.int .u8 (y.toNat : Int)) := o1.cell k y hy
          have z2 : wr.frozen? ⟨g1, k, none⟩ = false := o1.frozen k (by omega)
          have n1 : Hb ≠ g1 := fun h => by rw [h, lg1] at rb; cases rb
          have n2 : gw ≠ g1 := fun h => by rw [h, lg1] at lw; cases lw
          have n3 : g2 ≠ g1 := fun h => by rw [h, lg1] at lg2; cases lg2
          have y1 := (cell_set_other wr g1 k (.int .u8 (x.toNat : Int)) Hb 1 n1).trans r1
          have y2 := (cell_set_other wr g1 k (.int .u8 (x.toNat : Int)) gw i n2).trans q1
          have y3 := (cell_set_other wr g1 k (.int .u8 (x.toNat : Int)) g2 k n3).trans (o2.cell k y hy)
          have y4 := (frozen_set_other wr g1 k (.int .u8 (x.toNat : Int)) g2 k n3).trans (o2.frozen k (by omega))
          have HMK : Hid (Held ((wr.setCell ⟨g1, k, none⟩ (.int .u8 (x.toNat : Int))).setCell ⟨g2, k, none⟩ (.int .u8 (x.toNat : Int))) B lab Hb 0 (gs.set i ⟨f.out, f.want, f.bytes.set k x⟩)) := hmk.1
          have HMK2 : Hid (Kept (NotUser lab) w ((wr.setCell ⟨g1, k, none⟩ (.int .u8 (x.toNat : Int))).setCell ⟨g2, k, none⟩ (.int .u8 (x.toNat : Int)))) := HGK.out.trans hmk.2
          have HLb : Hid (∀ (j : Nat) e, (gs.set i ⟨f.out, f.want, f.bytes.set k x⟩)[j]? = some e → e.bytes.length ≤ 4294967296) := by
            intro j e he
            rw [List.getElem?_set] at he
            split at he
            · split at he
              · simp only [Option.some.injEq] at he
                subst he
                simpa using hL1
              · cases he
            · exact HGB.out j e he
          clear hmk rc hr hes o1 o2 i1 i2 l1 l2 s1 s2 hgb hkept t1 t2 lg1 lg2 rb lo lw hx hy
          go_wp2
          go_roundw
          case rel => exact ⟨k + 1, gs.set i ⟨f.out, f.want, f.bytes.set k x⟩, ⟨f.out, f.want, f.bytes.set k x⟩, by omega, by go_num, by simp [hgl], HMK.out, List.getElem?_set_self (by omega), by simp [hfL], HLb.out, HMK2.out⟩
          case measure => simp [intOf]; omega
        · rw [s1] at q0
          clear rc hr hes o1 o2 i1 i2 l1 l2 s1 s2 hgb hkept hf
          go_wp2
          go_roundw
          case rel => exact ⟨i + 1, gs, by omega, by go_num, hgl, HG.out, HGB.out, HGK.out⟩
          case measure => simp [intOf]; omega
    · obtain rfl : i = es.length := by omega
      clear HLEN HH
      go_wp2_with fail
      refine (holds_any wr B lab Hb 0 fs HF.out).mono ?_
      rintro e w2 ⟨rfl, m2, hm2⟩
      have B2 : Below wr.heap.size wr w2 := by rw [hm2]; exact below_drewN (Below.refl _ wr) m2
      have H2 : Hid (Held w2 B lab Hb es.length fs) := by rw [← hfl]; exact (HF.out.below B2).toN
      have K2 : Hid (Kept (NotUser lab) w w2) := HK.out.trans (Kept.ofBelow B2)
      clear B2 hm2 HF HK
      go_wp2_with fail
      go_loopw [6] (fun q wr => ∃ (i : Nat) (lab1 : Nat → Tag) (news : List Ent), i ≤ es.length ∧ q = .int .i64 i ∧ news.length = i ∧ Held wr B lab1 Hb es.length (fs ++ news) ∧ (∀ k, k < w.heap.size → lab1 k = lab k) ∧ Kept (NotUser lab) w wr) (fun q _ => es.length - (intOf q).toNat)
      case atStart => exact ⟨0, lab, [], Nat.zero_le _, rfl, rfl, by rw [List.append_nil]; exact H2.out, fun _ _ => rfl, K2.out⟩
      case round =>
        obtain ⟨i, lab1, news, hi, rfl, hnl, hheld, hlab1, hkept⟩ := hrel
        have HG : Hid (Held wr B lab1 Hb es.length (fs ++ news)) := hheld
        have HLB : Hid (∀ k, k < w.heap.size → lab1 k = lab k) := hlab1
        have HGK : Hid (Kept (NotUser lab) w wr) := hkept
        have hz3 := hkept.size
        have hfnl : (fs ++ news).length = es.length + i := by simp [hfl, hnl]
        clear hlab1 hkept H2 K2
        by_cases hlt : i < es.length
        · obtain ⟨e0, he0⟩ : ∃ e, fs[i]? = some e := ⟨_, List.getElem?_eq_getElem (by omega)⟩
          have he1 : (fs ++ news)[i]? = some e0 := by rw [List.getElem?_append_left (by omega)]; exact he0
          have hL := HFB.out i e0 he0
          obtain ⟨ao, co, aw, cw, r0, r1, rc, rb⟩ := hheld.reads
          rw [hfnl] at r0 r1
          obtain ⟨go, gw, ⟨rfl, q0, lo⟩, ⟨rfl, q1, lw⟩⟩ := rc i e0 he1
          obtain ⟨vo, vw, hr, hes⟩ := hheld
          obtain ⟨⟨o1, l1⟩, o2, l2⟩ := hes i e0 he1
          obtain ⟨a1, c1, s1, i1⟩ := o1.shape
          obtain ⟨a2, c2, s2, i2⟩ := o2.shape
          rw [s1] at q0
          rw [s2] at q1
          have I2 : Hid (IsBytes wr a2 c2 e0.bytes) := i2
          have HE1 : Hid ((fs ++ news)[i]? = some e0) := he1
          have HS1 : Hid (e0.out = .slice a1 e0.bytes.length c1) := s1
          have hki : (i : Int) < (es.length : Int) + (i : Int) := by omega
          clear rc hr hes o1 o2 i1 i2 l1 l2 s1 s2 rb lo lw he0 he1
          go_wp2_with fail
          refine (copied_any a2 c2 e0.bytes wr I2.out (by omega)).mono ?_
          rintro e w4 ⟨u4, rfl, own40, B4, _⟩
          have own4 := OwnX.ofOwn own40
          clear own40
          have hgs := Grows.start HG.out hfnl hlt e0 HE1.out B4 own4 (by omega)
          rw [HS1.out] at hgs
          have GS4 : Hid (Grows w4 B (fun k => if k < wr.heap.size then lab1 k else .want (es.length + i)) Hb es.length i (fs ++ news) (.slice a1 e0.bytes.length c1) u4 e0.bytes e0.bytes) := hgs
          have K4 : Hid (Kept (NotUser lab) w w4) := HGK.out.trans (Kept.ofBelow B4)
          have HLB4 : Hid (∀ k, k < w.heap.size → (fun k => if k < wr.heap.size then lab1 k else Tag.want (es.length + i)) k = lab k) := by
            intro k hk
            simp only []
            rw [if_pos (by omega)]
            exact HLB.out k hk
          clear hgs own4 B4 r0 r1 q0 q1
          obtain ⟨x, hx⟩ : ∃ x, x = UInt8.ofNat (i * 7 + 2) := ⟨_, rfl⟩
          have hxw : IntKind.u8.wrap ((i : Int) * 7 + 2) = (x.toNat : Int) := by rw [IntKind.wrap_u8, hx, UInt8.toNat_ofNat']; omega
          clear hx
          go_wp2_with fail
          go_loopw [7, 8, 9] (fun v u q wr => ∃ (k : Nat) (labq : Nat → Tag) (l : List UInt8), k ≤ 100 ∧ q = .int .i64 k ∧ Grows wr B labq Hb es.length i (fs ++ news) v u l l ∧ l.length = e0.bytes.length + k ∧ (∀ k, k < w.heap.size → labq k = lab k) ∧ Kept (NotUser lab) w wr) (fun _ _ q _ => 100 - (intOf q).toNat)
          case atStart => exact ⟨0, _, e0.bytes, by omega, rfl, GS4.out, rfl, HLB4.out, K4.out⟩
          case round =>
            obtain ⟨k, labq, l, hk, rfl, hgr, hll, hlq, hkq⟩ := hrel
            have GS : Hid (Grows wr B labq Hb es.length i (fs ++ news) u7 u8 l l) := hgr
            have HLQ : Hid (∀ k, k < w.heap.size → labq k = lab k) := hlq
            have KQ : Hid (Kept (NotUser lab) w wr) := hkq
            have hzq := hkq.size
            clear hgr hlq hkq GS4 K4 HLB4 HG HLB HGK
            by_cases hk100 : k < 100
            · have al : Below wr.heap.size wr (wr.alloc (.cells #[.int .u8 (x.toNat : Int)] 5)) := (Below.refl _ wr).alloc (Nat.le_refl _) _
              have GA : Hid (Grows (wr.alloc (.cells #[.int .u8 (x.toNat : Int)] 5)) B labq Hb es.length i (fs ++ news) u7 u8 l l) := GS.out.below al
              have KA : Hid (Kept (NotUser lab) w (wr.alloc (.cells #[.int .u8 (x.toNat : Int)] 5))) := KQ.out.trans (Kept.ofBelow al)
              clear al
              go_wp2_with (first
                | (refine wpList_appendX rfl (.tmp 88) (.tmp 93) rfl B u7 l rfl GA.out.2.1.1 (some ⟨wr.heap.size, 0, none⟩) 1 [x] rfl (Own.ofNew wr x) (by simp; omega) (by simp; omega) ?_
                   intro v5 w5 ho5 hg5 hk5 hv5
                   have hs5 := GA.out.out ho5 hg5 hk5 hv5
                   have al5 : Below w5.heap.size w5 (w5.alloc (.cells #[.int .u8 (x.toNat : Int)] 5)) := (Below.refl _ w5).alloc (Nat.le_refl _) _
                   have GB : Hid (Grows (w5.alloc (.cells #[.int .u8 (x.toNat : Int)] 5)) B (fun k => if k = (wr.alloc (.cells #[.int .u8 (x.toNat : Int)] 5)).heap.size then .out (es.length + i) else labq k) Hb es.length i (fs ++ news) v5 u8 (l ++ [x]) l) := hs5.1.below al5
                   have KB : Hid (Kept (NotUser lab) w (w5.alloc (.cells #[.int .u8 (x.toNat : Int)] 5))) := (KA.out.step hs5.2 (fun j hj h i => by rw [← HLQ.out j hj]; exact h i)).trans (Kept.ofBelow al5)
                   have hz5 := hg5.size
                   clear hs5 al5 ho5 hg5 hk5 hv5)
                | (refine wpList_appendX rfl (.tmp 95) (.tmp 100) rfl B u8 l rfl GB.out.2.2.1.1 (some ⟨w5.heap.size, 0, none⟩) 1 [x] rfl (Own.ofNew w5 x) (by simp; omega) (by simp at hz5 ⊢; omega) ?_
                   intro v6 w6 ho6 hg6 _ hv6
                   have hs6 := GB.out.want ho6 hg6 hv6
                   have G6 : Hid (Grows w6 B (fun k => if k = (w5.alloc (.cells #[.int .u8 (x.toNat : Int)] 5)).heap.size then .want (es.length + i) else (fun k => if k = (wr.alloc (.cells #[.int .u8 (x.toNat : Int)] 5)).heap.size then .out (es.length + i) else labq k) k) Hb es.length i (fs ++ news) v5 v6 (l ++ [x]) (l ++ [x])) := hs6.1
                   have K6 : Hid (Kept (NotUser lab) w w6) := KB.out.step hs6.2 (fun j hj h a => by
                     have := h a
                     simp only [World.size_alloc] at this
                     rw [if_neg (by omega)] at this
                     rw [← HLQ.out j hj]
                     exact this)
                   clear hs6 ho6 hg6 hv6))
              go_roundw
              case rel =>
                refine ⟨k + 1, _, l ++ [x], by omega, by go_num, G6.out, by simp; omega, ?_, K6.out⟩
                intro j hj
                simp only [World.size_alloc] at hz5 ⊢
                rw [if_neg (by omega), if_neg (by omega)]
                exact HLQ.out j hj
              case measure => simp [intOf]; omega
            · obtain rfl : k = 100 := by omega
              clear hll
              have HENT := GS.out.entry
              obtain ⟨av, cv, hv7, _⟩ := GS.out.2.1.1.shape
              obtain ⟨au, cu, hv8, _⟩ := GS.out.2.2.1.1.shape
              subst hv7 hv8
              obtain ⟨vo, vw, hr, hes⟩ := GS.out.1
              obtain ⟨ao, co, rfl, _⟩ := row_shape hr.2.2.2.1.1
              obtain ⟨aw, cw, rfl, _⟩ := row_shape hr.2.2.2.2.1
              rw [List.length_map, List.length_map, hfnl] at hr
              have k0 := hr.cell0
              have HR : Hid (HRows wr B labq Hb (.slice ao (es.length + i) co) (.slice aw (es.length + i) cw) ((fs ++ news).map (·.out)) ((fs ++ news).map (·.want))) := hr
              have HES : Hid (Ents wr B labq es.length (fs ++ news)) := hes
              have HNT : Hid (EntAt wr B labq es.length (fs ++ news).length ⟨.slice av l.length cv, .slice au l.length cu, l⟩) := HENT
              clear hr hes HENT
              have hlo : ((fs ++ news).map (·.out)).length ≤ 1073741824 := by rw [List.length_map, hfnl]; omega
              have hlw : ((fs ++ news).map (·.want)).length ≤ 1073741824 := by rw [List.length_map, hfnl]; omega
              have hBw : B ≤ wr.heap.size := by omega
              go_wp2_with (first
                | (refine wpList_push rfl (.tmp 106) (.tmp 108) rfl B (.slice ao (es.length + i) co) ((fs ++ news).map (·.out)) rfl HR.out.2.2.2.1.1 (.slice av l.length cv) _ rfl rfl rfl hlo hBw ?_
                   intro vo' w5 ho5 hg5 hv5
                   obtain ⟨ao', co', hvo', _⟩ := row_shape ho5
                   rw [List.length_map, hfnl] at hvo'
                   subst hvo'
                   obtain ⟨c50, _, f50, _⟩ := box_cell ((HR.out.alloc (.cells #[.slice av l.length cv] 34)).boxOut hg5)
                   have hp := (HR.out.alloc (.cells #[.slice av l.length cv] 34)).pushOut ho5 hg5 (by simpa using hv5)
                   have HR5 : Hid (HRows (w5.setCell ⟨Hb, 0, none⟩ (.slice ao' (es.length + i + 1) co')) B (fun k => if k = (wr.alloc (.cells #[.slice av l.length cv] 34)).heap.size then .outs else labq k) Hb (.slice ao' (es.length + i + 1) co') (.slice aw (es.length + i) cw) ((fs ++ news).map (·.out) ++ [.slice av l.length cv]) ((fs ++ news).map (·.want))) := hp.1
                   obtain ⟨_, c51, _, _⟩ := box_cell HR5.out.1
                   have hz5 := hg5.size
                   clear hp)
                | (refine wpList_push rfl (.tmp 116) (.tmp 118) rfl B (.slice aw (es.length + i) cw) ((fs ++ news).map (·.want)) rfl HR5.out.2.2.2.2.1 (.slice au l.length cu) _ (by simp) rfl rfl hlw (by simp at hz5 ⊢; omega) ?_
                   intro vw' w6 ho6 hg6 hv6
                   obtain ⟨aw', cw', hvw', _⟩ := row_shape ho6
                   rw [List.length_map, hfnl] at hvw'
                   subst hvw'
                   obtain ⟨_, c61, _, f61⟩ := box_cell ((HR5.out.alloc (.cells #[.slice au l.length cu] 34)).boxWant hg6)))
              go_roundw
              case rel =>
                obtain ⟨lab7, h7, l7, k7⟩ := Held.pushed (e := ⟨.slice av l.length cv, .slice au l.length cu, l⟩) HR.out HES.out HNT.out (.cells #[.slice av l.length cv] 34) (.cells #[.slice au l.length cu] 34) ho5 hg5 (by simpa using hv5) ho6 hg6 (by simpa using hv6)
                refine ⟨i + 1, lab7, news ++ [⟨.slice av l.length cv, .slice au l.length cu, l⟩], by omega, by go_num, by simp [hnl], by rw [← List.append_assoc]; exact h7, fun j hj => (l7 j (by omega)).trans (HLQ.out j hj), ?_⟩
                refine KQ.out.step k7 (fun j hj h a => ?_)
                rw [← HLQ.out j hj]
                rcases h with h | h | h <;> rw [h] <;> simp
              case measure => simp [intOf]; omega
        · obtain rfl : i = es.length := by omega
          go_wp2_with fail
          refine (holds_any wr B lab1 Hb es.length (fs ++ news) HG.out).mono ?_
          rintro e w9 ⟨rfl, m9, hm9⟩
          have K9 : Hid (Kept (NotUser lab) w w9) := HGK.out.trans (Kept.ofBelow (by rw [hm9]; exact below_drewN (Below.refl _ wr) m9))
          have H9 : Hid (∃ vo vw, w9.heap[Hb]? = some (.cells #[vo, vw] 33 (0, 0))) := by
            obtain ⟨vo9, vw9, hr9, _⟩ := HG.out.below (by rw [hm9]; exact below_drewN (Below.refl _ wr) m9 : Below wr.heap.size wr w9)
            exact ⟨vo9, vw9, hr9.1⟩
          clear hm9
          go_wp2
          go_ret
          exact ⟨rfl, K9.out, H9.out⟩
end Go.Proofs.YtomgnailgddchaaDoor

namespace Go.Proofs.YtomgnailgddchaaDoor
open Go.RowKit Go.Sort

/-- The book in the world W; us: blocks that nobody writes into; R: what is lent, in the block g. -/
structure Bk (w : World) (us : List (Nat × Obj)) (g cap : Nat) (R : List UInt8) (lab : Nat → Tag) (Hb : Nat) (es : List Ent) (W : World) : Prop where
  held : Held W w.heap.size lab Hb 0 es
  below : Below w.heap.size w W
  low : ∀ k, k < w.heap.size → lab k = .user 0
  usr : ∀ p ∈ us, W.heap[p.1]? = some p.2 ∧ lab p.1 = .user 0
  lent : Own W w.heap.size (.slice (some ⟨g, 0, none⟩) R.length cap) R
  glab : lab g = .user 0
section
variable {w W W1 W2 : World} {us : List (Nat × Obj)} {g cap : Nat} {R : List UInt8} {lab : Nat → Tag} {Hb : Nat} {es : List Ent}
theorem Bk.later (h : Bk w us g cap R lab Hb es W) (hb : Below W.heap.size W W1) : Bk w us g cap R lab Hb es W1 :=
  ⟨h.held.below hb, h.below.trans (hb.mono h.below.size), h.low, fun p hp => ⟨(hb.block p.1 (Array.getElem?_eq_some_iff.1 (h.usr p hp).1).1).trans (h.usr p hp).1, (h.usr p hp).2⟩, h.lent.below hb, h.glab⟩
theorem Bk.relabel (h : Bk w us g cap R lab Hb es W) {lab' : Nat → Tag} (hl : ∀ k, k < W.heap.size → lab' k = lab k) : Bk w us g cap R lab' Hb es W :=
  ⟨h.held.relabel hl, h.below, fun k hk => (hl k (by have := h.below.size; omega)).trans (h.low k hk), fun p hp => ⟨(h.usr p hp).1, (hl p.1 (Array.getElem?_eq_some_iff.1 (h.usr p hp).1).1).trans (h.usr p hp).2⟩, h.lent, (hl g (h.lent.lt g rfl).2).trans h.glab⟩
/-- Bytes that were made since are laid by. -/
theorem Bk.keep (h : Bk w us g cap R lab Hb es W) (hb : Below W.heap.size W W2) {a : Option Addr} {c : Nat} {l : List UInt8} (ho : OwnX W2 W.heap.size (.slice a l.length c) l) (hl : l.length ≤ 140737488355328) (he : es.length ≤ 1073741824) :
    Calls Tryd.prog 26 #[.pointer (some ⟨Hb, 0, none⟩), .slice a l.length c] W2 fun e w' => e = .returned (.tuple #[]) ∧ ∃ lab' cw, Bk w us g cap R lab' Hb (es ++ [⟨.slice a l.length c, cw, l⟩]) w' := by
  obtain ⟨lab2, hlab2⟩ : ∃ lab2 : Nat → Tag, lab2 = fun k => if k < W.heap.size then lab k else .out es.length := ⟨_, rfl⟩
  have e0 : ∀ k, k < W.heap.size → lab2 k = lab k := fun k hk => by rw [hlab2]; simp [hk]
  have e1 : ∀ k, W.heap.size ≤ k → lab2 k = .out es.length := fun k hk => by rw [hlab2]; simp only []; rw [if_neg (by omega)]
  have h2 := (h.relabel e0).later hb
  clear hlab2
  have nl : ∀ k, lab2 k = .user 0 → ¬ Lists lab2 k := fun k e hk => by
    rcases hk with hk | hk | hk <;> rw [e] at hk <;> simp at hk
  refine (heldKeep_any W2 w.heap.size lab2 Hb 0 es a c l h2.held h2.below.size (ho.mono h.below.size) (fun g hg => e1 g (ho.lt g hg).1) hl he).mono ?_
  rintro e w' ⟨rfl, lab', cw, hh, hlb, hk⟩
  refine ⟨rfl, lab', cw, hh, h2.below.trans (hk.below h2.below.size (fun k hk2 => nl k (h2.low k hk2))), fun k hk2 => ?_, fun p hp => ⟨?_, ?_⟩, hk.own h2.lent (fun g' hg' => ?_), ?_⟩
  · rw [hlb k (by have := h2.below.size; omega)]
    exact h2.low k hk2
  · exact (hk.block p.1 (Array.getElem?_eq_some_iff.1 (h2.usr p hp).1).1 (nl _ (h2.usr p hp).2)).trans (h2.usr p hp).1
  · rw [hlb p.1 (Array.getElem?_eq_some_iff.1 (h2.usr p hp).1).1]
    exact (h2.usr p hp).2
  · simp only [Value.ownBlock, Option.some.injEq] at hg'
    subst hg'
    exact nl _ h2.glab
  · rw [hlb g (h2.lent.lt g rfl).2]
    exact h2.glab
/-- A byte of what is lent is turned. -/
theorem Bk.turn (h : Bk w us g cap R lab Hb es W) (hu : ∀ p ∈ us, p.1 ≠ g) (j : Nat) (x : UInt8) : Bk w us g cap (R.set j x) lab Hb es (W.setCell ⟨g, j, none⟩ (.int .u8 (x.toNat : Int))) := by
  have kk : Kept (fun k => k = g) W (W.setCell ⟨g, j, none⟩ (.int .u8 (x.toNat : Int))) := Kept.setCell _ _ _ _ _ rfl
  have hg := (h.lent.lt g rfl).1
  refine ⟨h.held.kept kk (fun k hk e => hk 0 (by rw [e]; exact h.glab)), h.below.trans (kk.below h.below.size (fun k hk e => by omega)), h.low, fun p hp => ⟨(kk.block p.1 (Array.getElem?_eq_some_iff.1 (h.usr p hp).1).1 (hu p hp)).trans (h.usr p hp).1, (h.usr p hp).2⟩, ?_, h.glab⟩
  have := (h.lent.set j x).1
  rw [List.length_set]
  exact this
theorem Bk.holds (h : Bk w us g cap R lab Hb es W) : Calls Tryd.prog 13 #[.pointer (some ⟨Hb, 0, none⟩)] W fun e w' => e = .returned (.bool true) ∧ ∃ m, w' = W.drewN m := holds_any W w.heap.size lab Hb 0 es h.held
theorem Bk.spoil (h : Bk w us g cap R lab Hb es W) (hn : es.length ≤ 16777216) (hlen : ∀ (j : Nat) e, es[j]? = some e → e.bytes.length ≤ 4294967296) :
    Calls Tryd.prog 12 #[.pointer (some ⟨Hb, 0, none⟩)] W fun e w' => e = .returned (.bool true) ∧ Below w.heap.size w w' := by
  refine (spoil_any W w.heap.size lab Hb es h.held h.below.size hn hlen).mono ?_
  rintro e w' ⟨rfl, hk, _⟩
  exact ⟨rfl, h.below.trans (hk.below h.below.size (fun k hk2 hn => hn 0 (h.low k hk2)))⟩
end
end Go.Proofs.YtomgnailgddchaaDoor
