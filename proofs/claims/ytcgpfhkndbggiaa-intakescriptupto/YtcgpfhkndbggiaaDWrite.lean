/-
  The walk of the method write.
-/
import Derived.Test.YtcgpfhkndbggiaaDKeep
import Derived.Deep.Cut
import Derived.Deep.CutRange
namespace Go.Proofs.Ytcgpfhkndbggiaa
open Go.RowKit

variable {fv bx : Bx}

theorem Own.ofNew1 (w : World) (x : UInt8) : IsBytes (w.alloc (.cells #[.int .u8 (x.toNat : Int)] 5)) (some ⟨w.heap.size, 0, none⟩) 1 [x] := by
  refine ⟨by simp, by unfold maxLen; omega, .inr ⟨w.heap.size, 0, rfl, by simp, fun j y hj => ?_⟩⟩
  have hb := heap_alloc_new w (.cells #[.int .u8 (x.toNat : Int)] 5)
  match j, hj with
  | 0, hj =>
    simp only [List.getElem?_cons_zero, Option.some.injEq] at hj
    subst hj
    rw [cell_of_row _ _ 0 _ _ (0, 0) hb]
    rfl

variable {fv bx : Bx}

/-- What the walk reads of lists that are kept. -/
theorem Held.reads {w : World} {B : Nat} {lab : Nat → Tag} {Hb f n : Nat} {es : List Ent} (h : Held fv w B lab Hb f n es) :
    ∃ ao co aw cw, w.cell? ⟨Hb, 2, none⟩ = some (.slice ao es.length co) ∧ w.cell? ⟨Hb, 3, none⟩ = some (.slice aw es.length cw) ∧
      (∀ (j : Nat) e, es[j]? = some e → ∃ go gw, (ao = some ⟨go, 0, none⟩ ∧ w.cell? ⟨go, j, none⟩ = some e.out ∧ lab go = .outs) ∧ (aw = some ⟨gw, 0, none⟩ ∧ w.cell? ⟨gw, j, none⟩ = some e.want ∧ lab gw = .wants)) ∧ lab Hb = .box := by
  obtain ⟨vo, vw, hr, hes⟩ := h
  have k0 := hr.cell0
  have k1 := hr.cell1
  obtain ⟨ao, co, rfl, _, _, hob⟩ := row_shape hr.2.2.2.1.1
  obtain ⟨aw, cw, rfl, _, _, hwb⟩ := row_shape hr.2.2.2.2.1
  rw [List.length_map] at k0 k1 hob hwb
  refine ⟨ao, co, aw, cw, k0, k1, fun j e he => ?_, hr.2.1⟩
  have hl : 0 < es.length := by have := (List.getElem?_eq_some_iff.1 he).1; omega
  obtain ⟨go, h1, h2, h3⟩ := hob hl
  obtain ⟨gw, h4, h5, h6⟩ := hwb hl
  exact ⟨go, gw, ⟨h1, h3 j e.out (by simp [he]), hr.2.2.2.1.2 go (by rw [List.length_map]; exact h2)⟩, ⟨h4, h6 j e.want (by simp [he]), hr.2.2.2.2.2 gw (by rw [List.length_map]; exact h5)⟩⟩

theorem Held.third {w : World} {B : Nat} {lab : Nat → Tag} {Hb f n : Nat} {es : List Ent} (h : Held fv w B lab Hb f n es) : w.cell? ⟨Hb, 4, none⟩ = some fv.f ∧ w.frozen? ⟨Hb, 4, none⟩ = false := by
  obtain ⟨vo, vw, hr, hes⟩ := h
  simp [World.cell?, World.frozen?, hr.1]
/-- The third cell is set. -/
theorem Held.setThird {w : World} {B : Nat} {lab : Nat → Tag} {Hb f n : Nat} {es : List Ent} (h : Held fv w B lab Hb f n es) (u : Value) : Held (fv.at u) (w.setCell ⟨Hb, 4, none⟩ u) B lab Hb f n es ∧ Kept (NotUser lab) w (w.setCell ⟨Hb, 4, none⟩ u) := by
  obtain ⟨vo, vw, hr, hes⟩ := h
  have K : Kept (fun k => k = Hb) w (w.setCell ⟨Hb, 4, none⟩ u) := Kept.setCell _ w Hb 4 u rfl
  refine ⟨⟨vo, vw, ⟨?_, hr.2.1, hr.2.2.1, ⟨K.own hr.2.2.2.1.1 (fun g hg e => ?_), hr.2.2.2.1.2⟩, ⟨K.own hr.2.2.2.2.1 (fun g hg e => ?_), hr.2.2.2.2.2⟩⟩, fun j e he => (hes j e he).kept K (fun k hk e2 => ?_)⟩, K.mono (fun k _ e i => by rw [e, hr.2.1]; simp)⟩
  · rw [setCell_eq_setRow w Hb 4 _ _ _ _ hr.1, setRow_heap w Hb _ _ _ _ hr.1]
    rfl
  · have := hr.2.2.2.1.2 g hg
    rw [e, hr.2.1] at this
    cases this
  · have := hr.2.2.2.2.2 g hg
    rw [e, hr.2.1] at this
    cases this
  · rw [e2, hr.2.1] at hk
    simp at hk
section
variable {ops : Array Oper} {Q : Exit → Act → World → Prop} {md : Region.Mode} {S : World → Prop} {i : Nat} {o : Oper} {fuel : Nat} {listed : Array Bool} {a : Act} {w : World}
theorem run_indexS {k go n c : Nat} {x y : Operand} (ho : o.op = .indexAddr 27 x y) (hx : a.eval x = .slice (some ⟨go, 0, none⟩) n c) (hy : a.eval y = .int .i64 (k : Int)) (hk : k < n) : (execOp a.eval o).run Try.prog w = .ok (.value (.pointer (some ⟨go, k, none⟩))) w := by
  have i1 : (0 : Int) ≤ (k : Int) := by omega
  have i2 : (k : Int) < (n : Int) := by omega
  simp only [execOp, ho, hx, hy]
  go_simp
/-- An append onto no bytes, the one that may come up. -/
theorem H_copy (d : Option Tmp) (hi : ops[i]? = some o) (hd : o.dst = d) (hr : Region.ready md ops listed = [i])
    (hg : Region.wanted o (yielded ops a.tmps) = true) (x : Operand)
    (ho : o.op = .call { callee := .builtin .append, args := #[.const (.slice none 0 0), x], argTypes := #[30, 30] }) (ad : Option Addr) (c n : Nat) (m : List UInt8) (hx : a.eval x = .slice ad n c) (hn : n = m.length) (hm : IsBytes w ad c m) (hb : m.length ≤ 140737488355328)
    (h : ∀ v' w', Own w' w.heap.size v' m → Below w.heap.size w w' → S w' ∧ wpAnyH Try.prog md ops Q S fuel (listed.setIfInBounds i true) (a.put d v') w') : wpAnyH Try.prog md ops Q S (fuel + 1) listed a w := by
  subst hn
  obtain ⟨i8, hi8, hz0, hz1, hz2⟩ := info_parts info_u8
  obtain ⟨v', w', hq1, h2, h3, _, _, _⟩ := run_append_keeps (P := Try.prog) w w.heap.size 30 o.type 5 i8 (.int .u8 0) Try.underlying30 hi8 hz0 hz1 rfl (.slice none 0 0) 0 [] (World.ownsRow_nil _ _ _ _) ad m.length c (u8s m) (u8s_length m) hm.src (u8s_one m) (by unfold maxLen; omega) (by rw [hz2]; omega) (Nat.le_refl _)
  have own : Own w' w.heap.size v' m := by
    unfold Own
    rw [Nat.zero_add, List.nil_append] at h2
    exact h2
  obtain ⟨h4, h5⟩ := h v' w' own (below_ofN h3)
  refine H_value (v := v') d hi hd hr hg ?_ h4 h5
  have he : a.eval (.const (.slice none 0 0)) = .slice none 0 0 := rfl
  unfold execOp
  simp only [ho, resolve, invoke, builtin, Sem.run_bind, Sem.run_pure, Result.andThen_ok, List.map_toArray, List.map_cons, List.map_nil, he, hx, hq1]
end
set_option maxHeartbeats 8000000 in
set_option maxRecDepth 1000000 in
theorem write_any (w : World) (B : Nat) (lab : Nat → Tag) (Hb f M : Nat) (es : List Ent) (hh : Held (bx.at (.int .i64 (f : Int))) w B lab Hb f es.length es) (hf : f ≤ es.length) (hB : B ≤ w.heap.size) (hn : es.length ≤ 16777216) (hM : M ≤ 4294967296) (hlen : ∀ (j : Nat) e, es[j]? = some e → e.bytes.length ≤ M) :
    Calls Try.prog 16 #[.pointer (some ⟨Hb, 2, none⟩)] w fun e w' => e = .returned (.bool true) ∧ Kept (NotUser lab) w w' ∧ ∃ lab' es', Held (bx.at (.int .i64 (es'.length : Int))) w' B lab' Hb es'.length es'.length es' ∧ es'.length = es.length + (es.length - f) ∧ (∀ (j : Nat) e, es'[j]? = some e → e.bytes.length ≤ M + 40) ∧ ∀ k, k < w.heap.size → lab' k = lab k := by
  obtain ⟨N, hN⟩ : ∃ N, N = es.length := ⟨_, rfl⟩
  rw [← hN] at hh hf hn ⊢
  have HNN := hideY hN
  have HH : Hid (Held (bx.at (.int .i64 (f : Int))) w B lab Hb f N es) := hh
  have HLEN : Hid (∀ (j : Nat) e, es[j]? = some e → e.bytes.length ≤ M) := hlen
  clear hh hlen hN
  go_enter Try.func16, Try.ntmps16
  go_wp2_with fail
  refine (holds_any w B lab Hb f N es HH.out).mono ?_
  rintro e w1 ⟨rfl, m1, hm1⟩
  have B1 : Below w.heap.size w w1 := by rw [hm1]; exact below_drewM _ w m1
  have H1 : Hid (Held (bx.at (.int .i64 (f : Int))) w1 B lab Hb f N es) := HH.out.below B1
  have K1 : Hid (Kept (NotUser lab) w w1) := Kept.ofBelow B1
  have hz1 := B1.size
  clear B1 hm1
  obtain ⟨ao, co, _, _, r0, _, _, _⟩ := H1.out.reads
  rw [← HNN.out] at r0
  have t2 : w1.cell? ⟨Hb, 4, none⟩ = some (.int .i64 (f : Int)) := H1.out.third.1
  go_upto_region 2 with fail
  go_quiet (fail)
  obtain ⟨w1d, hw1d⟩ : ∃ x, x = w1.drewN nq := ⟨_, rfl⟩
  rw [← hw1d]
  have bd : Below w1.heap.size w1 w1d := by rw [hw1d]; exact below_drewM _ w1 nq
  have H1d : Hid (Held (bx.at (.int .i64 (f : Int))) w1d B lab Hb f N es) := H1.out.below bd
  have K1d : Hid (Kept (NotUser lab) w w1d) := K1.out.trans (Kept.ofBelow bd)
  clear r0 t2 hw1d bd H1 K1
  go_wp2_with fail
  go_loopw [6] (fun i wr => ∃ (k : Nat) (fs : List Ent), f ≤ k ∧ k ≤ N ∧ i = .int .i64 k ∧ fs.length = N ∧ Held (bx.at (.int .i64 (f : Int))) wr B lab Hb f N fs ∧ (∀ (j : Nat) e, fs[j]? = some e → e.bytes.length ≤ M) ∧ Kept (NotUser lab) w wr) (fun i _ => N - (intOf i).toNat)
  case atStart => exact ⟨f, es, Nat.le_refl _, hf, rfl, HNN.out.symm, H1d.out, HLEN.out, K1d.out⟩
  case round =>
    obtain ⟨i, fs, hfi, hi, rfl, hfl, hheld, hfb, hkept⟩ := hrel
    have HF : Hid (Held (bx.at (.int .i64 (f : Int))) wr B lab Hb f N fs) := hheld
    have HFB : Hid (∀ (j : Nat) e, fs[j]? = some e → e.bytes.length ≤ M) := hfb
    have HK : Hid (Kept (NotUser lab) w wr) := hkept
    clear hheld hfb hkept H1d K1d
    by_cases hlt : i < N
    · obtain ⟨e0, he0⟩ : ∃ e, fs[i]? = some e := ⟨_, List.getElem?_eq_getElem (by omega)⟩
      have hL := HFB.out i e0 he0
      obtain ⟨L, hLL⟩ : ∃ L, L = e0.bytes.length := ⟨_, rfl⟩
      rw [← hLL] at hL
      have HE0 : Hid (fs[i]? = some e0) := he0
      have HLL : Hid (L = e0.bytes.length) := hLL
      obtain ⟨ao, co, aw, cw, r0, r1, rc, rb⟩ := HF.out.reads
      rw [hfl] at r0 r1
      obtain ⟨go, gw, ⟨rfl, q0, lo⟩, ⟨rfl, q1, lw⟩⟩ := rc i e0 he0
      have sh : ∃ a1 c1, e0.out = .slice a1 L c1 := by
        obtain ⟨vo, vw, hr, hes⟩ := HF.out
        obtain ⟨⟨o1, _⟩, _⟩ := hes i e0 he0
        obtain ⟨a1, c1, s1, _⟩ := o1.shape
        exact ⟨a1, c1, by rw [hLL]; exact s1⟩
      obtain ⟨a1, c1, s1⟩ := sh
      rw [s1] at q0
      have hki : (i : Int) < (N : Int) := by omega
      clear he0 hLL rc rb r1 q1 lo lw
      go_wp2_with fail
      clear r0 q0
      go_loopw [36] (fun q wq => ∃ (k : Nat) (gs : List Ent) (r : Ent), k ≤ L ∧ q = .int .i64 k ∧ gs.length = N ∧ Held (bx.at (.int .i64 (f : Int))) wq B lab Hb f N gs ∧ gs[i]? = some r ∧ r.bytes.length = L ∧ (∀ (j : Nat) e, gs[j]? = some e → e.bytes.length ≤ M) ∧ Kept (NotUser lab) w wq) (fun q _ => L - (intOf q).toNat)
      case atStart => exact ⟨0, fs, e0, Nat.zero_le _, rfl, hfl, HF.out, HE0.out, HLL.out.symm, HFB.out, HK.out⟩
      case round =>
        obtain ⟨k, gs, r, hk, rfl, hgl, hheld, hr0, hfL, hgb, hkept⟩ := hrel
        have HG : Hid (Held (bx.at (.int .i64 (f : Int))) wr B lab Hb f N gs) := hheld
        have HGB : Hid (∀ (j : Nat) e, gs[j]? = some e → e.bytes.length ≤ M) := hgb
        have HGK : Hid (Kept (NotUser lab) w wr) := hkept
        have HFF : Hid (gs[i]? = some r) := hr0
        by_cases hkL : k < L
        · obtain ⟨ao, co, aw, cw, r0, r1, rc, rb⟩ := hheld.reads
          rw [hgl] at r0 r1
          obtain ⟨go, gw, ⟨rfl, q0, lo⟩, ⟨rfl, q1, lw⟩⟩ := rc i r hr0
          have hmk0 : Held (bx.at (.int .i64 (f : Int))) wr B lab Hb f gs.length gs := by rw [hgl]; exact hheld
          obtain ⟨vo, vw, hr, hes⟩ := hheld
          obtain ⟨⟨o1, l1⟩, o2, l2⟩ := hes i r hr0
          have hL1 := HGB.out i r hr0
          obtain ⟨x, hx⟩ : ∃ x, x = UInt8.ofNat (7 * i + 1) := ⟨_, rfl⟩
          have hxw : (7 * (i : Int) + 1) % 256 = (x.toNat : Int) := by rw [hx, UInt8.toNat_ofNat']; omega
          obtain ⟨g1, d1, t1⟩ := o1.shapeSome (by omega)
          obtain ⟨g2, d2, t2⟩ := o2.shapeSome (by omega)
          have lg1 : lab g1 = .out i := by
            rcases l1 g1 (by rw [t1]; rfl) with h | ⟨h, _⟩ | ⟨h, _⟩
            · exact h
            · omega
            · omega
          have lg2 : lab g2 = .want i := l2 g2 (by rw [t2]; rfl)
          have hmk := hmk0.mark i k hfi r hr0 x g1 d1 g2 d2 t1 t2
          rw [hgl] at hmk
          rw [t1] at q0 o1
          rw [t2] at q1 o2
          rw [hfL] at q0 q1 o1 o2
          obtain ⟨y, hy⟩ : ∃ y, r.bytes[k]? = some y := ⟨_, List.getElem?_eq_getElem (by omega)⟩
          have z1 : wr.cell? ⟨g1, k, none⟩ = some (.int .u8 (y.toNat : Int)) := o1.cell k y hy
          have z2 : wr.frozen? ⟨g1, k, none⟩ = false := o1.frozen k
          have n1 : Hb ≠ g1 := fun h => by rw [h, lg1] at rb; cases rb
          have n2 : gw ≠ g1 := fun h => by rw [h, lg1] at lw; cases lw
          have n3 : g2 ≠ g1 := fun h => by rw [h, lg1] at lg2; cases lg2
          have y1 := (cell_set_other wr g1 k (.int .u8 (x.toNat : Int)) Hb 3 n1).trans r1
          have y2 := (cell_set_other wr g1 k (.int .u8 (x.toNat : Int)) gw i n2).trans q1
          have y3 := (cell_set_other wr g1 k (.int .u8 (x.toNat : Int)) g2 k n3).trans (o2.cell k y hy)
          have y4 := (frozen_set_other wr g1 k (.int .u8 (x.toNat : Int)) g2 k n3).trans (o2.frozen k)
          have HMK : Hid (Held (bx.at (.int .i64 (f : Int))) ((wr.setCell ⟨g1, k, none⟩ (.int .u8 (x.toNat : Int))).setCell ⟨g2, k, none⟩ (.int .u8 (x.toNat : Int))) B lab Hb f N (gs.set i ⟨r.out, r.want, r.bytes.set k x⟩)) := hmk.1
          have HMK2 : Hid (Kept (NotUser lab) w ((wr.setCell ⟨g1, k, none⟩ (.int .u8 (x.toNat : Int))).setCell ⟨g2, k, none⟩ (.int .u8 (x.toNat : Int)))) := HGK.out.trans hmk.2
          have HLb : Hid (∀ (j : Nat) e, (gs.set i ⟨r.out, r.want, r.bytes.set k x⟩)[j]? = some e → e.bytes.length ≤ M) := by
            intro j e he
            rw [List.getElem?_set] at he
            split at he
            · split at he
              · simp only [Option.some.injEq] at he
                subst he
                simpa using hL1
              · cases he
            · exact HGB.out j e he
          clear hmk hmk0 rc hr hes o1 o2 l1 l2 hgb hkept t1 t2 lg1 lg2 rb lo lw hx hy
          go_wp2
          go_roundw
          case rel => exact ⟨k + 1, gs.set i ⟨r.out, r.want, r.bytes.set k x⟩, ⟨r.out, r.want, r.bytes.set k x⟩, by omega, by go_num, by simp [hgl], HMK.out, List.getElem?_set_self (by omega), by simp [hfL], HLb.out, HMK2.out⟩
          case measure => simp [intOf]; omega
        · clear hheld hgb hkept hr0
          go_wp2
          go_roundw
          case rel => exact ⟨i + 1, gs, by omega, by omega, by go_num, hgl, HG.out, HGB.out, HGK.out⟩
          case measure => simp [intOf]; omega
    · obtain rfl : N = i := by omega
      have H2 := HF
      have K2 := HK
      clear HLEN HH HF HK
      go_wp2_with fail
      go_loopw [8] (fun q wr => ∃ (d : Nat) (lab1 : Nat → Tag) (news : List Ent), f + d ≤ N ∧ q = .int .i64 ((f + d : Nat) : Int) ∧ news.length = d ∧ Held (bx.at (.int .i64 (f : Int))) wr B lab1 Hb f N (fs ++ news) ∧ (∀ (j : Nat) e, news[j]? = some e → e.bytes.length ≤ M + 40) ∧ (∀ k, k < w.heap.size → lab1 k = lab k) ∧ Kept (NotUser lab) w wr) (fun q _ => N - (intOf q).toNat)
      case atStart => exact ⟨0, lab, [], hf, rfl, rfl, by rw [List.append_nil]; exact H2.out, fun j e he => by simp at he, fun _ _ => rfl, K2.out⟩
      case round =>
        obtain ⟨d, lab1, news, hd, rfl, hnl, hheld, hnb, hlab1, hkept⟩ := hrel
        have HG : Hid (Held (bx.at (.int .i64 (f : Int))) wr B lab1 Hb f N (fs ++ news)) := hheld
        have HNB := hideY hnb
        have HLB : Hid (∀ k, k < w.heap.size → lab1 k = lab k) := hlab1
        have HGK : Hid (Kept (NotUser lab) w wr) := hkept
        have hz3 := hkept.size
        have hfnl : (fs ++ news).length = N + d := by simp [hfl, hnl]
        clear hlab1 hkept H2 K2 hnb
        by_cases hlt : f + d < N
        · obtain ⟨e0, he0⟩ : ∃ e, fs[f + d]? = some e := ⟨_, List.getElem?_eq_getElem (by omega)⟩
          have he1 : (fs ++ news)[f + d]? = some e0 := by rw [List.getElem?_append_left (by omega)]; exact he0
          have hL := HFB.out (f + d) e0 he0
          obtain ⟨L, hLL⟩ : ∃ L, L = e0.bytes.length := ⟨_, rfl⟩
          have HLL := hideY hLL
          obtain ⟨ao, co, aw, cw, r0, r1, rc, rb⟩ := hheld.reads
          rw [hfnl] at r0 r1
          obtain ⟨go, gw, ⟨rfl, q0, lo⟩, ⟨rfl, q1, lw⟩⟩ := rc (f + d) e0 he1
          obtain ⟨vo, vw, hr, hes⟩ := hheld
          obtain ⟨⟨o1, l1⟩, o2, l2⟩ := hes (f + d) e0 he1
          obtain ⟨a1, c1, s1, i1⟩ := o1.shape
          obtain ⟨a2, c2, s2, i2⟩ := o2.shape
          rw [← hLL] at s1 s2
          rw [s1] at q0
          rw [s2] at q1
          have I2 : Hid (IsBytes wr a2 c2 e0.bytes) := i2
          have HE1 : Hid ((fs ++ news)[f + d]? = some e0) := he1
          have HS1 : Hid (e0.out = .slice a1 L c1) := s1
          have hki : ((f + d : Nat) : Int) < (N : Int) := by omega
          clear rc hr hes o1 o2 i1 i2 l1 l2 s1 s2 rb lo lw he0 he1 hLL
          go_upto_region 15 with fail
          have sq : wr.drew.cell? ⟨Hb, 2, none⟩ = some (.slice (some ⟨go, 0, none⟩) (N + d) co) ∧ wr.drew.cell? ⟨go, f + d, none⟩ = some (.slice a1 L c1) ∧ wr.drew.cell? ⟨Hb, 3, none⟩ = some (.slice (some ⟨gw, 0, none⟩) (N + d) cw) ∧ wr.drew.cell? ⟨gw, f + d, none⟩ = some (.slice a2 L c2) := ⟨r0, q0, r1, q1⟩
          refine wp_region_held_drew (S := fun X => X.cell? ⟨Hb, 2, none⟩ = some (.slice (some ⟨go, 0, none⟩) (N + d) co) ∧ X.cell? ⟨go, f + d, none⟩ = some (.slice a1 L c1) ∧ X.cell? ⟨Hb, 3, none⟩ = some (.slice (some ⟨gw, 0, none⟩) (N + d) cw) ∧ X.cell? ⟨gw, f + d, none⟩ = some (.slice a2 L c2)) (by kernel_rfl) sq (fun _ => ?_)
          refine H_take (i := 0) (v := .pointer (some ⟨Hb, 2, none⟩)) (some 72) rfl rfl (by kernel_rfl) (by kernel_rfl) (by kernel_rfl) (fun _ _ _ h => h) rfl (fun X hX => ?_) sq ?_
          · simp [go_sem]
          simp only [Act.put, List.setIfInBounds_toArray, List.set_cons_zero, List.set_cons_succ]
          refine H_take (i := 1) (v := .pointer (some ⟨Hb, 2, none⟩)) (some 73) rfl rfl (by kernel_rfl) (by kernel_rfl) (by kernel_rfl) (fun _ _ _ h => h) rfl (fun X hX => ?_) sq ?_
          · simp [go_sem]
          simp only [Act.put, List.setIfInBounds_toArray, List.set_cons_zero, List.set_cons_succ]
          refine H_take (i := 2) (v := .pointer (some ⟨Hb, 2, none⟩)) (some 74) rfl rfl (by kernel_rfl) (by kernel_rfl) (by kernel_rfl) (fun _ _ _ h => h) rfl (fun X hX => ?_) sq ?_
          · simp [go_sem]
          simp only [Act.put, List.setIfInBounds_toArray, List.set_cons_zero, List.set_cons_succ]
          refine H_take (i := 3) (v := .slice (some ⟨go, 0, none⟩) (N + d) co) (some 75) rfl rfl (by kernel_rfl) (by kernel_rfl) (by kernel_rfl) (fun _ _ _ h => h) rfl (fun X hX => ?_) sq ?_
          · exact run_load1 rfl rfl Try.isAgg27 hX.1
          simp only [Act.put, List.setIfInBounds_toArray, List.set_cons_zero, List.set_cons_succ]
          refine H_take (i := 4) (v := .int .i64 ((f + d : Nat) : Int)) (some 76) rfl rfl (by kernel_rfl) (by kernel_rfl) (by kernel_rfl) (fun _ _ _ h => h) rfl (fun X hX => ?_) sq ?_
          · simp [go_sem]
          simp only [Act.put, List.setIfInBounds_toArray, List.set_cons_zero, List.set_cons_succ]
          refine H_take (i := 5) (v := .pointer (some ⟨go, f + d, none⟩)) (some 77) rfl rfl (by kernel_rfl) (by kernel_rfl) (by kernel_rfl) (fun _ _ _ h => h) rfl (fun X hX => ?_) sq ?_
          · exact run_indexS rfl rfl rfl (by omega)
          simp only [Act.put, List.setIfInBounds_toArray, List.set_cons_zero, List.set_cons_succ]
          refine H_take (i := 6) (v := .slice a1 L c1) (some 78) rfl rfl (by kernel_rfl) (by kernel_rfl) (by kernel_rfl) (fun _ _ _ h => h) rfl (fun X hX => ?_) sq ?_
          · exact run_load1 rfl rfl Try.isAgg30 hX.2.1
          simp only [Act.put, List.setIfInBounds_toArray, List.set_cons_zero, List.set_cons_succ]
          refine H_take (i := 7) (v := .pointer (some ⟨Hb, 2, none⟩)) (some 79) rfl rfl (by kernel_rfl) (by kernel_rfl) (by kernel_rfl) (fun _ _ _ h => h) rfl (fun X hX => ?_) sq ?_
          · simp [go_sem]
          simp only [Act.put, List.setIfInBounds_toArray, List.set_cons_zero, List.set_cons_succ]
          refine H_take (i := 8) (v := .pointer (some ⟨Hb, 2, none⟩)) (some 80) rfl rfl (by kernel_rfl) (by kernel_rfl) (by kernel_rfl) (fun _ _ _ h => h) rfl (fun X hX => ?_) sq ?_
          · simp [go_sem]
          simp only [Act.put, List.setIfInBounds_toArray, List.set_cons_zero, List.set_cons_succ]
          refine H_take (i := 9) (v := .pointer (some ⟨Hb, 3, none⟩)) (some 81) rfl rfl (by kernel_rfl) (by kernel_rfl) (by kernel_rfl) (fun _ _ _ h => h) rfl (fun X hX => ?_) sq ?_
          · simp [go_sem]
          simp only [Act.put, List.setIfInBounds_toArray, List.set_cons_zero, List.set_cons_succ]
          refine H_take (i := 10) (v := .slice (some ⟨gw, 0, none⟩) (N + d) cw) (some 82) rfl rfl (by kernel_rfl) (by kernel_rfl) (by kernel_rfl) (fun _ _ _ h => h) rfl (fun X hX => ?_) sq ?_
          · exact run_load1 rfl rfl Try.isAgg27 hX.2.2.1
          simp only [Act.put, List.setIfInBounds_toArray, List.set_cons_zero, List.set_cons_succ]
          refine H_take (i := 11) (v := .int .i64 ((f + d : Nat) : Int)) (some 83) rfl rfl (by kernel_rfl) (by kernel_rfl) (by kernel_rfl) (fun _ _ _ h => h) rfl (fun X hX => ?_) sq ?_
          · simp [go_sem]
          simp only [Act.put, List.setIfInBounds_toArray, List.set_cons_zero, List.set_cons_succ]
          refine H_take (i := 12) (v := .pointer (some ⟨gw, f + d, none⟩)) (some 84) rfl rfl (by kernel_rfl) (by kernel_rfl) (by kernel_rfl) (fun _ _ _ h => h) rfl (fun X hX => ?_) sq ?_
          · exact run_indexS rfl rfl rfl (by omega)
          simp only [Act.put, List.setIfInBounds_toArray, List.set_cons_zero, List.set_cons_succ]
          refine H_take (i := 13) (v := .slice a2 L c2) (some 85) rfl rfl (by kernel_rfl) (by kernel_rfl) (by kernel_rfl) (fun _ _ _ h => h) rfl (fun X hX => ?_) sq ?_
          · exact run_load1 rfl rfl Try.isAgg30 hX.2.2.2
          simp only [Act.put, List.setIfInBounds_toArray, List.set_cons_zero, List.set_cons_succ]
          refine H_copy (i := 14) (some 86) rfl rfl (by kernel_rfl) rfl (.tmp 85) rfl a2 c2 L e0.bytes rfl HLL.out (I2.out.below (Below.refl _ wr).drew) (by have := HLL.out; omega) (fun u4 w4 ou bu => ?_)
          have B4 : Below wr.heap.size wr w4 := (Below.refl _ wr).drew.trans bu
          have own4 : Own w4 wr.heap.size u4 e0.bytes := ou
          have sr : w4.cell? ⟨Hb, 2, none⟩ = some (.slice (some ⟨go, 0, none⟩) (N + d) co) ∧ w4.cell? ⟨go, f + d, none⟩ = some (.slice a1 L c1) ∧ w4.cell? ⟨Hb, 3, none⟩ = some (.slice (some ⟨gw, 0, none⟩) (N + d) cw) ∧ w4.cell? ⟨gw, f + d, none⟩ = some (.slice a2 L c2) := ⟨(B4.cell (p := ⟨Hb, 2, none⟩) (cell_lt r0)).trans r0, (B4.cell (p := ⟨go, f + d, none⟩) (cell_lt q0)).trans q0, (B4.cell (p := ⟨Hb, 3, none⟩) (cell_lt r1)).trans r1, (B4.cell (p := ⟨gw, f + d, none⟩) (cell_lt q1)).trans q1⟩
          refine ⟨sr, ?_⟩
          clear sq
          simp only [Act.put, List.setIfInBounds_toArray, List.set_cons_zero, List.set_cons_succ]
          refine H_take (i := 15) (v := .slice a1 L c1) (some 9) rfl rfl (by kernel_rfl) (by kernel_rfl) (by kernel_rfl) (fun _ _ _ h => h) rfl (fun X hX => ?_) sr ?_
          · simp [go_sem]
          simp only [Act.put, List.setIfInBounds_toArray, List.set_cons_zero, List.set_cons_succ]
          refine H_take (i := 16) (v := u4) (some 10) rfl rfl (by kernel_rfl) (by kernel_rfl) (by kernel_rfl) (fun _ _ _ h => h) rfl (fun X hX => ?_) sr ?_
          · simp [go_sem]
          simp only [Act.put, List.setIfInBounds_toArray, List.set_cons_zero, List.set_cons_succ]
          refine wpAnyH_done (by kernel_rfl) ?_ _
          clear sr ou bu
          have hgs := Grows.start HG.out hfnl hlt e0 HE1.out B4 own4 (by omega)
          rw [HS1.out] at hgs
          have GS4 : Hid (Grows (bx.at (.int .i64 (f : Int))) w4 B (fun k => if k < wr.heap.size then lab1 k else .want (N + d)) Hb f N d (fs ++ news) (.slice a1 L c1) u4 e0.bytes e0.bytes) := hgs
          have K4 : Hid (Kept (NotUser lab) w w4) := HGK.out.trans (Kept.ofBelow B4)
          have HLB4 : Hid (∀ k, k < w.heap.size → (fun k => if k < wr.heap.size then lab1 k else Tag.want (N + d)) k = lab k) := by
            intro k hk
            show (if k < wr.heap.size then lab1 k else Tag.want (N + d)) = lab k
            rw [if_pos (by omega)]
            exact HLB.out k hk
          clear hgs own4 B4 r0 r1 q0 q1
          obtain ⟨x, hx⟩ : ∃ x, x = UInt8.ofNat (7 * (f + d) + 2) := ⟨_, rfl⟩
          have hxw : (7 * ((f + d : Nat) : Int) + 2) % 256 = (x.toNat : Int) := by rw [hx, UInt8.toNat_ofNat']; omega
          have hxw2 : (7 * ((f : Int) + (d : Int)) + 2) % 256 = (x.toNat : Int) := by rw [← hxw]; congr 1
          clear hx
          go_wp2_with fail
          go_loopw [9, 10, 87] (fun v u q wr => ∃ (k : Nat) (labq : Nat → Tag) (l : List UInt8), k ≤ 40 ∧ q = .int .i64 k ∧ Grows (bx.at (.int .i64 (f : Int))) wr B labq Hb f N d (fs ++ news) v u l l ∧ l.length = e0.bytes.length + k ∧ (∀ k, k < w.heap.size → labq k = lab k) ∧ Kept (NotUser lab) w wr) (fun _ _ q _ => 40 - (intOf q).toNat)
          case atStart => exact ⟨0, _, e0.bytes, by omega, rfl, GS4.out, rfl, HLB4.out, K4.out⟩
          case round =>
            obtain ⟨k, labq, l, hk, rfl, hgr, hll, hlq, hkq⟩ := hrel
            have GS : Hid (Grows (bx.at (.int .i64 (f : Int))) wr B labq Hb f N d (fs ++ news) u9 u10 l l) := hgr
            have HLQ : Hid (∀ k, k < w.heap.size → labq k = lab k) := hlq
            have KQ : Hid (Kept (NotUser lab) w wr) := hkq
            have hzq := hkq.size
            clear hgr hlq hkq GS4 K4 HLB4 HG HLB HGK
            by_cases hk100 : k < 40
            · have al : Below wr.heap.size wr (wr.alloc (.cells #[.int .u8 (x.toNat : Int)] 5)) := (Below.refl _ wr).alloc (Nat.le_refl _) _
              have GA : Hid (Grows (bx.at (.int .i64 (f : Int))) (wr.alloc (.cells #[.int .u8 (x.toNat : Int)] 5)) B labq Hb f N d (fs ++ news) u9 u10 l l) := GS.out.below al
              have KA : Hid (Kept (NotUser lab) w (wr.alloc (.cells #[.int .u8 (x.toNat : Int)] 5))) := KQ.out.trans (Kept.ofBelow al)
              clear al
              go_wp2_with (first
                | (refine wpList_append8 rfl (.tmp 89) (.tmp 94) rfl B u9 l (by rfl) GA.out.2.1.1 (some ⟨wr.heap.size, 0, none⟩) 1 [x] rfl (Own.ofNew1 wr x) (by simp; omega) (by simp; omega) ?_
                   intro v5 w5 ho5 hg5 hk5 hv5 _
                   have hs5 := GA.out.out ho5 hg5 hk5 hv5
                   have al5 : Below w5.heap.size w5 (w5.alloc (.cells #[.int .u8 (x.toNat : Int)] 5)) := (Below.refl _ w5).alloc (Nat.le_refl _) _
                   have GB : Hid (Grows (bx.at (.int .i64 (f : Int))) (w5.alloc (.cells #[.int .u8 (x.toNat : Int)] 5)) B (fun k => if k = (wr.alloc (.cells #[.int .u8 (x.toNat : Int)] 5)).heap.size then .out (N + d) else labq k) Hb f N d (fs ++ news) v5 u10 (l ++ [x]) l) := hs5.1.below al5
                   have KB : Hid (Kept (NotUser lab) w (w5.alloc (.cells #[.int .u8 (x.toNat : Int)] 5))) := (KA.out.step hs5.2 (fun j hj h i => by rw [← HLQ.out j hj]; exact h i)).trans (Kept.ofBelow al5)
                   have hz5 := hg5.size
                   clear hs5 al5 ho5 hg5 hk5 hv5)
                | (refine wpList_append8 rfl (.tmp 96) (.tmp 101) rfl B u10 l (by rfl) GB.out.2.2.1.1 (some ⟨w5.heap.size, 0, none⟩) 1 [x] rfl (Own.ofNew1 w5 x) (by simp; omega) (by simp at hz5 ⊢; omega) ?_
                   intro v6 w6 ho6 hg6 _ hv6 _
                   have hs6 := GB.out.want ho6 hg6 hv6
                   have G6 : Hid (Grows (bx.at (.int .i64 (f : Int))) w6 B (fun k => if k = (w5.alloc (.cells #[.int .u8 (x.toNat : Int)] 5)).heap.size then .want (N + d) else (fun k => if k = (wr.alloc (.cells #[.int .u8 (x.toNat : Int)] 5)).heap.size then .out (N + d) else labq k) k) Hb f N d (fs ++ news) v5 v6 (l ++ [x]) (l ++ [x])) := hs6.1
                   have K6 : Hid (Kept (NotUser lab) w w6) := KB.out.step hs6.2 (fun j hj h a => by
                     have := h a
                     simp only [World.size_alloc] at this
                     rw [if_neg (by omega)] at this
                     rw [← HLQ.out j hj]
                     exact this)
                   clear hs6 ho6 hg6 hv6))
              go_roundw
              case rel =>
                refine ⟨k + 1, _, l ++ [x], by omega, by go_num, G6.out, by simp; omega, ?_, K6.out⟩
                intro j hj
                simp only [World.size_alloc] at hz5 ⊢
                rw [if_neg (by omega), if_neg (by omega)]
                exact HLQ.out j hj
              case measure => simp [intOf]; omega
            · obtain rfl : k = 40 := by omega
              have hlM : l.length ≤ M + 40 := by have := HLL.out; omega
              have HLM := hideY hlM
              clear hll hlM
              have HENT := GS.out.entry
              obtain ⟨av, cv, hv7, _⟩ := GS.out.2.1.1.shape
              obtain ⟨au, cu, hv8, _⟩ := GS.out.2.2.1.1.shape
              subst hv7 hv8
              obtain ⟨vo, vw, hr, hes⟩ := GS.out.1
              obtain ⟨ao, co, rfl, _⟩ := row_shape hr.2.2.2.1.1
              obtain ⟨aw, cw, rfl, _⟩ := row_shape hr.2.2.2.2.1
              rw [List.length_map, List.length_map, hfnl] at hr
              have k0 := hr.cell0
              have HR : Hid (HRows (bx.at (.int .i64 (f : Int))) wr B labq Hb (.slice ao (N + d) co) (.slice aw (N + d) cw) ((fs ++ news).map (·.out)) ((fs ++ news).map (·.want))) := hr
              have HES : Hid (Ents wr B labq f N (fs ++ news)) := hes
              have HNT : Hid (EntAt wr B labq f N (fs ++ news).length ⟨.slice av l.length cv, .slice au l.length cu, l⟩) := HENT
              clear hr hes HENT
              have hlo : ((fs ++ news).map (·.out)).length ≤ 1073741824 := by rw [List.length_map, hfnl]; omega
              have hlw : ((fs ++ news).map (·.want)).length ≤ 1073741824 := by rw [List.length_map, hfnl]; omega
              have hBw : B ≤ wr.heap.size := by omega
              go_wp2_with (first
                | (refine wpList_push rfl (.tmp 108) (.tmp 110) rfl B (.slice ao (N + d) co) ((fs ++ news).map (·.out)) rfl HR.out.2.2.2.1.1 (.slice av l.length cv) _ rfl rfl rfl hlo hBw ?_
                   intro vo' w5 ho5 hg5 hv5
                   obtain ⟨ao', co', hvo', _⟩ := row_shape ho5
                   rw [List.length_map, hfnl] at hvo'
                   subst hvo'
                   obtain ⟨c50, _, f50, _⟩ := box_cell ((HR.out.alloc (.cells #[.slice av l.length cv] 30)).boxOut hg5)
                   have hp := (HR.out.alloc (.cells #[.slice av l.length cv] 30)).pushOut ho5 hg5 (by simpa using hv5)
                   have HR5 : Hid (HRows (bx.at (.int .i64 (f : Int))) (w5.setCell ⟨Hb, 2, none⟩ (.slice ao' (N + d + 1) co')) B (fun k => if k = (wr.alloc (.cells #[.slice av l.length cv] 30)).heap.size then .outs else labq k) Hb (.slice ao' (N + d + 1) co') (.slice aw (N + d) cw) ((fs ++ news).map (·.out) ++ [.slice av l.length cv]) ((fs ++ news).map (·.want))) := hp.1
                   obtain ⟨_, c51, _, _⟩ := box_cell HR5.out.1
                   have hz5 := hg5.size
                   clear hp)
                | (refine wpList_push rfl (.tmp 118) (.tmp 120) rfl B (.slice aw (N + d) cw) ((fs ++ news).map (·.want)) rfl HR5.out.2.2.2.2.1 (.slice au l.length cu) _ (by simp) rfl rfl hlw (by simp at hz5 ⊢; omega) ?_
                   intro vw' w6 ho6 hg6 hv6
                   obtain ⟨aw', cw', hvw', _⟩ := row_shape ho6
                   rw [List.length_map, hfnl] at hvw'
                   subst hvw'
                   obtain ⟨_, c61, _, f61⟩ := box_cell ((HR5.out.alloc (.cells #[.slice au l.length cu] 30)).boxWant hg6)))
              go_roundw
              case rel =>
                obtain ⟨lab7, h7, l7, k7⟩ := Held.pushed (e := ⟨.slice av l.length cv, .slice au l.length cu, l⟩) HR.out HES.out HNT.out (.cells #[.slice av l.length cv] 30) (.cells #[.slice au l.length cu] 30) ho5 hg5 (by simpa using hv5) ho6 hg6 (by simpa using hv6)
                refine ⟨d + 1, lab7, news ++ [⟨.slice av l.length cv, .slice au l.length cu, l⟩], by omega, by go_num, by simp [hnl], by rw [← List.append_assoc]; exact h7, ?_, fun j hj => (l7 j (by omega)).trans (HLQ.out j hj), ?_⟩
                · intro j e he
                  by_cases hjl : j < news.length
                  · rw [List.getElem?_append_left hjl] at he
                    exact HNB.out j e he
                  · rw [List.getElem?_append_right (by omega)] at he
                    have hm := List.mem_of_getElem? he
                    have h2 : e = ⟨.slice av l.length cv, .slice au l.length cu, l⟩ := by simpa using hm
                    rw [h2]
                    exact HLM.out
                refine KQ.out.step k7 (fun j hj h a => ?_)
                rw [← HLQ.out j hj]
                rcases h with h | h | h <;> rw [h] <;> simp
              case measure => simp [intOf]; omega
        · obtain rfl : N = f + d := by omega
          obtain ⟨ao, co, _, _, r0, _, _, _⟩ := HG.out.reads
          rw [hfnl] at r0
          obtain ⟨t2, t3⟩ := HG.out.third
          obtain ⟨n2, hn2⟩ : ∃ n2, n2 = f + d + d := ⟨_, rfl⟩
          rw [← hn2] at r0
          have HT := hideY (HG.out.setThird (.int .i64 (n2 : Int)))
          have HNL : Hid (∀ q, q < w.heap.size → NotUser lab1 q → NotUser lab q) := fun q hq h a => by rw [← HLB.out q hq]; exact h a
          have HN2 : Hid ((fs ++ news).length = n2) := by show _ = _; rw [hn2]; exact hfnl
          clear hn2 hfnl
          go_wp2_with (go_at_call 12
                       refine (holds_any _ B lab1 Hb f (f + d) (fs ++ news) HT.out.1).mono ?_
                       rintro e w9 ⟨rfl, m9, hm9⟩
                       have K9 : Hid (Kept (NotUser lab) w w9) := (HGK.out.step HT.out.2 HNL.out).trans (Kept.ofBelow (by rw [hm9]; exact below_drewM _ _ m9))
                       have HE9 : Hid (Held (bx.at (.int .i64 (n2 : Int))) w9 B lab1 Hb f (f + d) (fs ++ news)) := HT.out.1.below (by rw [hm9]; exact below_drewM _ _ m9)
                       clear hm9)
          go_ret
          refine ⟨rfl, K9.out, lab1, fs ++ news, ?_, ?_, ?_, HLB.out⟩
          · have h9 := HE9.out.toOld (by omega) (by rw [List.length_append, hfl]; omega) (fs ++ news).length
            rw [← HN2.out] at h9
            exact h9
          · rw [List.length_append, hfl, hnl]
            omega
          · intro j e he
            by_cases hjl : j < fs.length
            · rw [List.getElem?_append_left hjl] at he
              exact Nat.le_trans (HFB.out j e he) (by omega)
            · rw [List.getElem?_append_right (by omega)] at he
              exact HNB.out _ e he
end Go.Proofs.Ytcgpfhkndbggiaa
