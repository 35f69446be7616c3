/-
  The desk: the walk of next.
-/
import Derived.Test.YtcgpfhkndbggiaaDeskN
import Derived.Test.YtcgpfhkndbggiaaPlainCuts
import Derived.Deep.Cut
namespace Go.Proofs.Ytcgpfhkndbggiaa
open Go.RowKit

theorem loss_body (s : In) (k : Int) : (s.tellLoss k).1.body = [] := by
  unfold In.tellLoss
  split <;> rfl
theorem next_body (s : In) : s.next.1.body.length ≤ s.held.length := by
  unfold In.next
  split
  · unfold In.tell
    rw [if_neg (by show ¬ (1 : Nat) = 0; omega), if_pos (show (s.turn 1 2).stand = 1 from rfl), loss_body]
    simp
  · unfold In.tell
    split
    · unfold In.tellLine
      split <;> simp [Told.none]
    · split
      · rw [loss_body]; simp
      · split
        · unfold In.tellBody
          split
          · simp [Told.none]
          · simp only []
            split
            · simp only [List.length_take]; omega
            · simp
        · rw [loss_body]; simp

/-- The desk with its two lists in sight, and the blocks of its pairs. -/
def DV (w : World) (Db N Q M T : Nat) (va vb : Value) (ps : List (Nat × Nat)) (W : World) : Prop := ∃ lab f es L vl R, DeskAt w lab Db f es L va vb vl R M T W ∧ (∀ (i : Nat) p, L[i]? = some p → p.s = p.t) ∧ L.length = N ∧ es.length + (es.length - f) ≤ Q ∧ L.map (fun p => (p.ib, p.rb)) = ps
theorem DV.dk {w W : World} {Db N Q M T : Nat} {va vb : Value} {ps : List (Nat × Nat)} (h : DV w Db N Q M T va vb ps W) : DK w Db N Q M T W := by
  obtain ⟨lab, f, es, L, vl, R, h1, h2, h3, h4, _⟩ := h
  exact ⟨lab, f, es, L, va, vb, vl, R, h1, h2, h3, h4⟩
theorem DK.dv {w W : World} {Db N Q M T : Nat} (h : DK w Db N Q M T W) : ∃ va vb ps, DV w Db N Q M T va vb ps W := by
  obtain ⟨lab, f, es, L, va, vb, vl, R, h1, h2, h3, h4⟩ := h
  exact ⟨va, vb, _, lab, f, es, L, vl, R, h1, h2, h3, h4, rfl⟩

set_option maxHeartbeats 4000000 in
set_option maxRecDepth 1000000 in
theorem dnext_dv (w W : World) (Db N Q M T i : Nat) (va vb : Value) (ps : List (Nat × Nat)) (h : DV w Db N Q M T va vb ps W) (hm : MaxAt w) (hi : i < N) (hTM : T ≤ M) (hM : M ≤ 4294967000) (hQ : Q ≤ 16000000) :
    Calls Try.prog 13 #[.pointer (some ⟨Db, 0, none⟩), .int .i64 i] W fun e w' => e = .returned (.bool true) ∧ DV w Db N (Q + 2) M T va vb ps w' := by
  obtain ⟨lab, f, es, L, vl, R, hd, hev, hlen, hq, hps⟩ := h
  have HPS := hide hps
  clear hps
  obtain ⟨p, hp⟩ : ∃ p, L[i]? = some p := ⟨_, List.getElem?_eq_getElem (by omega)⟩
  have hst := hev i p hp
  obtain ⟨c0, _, _, _, hltD⟩ := hd.cells
  obtain ⟨ga, ca, rfl, ka⟩ := hd.ptrA hp
  rw [hlen] at c0
  have hlta := cell_lt ka
  have HD := hide hd
  have HP := hide hp
  have HEV := hide hev
  have HST := hide hst
  have HLN := hide hlen
  have HQ := hide hq
  have hpp := hd.each i p hp
  have MX : Hid (∀ X, Below w.heap.size w X → MaxAt X) := fun X hX => hm.below hX hm.lt
  have h0 : 0 ≠ p.ib := by have := (hpp.mineA p.ib (.inl rfl)).1; have := hm.lt; omega
  have CN := hide (next_any W p.ib p.iv p.s hpp.inA hpp.fit (MX.out W hd.below) h0)
  have BL : Hid (p.s.next.1.body.length ≤ M) := Nat.le_trans (next_body p.s) (Nat.le_trans hpp.len hTM)
  have FT : Hid (p.s.next.2.Fit ∧ p.s.next.2.held.length ≤ T ∧ p.s.next.2.most ≤ 65535) := by
    obtain ⟨q1, q2⟩ := next_fit hpp.fit
    refine ⟨q1, Nat.le_trans q2 hpp.len, ?_⟩
    have : p.s.next.2.most = p.s.most := by
      unfold In.next
      split
      · unfold In.tell In.tellLine In.tellLoss In.tellBody
        repeat' split
        all_goals rfl
      · unfold In.tell In.tellLine In.tellLoss In.tellBody
        repeat' split
        all_goals rfl
    rw [this]
    exact hpp.most
  have hiN : (i : Int) < (N : Int) := by omega
  clear hd hp hev hst hlen hq hpp h0
  go_enter Try.func13, Try.ntmps13
  go_upto_region 2 with (go_at_call 26; refine CN.out.mono ?_; rintro e w1 ⟨vx, rfl, ox, gx⟩; obtain ⟨ax, cx, hvx, isx⟩ := ox.shape; subst hvx; unfold itemV; have OX := hide ox; have GX := hide gx; have ISX := hide isx; clear ox gx isx)
  obtain ⟨kd, hkd⟩ : ∃ kd, kd = p.s.next.1.kind := ⟨_, rfl⟩
  obtain ⟨tx, htx⟩ : ∃ tx : ByteArray, tx = ⟨p.s.next.1.text.toArray⟩ := ⟨_, rfl⟩
  obtain ⟨nb, hnb⟩ : ∃ nb, nb = p.s.next.1.body.length := ⟨_, rfl⟩
  obtain ⟨bd, hbd⟩ : ∃ bd, bd = p.s.next.1.body := ⟨_, rfl⟩
  rw [← hkd, ← htx, ← hnb]
  rw [← hnb, ← hbd] at OX
  rw [← hbd] at ISX
  rw [← hnb] at GX BL
  have HNB : Hid (nb = bd.length) := by rw [hbd]; exact hnb
  obtain ⟨w1b, hw1b⟩ : ∃ w1b, w1b = w1.alloc (.cells #[.int .i64 kd, .string tx, .slice ax nb cx] 54) := ⟨_, rfl⟩
  obtain ⟨xb, hxb⟩ : ∃ xb, xb = w1.heap.size := ⟨_, rfl⟩
  rw [← hw1b, ← hxb]
  have B1b : Hid (Below w1.heap.size w1 w1b ∧ w1b.heap[xb]? = some (.cells #[.int .i64 kd, .string tx, .slice ax nb cx] 54 (0, 0))) := by
    rw [hw1b, hxb]
    exact ⟨(Below.refl _ w1).alloc (Nat.le_refl _) _, heap_alloc_last _ _⟩
  obtain ⟨iv1, hin, hk, hmm⟩ := GX.out
  obtain ⟨lab1, D1, q0, q2⟩ := HD.out.turnA HP.out hin hk (fun k hm => (hmm k hm).imp id (fun h => h.1)) FT.out.1 FT.out.2.2 FT.out.2.1 (.out es.length)
  have TG : Hid (Tagged lab1 (.slice ax nb cx) (.out es.length)) := by
    intro g hg
    have hgl := OX.out.lt g hg
    refine q2 g hgl.1 (fun hm => ?_)
    rcases hmm g hm with h1 | h1
    · have := (HD.out.each i p HP.out).inA.lt g h1
      omega
    · exact h1.2 hg
  have XL : Hid (lab1 xb = .out es.length) := by
    refine q2 xb (by rw [hxb]; exact hk.size) (fun hm => ?_)
    have := hin.lt xb hm
    omega
  have hil := (List.getElem?_eq_some_iff.1 HP.out).1
  have P1 : Hid ((L.set i { p with iv := iv1, s := p.s.next.2 })[i]? = some { p with iv := iv1, s := p.s.next.2 }) := List.getElem?_set_self hil
  have D1b := hide (D1.later B1b.out.1)
  obtain ⟨_, c1, _, _, hltD1⟩ := D1b.out.cells
  obtain ⟨gb, cb, hvb, kb⟩ := D1b.out.ptrB P1.out
  subst hvb
  rw [List.length_set, HLN.out] at c1
  have hltb := cell_lt kb
  have hp1 := D1b.out.each i _ P1.out
  have CR0 := refNext_any w1b p.rb p.rv p.s (by have h9 := hp1.inB; rw [show p.t = p.s from HST.out.symm] at h9; exact h9) (HD.out.each i p HP.out).fit.stand (HD.out.each i p HP.out).fit.held
  unfold RNext itemV at CR0
  rw [← htx, ← hkd, ← hbd] at CR0
  have CR := hide CR0
  have OXB : Hid (Own w1b w.heap.size (.slice ax nb cx) bd ∧ IsBytes w1b ax cx bd) := ⟨(OX.out.below B1b.out.1).mono HD.out.below.size, ISX.out.below B1b.out.1⟩
  have NX : Hid (∀ k, Mine p.rb p.rv k → k ≠ xb) := hp1.inB.item B1b.out.2
  have NL : Hid (∀ k, Mine p.rb p.rv k → lab1 k = .user (2 * i + 11)) := fun k hm => (hp1.mineB k hm).2
  clear CR0 hp1 hin hk hmm D1 q0 q2 c0 ka hlta hltD hw1b hxb hkd htx hnb hbd CN GX OX ISX
  go_upto_region 3 with (go_at_call 34; refine CR.out.mono ?_; rintro e w2 ⟨ay, ny, cy, rfl, ⟨hny, isy, gwy⟩, gy⟩; rw [← HNB.out] at hny; rw [hny]; clear hny; have ISY := hide (And.intro isy gwy); have GY := hide gy; clear isy gwy gy)
  obtain ⟨w2b, hw2b⟩ : ∃ w2b, w2b = w2.alloc (.cells #[.int .i64 kd, .string tx, .slice ay nb cy] 54) := ⟨_, rfl⟩
  obtain ⟨yb, hyb⟩ : ∃ yb, yb = w2.heap.size := ⟨_, rfl⟩
  rw [← hw2b, ← hyb]
  have B2b : Hid (Below w2.heap.size w2 w2b ∧ w2b.heap[yb]? = some (.cells #[.int .i64 kd, .string tx, .slice ay nb cy] 54 (0, 0))) := by
    rw [hw2b, hyb]
    exact ⟨(Below.refl _ w2).alloc (Nat.le_refl _) _, heap_alloc_last _ _⟩
  have GK : Hid (Kept (Mine p.rb p.rv) w1b w2) := by obtain ⟨_, _, hk, _⟩ := GY.out; exact hk
  have GL : Hid (∃ rv, RfAt w2 p.rb rv p.s.next.2) := by obtain ⟨rv, hr, _⟩ := GY.out; exact ⟨rv, hr⟩
  obtain ⟨lab2, rv2, D2, r0, r2⟩ := D1b.out.turnB P1.out GY.out
  have D2b := hide (D2.later B2b.out.1)
  have X2 : Hid (w2b.heap[xb]? = some (.cells #[.int .i64 kd, .string tx, .slice ax nb cx] 54 (0, 0))) := by
    have h1 := (GK.out.block xb (Array.getElem?_eq_some_iff.1 B1b.out.2).1 (fun hm => NX.out xb hm rfl)).trans B1b.out.2
    exact (B2b.out.1.block xb (Array.getElem?_eq_some_iff.1 h1).1).trans h1
  have hgn : ∀ g, (Value.slice ax nb cx).ownBlock = some g → ¬ Mine p.rb p.rv g := fun g hg hm => by
    have h1 := TG.out g hg
    rw [NL.out g hm] at h1
    simp at h1
  have O2b : Hid (Own w2b w.heap.size (.slice ax nb cx) bd) := (GK.out.Own OXB.out.1 hgn).below B2b.out.1
  have T2 : Hid (Tagged lab2 (.slice ax nb cx) (.out es.length)) := fun g hg => (r0 g (OXB.out.1.lt g hg).2).trans (TG.out g hg)
  have XL2 : Hid (¬ Lists lab2 xb ∧ ¬ Lists lab2 yb) := by
    constructor
    · intro hl
      have h1 := (r0 xb (Array.getElem?_eq_some_iff.1 B1b.out.2).1).trans XL.out
      rcases hl with h | h | h <;> rw [h1] at h <;> simp at h
    · intro hl
      have h1 := r2 yb (by rw [hyb]; exact GK.out.size) (fun hm => by
        have h2 := (D2.each i _ (List.getElem?_set_self (by rw [List.length_set]; exact hil))).inB.lt yb hm
        omega)
      rcases hl with h | h | h <;> rw [h1] at h <;> simp at h
  have YG : Hid (∀ g o, ay = some ⟨g, o, none⟩ → g < w2.heap.size → ¬ Lists lab2 g) := by
    classical
    intro g o e hlt hl
    by_cases hmg : Mine p.rb rv2 g
    · have h1 := ((D2.each i _ (List.getElem?_set_self (by rw [List.length_set]; exact hil))).mineB g hmg).2
      rcases hl with h | h | h <;> rw [h1] at h <;> simp at h
    · have h1 := r2 g (ISY.out.2 g o e) hmg
      rcases hl with h | h | h <;> rw [h1] at h <;> simp at h
  have hes : es.length ≤ 16000000 := by have := HQ.out; omega
  have CK0 := fun (X : World) (hb : Below w2b.heap.size w2b X) => (D2b.out.later hb).keep (a := ax) (c := cx) (l := bd) (by rw [← HNB.out]; exact O2b.out.below hb) (by rw [← HNB.out]; exact T2.out) (by rw [← HNB.out]; exact BL.out) (by omega) (by omega)
  rw [← HNB.out] at CK0
  have CK := hide CK0
  obtain ⟨x0, x1, x2, _⟩ := item_at X2.out
  have hltx := cell_lt x0
  have HEQ : Hid (∀ (j : Nat) q, ((L.set i { p with iv := iv1, s := p.s.next.2 }).set i { ({ p with iv := iv1, s := p.s.next.2 } : Pr) with rv := rv2, t := p.s.next.2 })[j]? = some q → q.s = q.t) := by
    intro j q hj
    by_cases hji : j = i
    · subst hji
      rw [List.getElem?_set_self (by rw [List.length_set]; exact hil)] at hj
      obtain rfl := Option.some.inj hj
      rfl
    · rw [List.getElem?_set_ne (fun e => hji e.symm), List.getElem?_set_ne (fun e => hji e.symm)] at hj
      exact HEV.out j q hj
  have HL2 : Hid (((L.set i { p with iv := iv1, s := p.s.next.2 }).set i { ({ p with iv := iv1, s := p.s.next.2 } : Pr) with rv := rv2, t := p.s.next.2 }).length = N) := by
    show _ = _
    rw [List.length_set, List.length_set]
    exact HLN.out
  clear CK0 hw2b hyb r0 r2 D2 hgn c1 kb hltD1 hltb
  go_wp2_with fail
  refine wp_tail 5 mixed (by kernel_rfl) ?_
  simp only [List.take_succ_cons, List.take_zero, List.drop_succ_cons, List.drop_zero]
  still_step
  still_step
  still_step
  still_step
  still_step
  refine wpStill_nil ?_
  go_upto_region 4 with (go_at_call 35; refine (CK.out _ (Below.refl _ w2b).drew).mono ?_; rintro e w3 ⟨rfl, lab3, es3, d3, l3, k3, _⟩; have D3 := hide (And.intro d3 (And.intro l3 k3)); clear d3 l3 k3)
  have k3 := D3.out.2.2
  have hx3 : w3.heap[xb]? = some (.cells #[.int .i64 kd, .string tx, .slice ax nb cx] 54 (0, 0)) := (k3.block xb (Array.getElem?_eq_some_iff.1 X2.out).1 XL2.out.1).trans X2.out
  have hy3 : w3.heap[yb]? = some (.cells #[.int .i64 kd, .string tx, .slice ay nb cy] 54 (0, 0)) := (k3.block yb (Array.getElem?_eq_some_iff.1 B2b.out.2).1 XL2.out.2).trans B2b.out.2
  obtain ⟨u0, u1, u2, _⟩ := item_at hx3
  obtain ⟨t0, t1, t2, _⟩ := item_at hy3
  have hu := cell_lt u0
  have ht := cell_lt t0
  have I3 : Hid (IsBytes w3 ax cx bd) := by
    have ho : Own w3 w.heap.size (.slice ax nb cx) bd := k3.Own (O2b.out.below (Below.refl _ w2b).drew) (fun g hg hl => by
      have h1 := T2.out g hg
      rcases hl with h | h | h <;> rw [h1] at h <;> simp at h)
    obtain ⟨a', c', hv, his⟩ := ho.shape
    rw [← HNB.out] at hv
    simp only [Value.slice.injEq] at hv
    obtain ⟨rfl, _, rfl⟩ := hv
    exact his
  have J3 : Hid (IsBytes w3 ay cy bd) := by
    obtain ⟨h1, h2, h3⟩ := ISY.out.1
    refine ⟨h1, h2, ?_⟩
    rcases h3 with h3 | ⟨g, o, rfl, hg, hc⟩
    · exact .inl h3
    · have e1 := B2b.out.1.block g hg
      have e2 := k3.block g (Nat.lt_of_lt_of_le hg B2b.out.1.size) (YG.out g o rfl hg)
      exact .inr ⟨g, o, rfl, Nat.lt_of_lt_of_le (Nat.lt_of_lt_of_le hg B2b.out.1.size) k3.size, fun j x hj => (World.cell?_of_block (e2.trans e1)).trans (hc j x hj)⟩
  have hbb : ((kd != 0) == (kd != 0)) = true := by simp
  clear k3 hx3 hy3 x0 x1 x2 hltx
  go_wp2_with (go_at_call 21; refine (alike_yes kd tx ax ay cx cy nb bd _ I3.out J3.out HNB.out.symm).mono ?_; rintro e w4 ⟨rfl, b4⟩; have B4 := hide b4; clear b4)
  go_ret
  refine ⟨rfl, lab3, f, es3, _, _, R, D3.out.1.later B4.out, HEQ.out, HL2.out, ?_, ?_⟩
  · have := D3.out.2.1
    have := HQ.out
    omega
  · rw [List.map_set, List.map_set, set_same _ _ _ (by rw [set_same _ _ _ (by simp [HP.out])]; simp [HP.out]), set_same _ _ _ (by simp [HP.out])]
    exact HPS.out
theorem dnext_any (w W : World) (Db N Q M T i : Nat) (h : DK w Db N Q M T W) (hm : MaxAt w) (hi : i < N) (hTM : T ≤ M) (hM : M ≤ 4294967000) (hQ : Q ≤ 16000000) :
    Calls Try.prog 13 #[.pointer (some ⟨Db, 0, none⟩), .int .i64 i] W fun e w' => e = .returned (.bool true) ∧ DK w Db N (Q + 2) M T w' := by
  obtain ⟨va, vb, ps, hv⟩ := h.dv
  exact (dnext_dv w W Db N Q M T i va vb ps hv hm hi hTM hM hQ).mono fun e w' ⟨h1, h2⟩ => ⟨h1, h2.dk⟩
end Go.Proofs.Ytcgpfhkndbggiaa
