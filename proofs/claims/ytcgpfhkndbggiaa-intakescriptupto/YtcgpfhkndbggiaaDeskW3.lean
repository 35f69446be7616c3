/-
  The desk: the walk of feed.
-/
import Derived.Test.YtcgpfhkndbggiaaDeskW2
import Derived.Deep.Cut
import Derived.Lib.AppendStr
import Derived.Deep.CutRange
namespace Go.Proofs.Ytcgpfhkndbggiaa
open Go.RowKit

theorem OwnX.cut0 {w : World} {B : Nat} {a : Option Addr} {n c : Nat} {l : List UInt8} (h : OwnX w B (.slice a n c) l) : OwnX w B (.slice a 0 c) [] := by
  rcases h with ⟨h, _⟩ | ⟨g, cap, h, h1, h2, h3, h4, h5, h6⟩
  · simp only [Value.slice.injEq] at h
    obtain ⟨rfl, _, rfl⟩ := h
    exact .inl ⟨rfl, rfl⟩
  · simp only [Value.slice.injEq] at h
    obtain ⟨rfl, _, rfl⟩ := h
    exact .inr ⟨g, c, rfl, h1, h2, Nat.zero_le _, h4, fun j x hj => by simp at hj, h6⟩

/-- 'append' of a text onto bytes of the call's own, or onto none. -/
theorem wpList_appendTX {w : World} {ops : Array Oper} {rest : List Oper} {o : Oper} {a : Act} {Q : Exit → Act → World → Prop} (hgd : o.guard = none) (s x : Operand)
    (ho : o.op = .call { callee := .builtin .append, args := #[s, x], argTypes := #[30, 9] })
    (B : Nat) (v : Value) (l : List UInt8) (hs : a.eval s = v) (hown : OwnX w B v l) (t : ByteArray) (hx : a.eval x = .string t)
    (hb : l.length + t.data.toList.length ≤ 140737488355328) (hbase : B ≤ w.heap.size)
    (h : ∀ v' w', OwnX w' B v' (l ++ t.data.toList) → w.grownBy w' v.ownBlock → (∀ g, v'.ownBlock = some g → v.ownBlock = some g ∨ w.heap.size ≤ g) → wpList Try.prog ops Q rest (a.put o.dst v') w') : wpList Try.prog ops Q (o :: rest) a w := by
  rcases hown with ⟨rfl, rfl⟩ | hown
  · obtain ⟨i, hi, hz0, hz1, hz2⟩ := info_parts info_u8
    have e : t.data.toList.length = t.size := by simp
    refine Lib.wpList_append_own_string w hgd s x 30 9 ho w.heap.size 5 i Try.underlying30 Try.underlying9 hi hz0 hz1 hz2 (.slice none 0 0) 0 (u8s []) hs (Own.nil w _) t hx (by unfold maxLen; simp only [List.length_nil] at hb; omega) (by simp only [List.length_nil] at hb; omega) (Nat.le_refl _) ?_
    intro v' w' h1 h2 _
    have h3 : Own w' w.heap.size v' t.data.toList := by
      unfold Own
      rw [e, show u8s t.data.toList = u8s [] ++ Lib.strCells t by simp [u8s, Lib.strCells]]
      simpa using h1
    exact h v' w' (OwnX.ofOwn (h3.mono hbase)) h2 (fun g hg => .inr (h3.lt g hg).1)
  · refine wpList_appendTC hgd s x ho B v l hs hown t hx hb hbase ?_
    intro v' w' h1 h2 h3
    refine h v' w' (.inr h1) h2 (fun g hg => ?_)
    rcases h3 with h3 | h3
    · exact .inl (h3.symm.trans hg)
    · rw [h3] at hg
      simp only [Option.some.injEq] at hg
      exact .inr (by omega)
theorem DeskAt.monoT {w W : World} {lab : Nat → Tag} {Db f : Nat} {es : List Ent} {L : List Pr} {va vb vl : Value} {R : List UInt8} {M T T' : Nat} (h : DeskAt w lab Db f es L va vb vl R M T W) (hT : T ≤ T') : DeskAt w lab Db f es L va vb vl R M T' W := by
  refine ⟨h.held, h.below, h.low, h.rowA, h.rowB, h.lent, fun i p hp => ?_, h.fle, h.small⟩
  have g := h.each i p hp
  exact ⟨g.inA, g.fit, g.most, g.mineA, g.inB, g.mineB, Nat.le_trans g.len hT⟩

set_option maxHeartbeats 4000000 in
set_option maxRecDepth 1000000 in
theorem dfeed_any (w W : World) (Db N Q M T i : Nat) (a : Option Addr) (c : Nat) (b : List UInt8) (h : DK w Db N Q M T W) (hm : MaxAt w) (hi : i < N) (hb : IsBytes w a c b) (hT : T + b.length ≤ 2000000000) :
    Calls Try.prog 30 #[.pointer (some ⟨Db, 0, none⟩), .int .i64 i, .slice a b.length c] W fun e w' => e = .returned (.bool true) ∧ DK w Db N Q M (T + b.length) w' := by
  obtain ⟨lab, f, es, L, va, vb, vl, R, hd0, hev, hlen, hq⟩ := h
  have hd := hd0.monoT (Nat.le_add_right T b.length)
  obtain ⟨p, hp⟩ : ∃ p, L[i]? = some p := ⟨_, List.getElem?_eq_getElem (by omega)⟩
  have HPL : Hid (p.s.held.length + b.length ≤ T + b.length) := Nat.add_le_add_right (hd0.each i p hp).len _
  obtain ⟨_, _, c5, _, hltD⟩ := hd.cells
  obtain ⟨al, cl, hvl, isl⟩ := hd.lent.1.shape
  obtain ⟨nl, hnl⟩ : ∃ nl, nl = R.length := ⟨_, rfl⟩
  rw [← hnl] at hvl
  subst hvl
  have HD := hide hd
  have HP := hide hp
  have HEV := hide hev
  have HLN := hide hlen
  have HQ := hide hq
  have HB := hide hb
  have MX : Hid (∀ X, Below w.heap.size w X → MaxAt X) := fun X hX => hm.below hX hm.lt
  have O0 : Hid (OwnX W w.heap.size (.slice al 0 cl) []) := hd.lent.1.cut0
  have IB : Hid (∀ X, Below w.heap.size w X → IsBytes X a c b) := fun X hX => hb.below hX
  have hsz := hd.below.size
  have hclm : cl ≤ 9223372036854775807 := by have := isl.2.1; unfold maxLen at this; omega
  obtain ⟨bl, hbl⟩ : ∃ bl, bl = b.length := ⟨_, rfl⟩
  rw [← hbl]
  have HBL := hide hbl
  have hT2 : T + bl ≤ 2000000000 := by omega
  rw [← hbl] at HD HPL
  clear hd hd0 hp hev hlen hq hb isl hnl hbl hT
  go_enter Try.func30, Try.ntmps30
  go_upto_region 2 with (refine wpList_appendX rfl (.tmp 14) (.tmp 15) rfl w.heap.size (.slice al 0 cl) [] rfl O0.out a c b (by rw [← HBL.out]; rfl) (IB.out W HD.out.below) (by rw [← HBL.out]; simp only [List.length_nil]; omega) hsz ?_; intro v1 w1 own1 gr1 _ hv1; rw [List.nil_append] at own1; have OWN1 := hide own1; have GR1 := hide (And.intro gr1 hv1); clear own1 gr1 hv1)
  have bel1 : Below w.heap.size w w1 := HD.out.below.grown GR1.out.1 (by omega) (fun g hg => (O0.out.lt g hg).1)
  have hsz1 := bel1.size
  go_upto_region 3 with (refine wpList_appendTX rfl (.tmp 17) (.const (.string ⟨#[98, 101, 104, 105, 110, 100]⟩)) rfl w.heap.size v1 b rfl OWN1.out ⟨#[98, 101, 104, 105, 110, 100]⟩ rfl (by rw [← HBL.out]; show bl + 6 ≤ _; omega) hsz1 ?_; intro v2 w2 own2 gr2 hv2; have OWN2 : Hid (OwnX w2 w.heap.size v2 (b ++ behindL)) := own2; have GR2 := hide (And.intro gr2 hv2); clear own2 gr2 hv2)
  have hbl6 : (b ++ behindL).length = bl + 6 := by rw [List.length_append, ← HBL.out]; rfl
  obtain ⟨gl, c2, hv2⟩ := OWN2.out.shapeSome (by rw [hbl6]; omega)
  rw [hbl6] at hv2
  subst hv2
  have kk : Kept (fun q => some q = (Value.slice al nl cl).ownBlock) W w2 := by
    have k1 : Kept (fun q => some q = (Value.slice al nl cl).ownBlock) W w1 := Kept.ofGrown GR1.out.1 (fun g e => by cases al <;> simp [Value.ownBlock] at e ⊢; exact e.symm)
    refine k1.step (Kept.ofGrown (P := fun q => some q = v1.ownBlock) GR2.out.1 (fun g e => e.symm)) (fun q hq e => ?_)
    rcases GR1.out.2 with h1 | h1
    · rw [h1] at e
      cases al <;> simp [Value.ownBlock] at e ⊢
      exact e
    · rw [h1] at e
      simp only [Option.some.injEq] at e
      omega
  obtain ⟨lab3, D3⟩ := HD.out.lend kk OWN2.out (fun g hg => by
    rcases GR2.out.2 g hg with h1 | h1
    · rcases GR1.out.2 with h2 | h2
      · left
        rw [h2] at h1
        cases al <;> simp [Value.ownBlock] at h1 ⊢
        exact h1
      · rw [h2] at h1
        simp only [Option.some.injEq] at h1
        exact .inr (by omega)
    · exact .inr (Nat.le_trans GR1.out.1.size h1))
  have hDb : w2.heap[Db]? = W.heap[Db]? := kk.block Db hltD (fun e => by
    have h1 := HD.out.lent.2 Db e.symm
    rw [HD.out.box.1] at h1
    simp at h1)
  have c5b := (World.cell?_of_block (a := ⟨Db, 5, none⟩) hDb).trans c5
  have f5b := (World.frozen?_of_block (a := ⟨Db, 5, none⟩) hDb).trans (HD.out.cells.2.2.2.1 5)
  have hltD2 := cell_lt c5b
  have HD3 := hide D3
  clear D3 kk hDb c5 GR1 GR2 OWN1 O0 bel1 hbl6
  go_upto_region 4 with fail
  obtain ⟨w3, hw3⟩ : ∃ w3, w3 = w2.setCell ⟨Db, 5, none⟩ (.slice (some ⟨gl, 0, none⟩) (bl + 6) c2) := ⟨_, rfl⟩
  rw [← hw3] at HD3 ⊢
  clear hw3 c5b f5b hltD2 OWN2 hltD
  obtain ⟨e0, _, _, _, hltE⟩ := HD3.out.cells
  obtain ⟨ga, ca, rfl, ka⟩ := HD3.out.ptrA HP.out
  rw [HLN.out] at e0
  have hlta := cell_lt ka
  have hiN : (i : Int) < (N : Int) := by omega
  have hpp := HD3.out.each i p HP.out
  have isl := (HD3.out.lent.1.is).1
  have hcap : bl + 6 ≤ c2 := by have h1 := isl.1; rw [HD3.out.lent.1.is.2] at h1; exact h1
  have hcm : c2 ≤ 9223372036854775807 := by have := isl.2.1; unfold maxLen at this; omega
  have isb : IsBytes w3 (some ⟨gl, 0, none⟩) c2 b := by
    have h1 := isl.cutTo b.length
    rwa [List.take_left] at h1
  have h0 : 0 ≠ p.ib := by have := (hpp.mineA p.ib (.inl rfl)).1; have := hm.lt; omega
  have CF0 := fun (X : World) (hX : Below w3.heap.size w3 X) => feed_any X p.ib p.iv p.s (some ⟨gl, 0, none⟩) c2 b (hpp.inA.below hX) (isb.below hX) hpp.fit.held (by rw [← HBL.out]; omega) hpp.fit.need (MX.out X (HD3.out.below.trans (hX.mono HD3.out.below.size)))
  rw [← HBL.out] at CF0
  have CF := hide CF0
  have FT : Hid ((p.s.feed b).Fit ∧ (p.s.feed b).held.length ≤ T + bl ∧ (p.s.feed b).most ≤ 65535) := by
    obtain ⟨q1, q2⟩ := feed_fit hpp.fit b (by have := HPL.out; rw [← HBL.out]; omega)
    refine ⟨q1, ?_, hpp.most⟩
    have := HPL.out
    rw [← HBL.out] at q2
    omega
  have j1 : (bl : Int) ≤ (c2 : Int) := by omega
  have j2 : (bl : Int) ≤ (bl : Int) + 6 := by omega
  clear CF0 hpp isl isb h0
  refine wp_tail 11 mixed (by kernel_rfl) ?_
  simp only [List.take_succ_cons, List.take_zero, List.drop_succ_cons, List.drop_zero]
  still_step
  still_step
  still_step
  still_step
  still_step
  still_step
  still_step
  still_step
  still_step
  still_step
  still_step
  refine wpStill_nil ?_
  go_upto_region 5 with (go_at_call 18; refine (CF.out _ (Below.refl _ w3).drew).mono ?_; rintro e w4 ⟨rfl, g4⟩; have G4 := hide g4; clear g4)
  obtain ⟨iv1, hin, hk, hmm⟩ := G4.out
  obtain ⟨lab4, D4, _, _⟩ := (HD3.out.later (Below.refl _ w3).drew).turnA HP.out hin hk hmm FT.out.1 FT.out.2.2 FT.out.2.1 (.user 0)
  have HD4 := hide D4
  have hil := (List.getElem?_eq_some_iff.1 HP.out).1
  have P1 : Hid ((L.set i { p with iv := iv1, s := p.s.feed b })[i]? = some { p with iv := iv1, s := p.s.feed b }) := List.getElem?_set_self hil
  clear D4 hin hk hmm G4 CF HD3 e0 ka hlta hltE
  obtain ⟨_, e1, _, _, hltE⟩ := HD4.out.cells
  obtain ⟨gb, cb, hvb, kb⟩ := HD4.out.ptrB P1.out
  subst hvb
  rw [List.length_set, HLN.out] at e1
  have hltb := cell_lt kb
  have hp1 := HD4.out.each i _ P1.out
  have hts : p.t = p.s := (HEV.out i p HP.out).symm
  have inB : RfAt w4 p.rb p.rv p.s := by have h1 := hp1.inB; rw [show ({ p with iv := iv1, s := p.s.feed b } : Pr).t = p.s from hts] at h1; exact h1
  have CR0 := refFeed_any w4 p.rb p.rv p.s a c b inB (IB.out w4 HD4.out.below) (fun g o e hnb hm1 => by
    have h1 := (hp1.mineB g hm1).1
    rcases HB.out.2.2 with h2 | ⟨g', o', e', hg', _⟩
    · exact hnb h2
    · rw [e'] at e
      simp only [Option.some.injEq, Addr.mk.injEq] at e
      omega) (by have := HPL.out; rw [← HBL.out]; omega)
  rw [← HBL.out] at CR0
  have CR := hide CR0
  clear CR0 hp1 inB hts
  go_upto_region 6 with (go_at_call 44; refine CR.out.mono ?_; rintro e w5 ⟨rfl, g5⟩; have G5 := hide g5; clear g5)
  obtain ⟨lab5, rv1, D5, _, _⟩ := HD4.out.turnB P1.out G5.out
  have HD5 := hide D5
  have HEQ : Hid (∀ (j : Nat) q, ((L.set i { p with iv := iv1, s := p.s.feed b }).set i { ({ p with iv := iv1, s := p.s.feed b } : Pr) with rv := rv1, t := p.s.feed b })[j]? = some q → q.s = q.t) := by
    intro j q hj
    by_cases hji : j = i
    · subst hji
      rw [List.getElem?_set_self (by rw [List.length_set]; exact hil)] at hj
      obtain rfl := Option.some.inj hj
      rfl
    · rw [List.getElem?_set_ne (fun e => hji e.symm), List.getElem?_set_ne (fun e => hji e.symm)] at hj
      exact HEV.out j q hj
  have HL2 : Hid (((L.set i { p with iv := iv1, s := p.s.feed b }).set i { ({ p with iv := iv1, s := p.s.feed b } : Pr) with rv := rv1, t := p.s.feed b }).length = N) := by
    show _ = _
    rw [List.length_set, List.length_set]
    exact HLN.out
  generalize (L.set i { p with iv := iv1, s := p.s.feed b }).set i { ({ p with iv := iv1, s := p.s.feed b } : Pr) with rv := rv1, t := p.s.feed b } = L5 at *
  have isl := (HD5.out.lent.1.is).1
  have isb : IsBytes w5 (some ⟨gl, 0, none⟩) c2 b := by
    have h1 := isl.cutTo b.length
    rwa [List.take_left] at h1
  have ise : IsBytes w5 (some ⟨gl, bl, none⟩) (c2 - bl) behindL := by
    have h1 := isl.sub b.length (by simp)
    rw [List.drop_left, ← HBL.out, Nat.zero_add] at h1
    exact h1
  have hcv : ∀ m, (convert 30 9 (.slice (some ⟨gl, bl, none⟩) 6 (c2 - bl))).run Try.prog (w5.drewN m) = .ok (.string ⟨behindL.toArray⟩) (w5.drewN m) := fun m => conv_is (ise.below (below_drewN (Below.refl _ w5) m)) rfl
  have SA := same_yes (some ⟨gl, 0, none⟩) a c2 c b w5 isb (IB.out w5 HD5.out.below)
  rw [← HBL.out] at SA
  have CSA := hide SA
  have hne : ¬ c2 = bl := by omega
  have j3 : (bl : Int) + 6 ≤ (c2 : Int) := by omega
  have hb6 : bl + 6 - bl = 6 := by omega
  clear SA isl isb ise D5 e1 kb hltb hltE CR G5 HD4 P1
  go_upto_region 7 with (go_at_call 33; refine CSA.out.mono ?_; rintro e w6 ⟨rfl, m6, hw6⟩; rw [hw6]; clear hw6 w6)
  have HD6 := hide (HD5.out.later (below_drewN (Below.refl _ w5) m6))
  have HRL : Hid ((b ++ behindL).length = bl + 6) := HD5.out.lent.1.is.2
  generalize w5.drewN m6 = w6 at *
  clear hcv HD5 CSA
  go_wp2_with fail
  go_loopw [60] (fun q wr => ∃ (j : Nat) (R' : List UInt8), j ≤ bl + 6 ∧ q = .int .i64 j ∧ R'.length = bl + 6 ∧ Hid (DeskAt w lab5 Db f es L5 (.slice (some ⟨ga, 0, none⟩) L.length ca) _ (.slice (some ⟨gl, 0, none⟩) (bl + 6) c2) R' M (T + bl) wr)) (fun q _ => bl + 6 - (intOf q).toNat)
  case atStart => exact ⟨0, b ++ behindL, Nat.zero_le _, rfl, HRL.out, HD6⟩
  case round =>
    obtain ⟨j, R', hj, rfl, hrl, D⟩ := hrel
    clear HD6
    by_cases hlt : j < bl + 6
    · have hji : (j : Int) < (bl : Int) + 6 := by omega
      obtain ⟨x, hx⟩ : ∃ x, R'[j]? = some x := ⟨_, List.getElem?_eq_getElem (by omega)⟩
      have cx := D.out.lent.1.cell j x hx
      have fx := D.out.lent.1.frozen j (by omega)
      have hlx := cell_lt cx
      have DS := hide (D.out.spot j 35 (by omega))
      clear hx
      go_wp2_with fail
      go_roundw
      case rel => exact ⟨j + 1, _, by omega, by go_num, by rw [List.length_set]; exact hrl, DS⟩
      case measure => simp [intOf]; omega
    · have hji : ¬ (j : Int) < (bl : Int) + 6 := by omega
      go_wp2_with fail
      go_ret
      exact ⟨rfl, lab5, f, es, L5, _, _, _, R', D.out, HEQ.out, HL2.out, HQ.out⟩
end Go.Proofs.Ytcgpfhkndbggiaa
