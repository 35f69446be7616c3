/-
  The desk: the walk of made.
-/
import Derived.Test.YtcgpfhkndbggiaaDeskP
import Derived.Deep.Cut
import Derived.Deep.CutRange
namespace Go.Proofs.Ytcgpfhkndbggiaa
open Go.RowKit

theorem info_pa : (Try.prog.info? 38).map (fun i => (i.zero, i.size, i.bytes)) = some (some (.pointer none), 1, 8) := by kernel_rfl
theorem info_pb : (Try.prog.info? 40).map (fun i => (i.zero, i.size, i.bytes)) = some (some (.pointer none), 1, 8) := by kernel_rfl
/-- 'append' of one pointer. -/
theorem wpList_pushA {w : World} {ops : Array Oper} {rest : List Oper} {o : Oper} {a : Act} {Q : Exit → Act → World → Prop} (hgd : o.guard = none) (s x : Operand)
    (ho : o.op = .call { callee := .builtin .append, args := #[s, x], argTypes := #[25, 25] })
    (B : Nat) (v : Value) (os : List Value) (hs : a.eval s = v) (hown : w.ownsRow B 38 1 v os.length os) (u : Value) (k : Nat) (hk : k = w.heap.size) (hx : a.eval x = .slice (some ⟨k, 0, none⟩) 1 1) (hu : u.oneCell' = true)
    (hb : os.length ≤ 1073741824) (hbase : B ≤ w.heap.size)
    (h : ∀ v' w', w'.ownsRow B 38 1 v' (os.length + 1) (os ++ [u]) → (w.alloc (.cells #[u] 38)).grownBy w' v.ownBlock → (v'.ownBlock = v.ownBlock ∨ v'.ownBlock = some (w.alloc (.cells #[u] 38)).heap.size) →
      wpList Try.prog ops Q rest (a.put o.dst v') w') : wpList Try.prog ops Q (o :: rest) a (w.alloc (.cells #[u] 38)) := by
  subst hk
  obtain ⟨i, hi, hz0, hz1, hz2⟩ := info_parts info_pa
  refine wpList_append_keeps hgd s x 25 ho B 38 i (.pointer none) Try.underlying25 hi hz0 hz1 rfl v os.length os hs (hown.alloc _) (some ⟨w.heap.size, 0, none⟩) 1 1 [u] hx rfl (.inr (one_new w u _)) (by intro y hy; simp at hy; subst hy; exact hu) (by unfold maxLen; omega) (by rw [hz2]; omega) (by simp; omega) ?_
  intro v' w' h1 h2 _ h4 _
  exact h v' w' h1 h2 h4
theorem wpList_pushB {w : World} {ops : Array Oper} {rest : List Oper} {o : Oper} {a : Act} {Q : Exit → Act → World → Prop} (hgd : o.guard = none) (s x : Operand)
    (ho : o.op = .call { callee := .builtin .append, args := #[s, x], argTypes := #[26, 26] })
    (B : Nat) (v : Value) (os : List Value) (hs : a.eval s = v) (hown : w.ownsRow B 40 1 v os.length os) (u : Value) (k : Nat) (hk : k = w.heap.size) (hx : a.eval x = .slice (some ⟨k, 0, none⟩) 1 1) (hu : u.oneCell' = true)
    (hb : os.length ≤ 1073741824) (hbase : B ≤ w.heap.size)
    (h : ∀ v' w', w'.ownsRow B 40 1 v' (os.length + 1) (os ++ [u]) → (w.alloc (.cells #[u] 40)).grownBy w' v.ownBlock → (v'.ownBlock = v.ownBlock ∨ v'.ownBlock = some (w.alloc (.cells #[u] 40)).heap.size) →
      wpList Try.prog ops Q rest (a.put o.dst v') w') : wpList Try.prog ops Q (o :: rest) a (w.alloc (.cells #[u] 40)) := by
  subst hk
  obtain ⟨i, hi, hz0, hz1, hz2⟩ := info_parts info_pb
  refine wpList_append_keeps hgd s x 26 ho B 40 i (.pointer none) Try.underlying26 hi hz0 hz1 rfl v os.length os hs (hown.alloc _) (some ⟨w.heap.size, 0, none⟩) 1 1 [u] hx rfl (.inr (one_new w u _)) (by intro y hy; simp at hy; subst hy; exact hu) (by unfold maxLen; omega) (by rw [hz2]; omega) (by simp; omega) ?_
  intro v' w' h1 h2 _ h4 _
  exact h v' w' h1 h2 h4
/-- A pair that was made since comes to place n (the last one, or one that is let go). -/
theorem DeskAt.came {w W w1 w2 : World} {lab : Nat → Tag} {Db f : Nat} {es : List Ent} {L : List Pr} {va vb vl : Value} {R : List UInt8} {M T : Nat} (h : DeskAt w lab Db f es L va vb vl R M T W) (b1 : Below W.heap.size W w1) (b2 : Below w1.heap.size w1 w2) (n : Nat) (p : Pr) (hA : InAt w1 p.ib p.iv p.s) (mA : ∀ k, Mine p.ib p.iv k → W.heap.size ≤ k) (hf : p.s.Fit) (hmo : p.s.most ≤ 65535) (hT : p.s.held.length ≤ T) (hB : RfAt w2 p.rb p.rv p.t) (mB : ∀ k, Mine p.rb p.rv k → w1.heap.size ≤ k) :
    ∃ lab' : Nat → Tag, DeskH w lab' Db f es L (pA L) (pB L) va vb vl R M T w2 ∧ PrAt w2 w.heap.size lab' T n p := by
  obtain ⟨lab', hlab⟩ : ∃ lab' : Nat → Tag, lab' = fun k => if k < W.heap.size then lab k else if k < w1.heap.size then .user (2 * n + 10) else .user (2 * n + 11) := ⟨_, rfl⟩
  have e0 : ∀ k, k < W.heap.size → lab' k = lab k := fun k hk => by rw [hlab]; simp only []; rw [if_pos hk]
  have e1 : ∀ k, W.heap.size ≤ k → k < w1.heap.size → lab' k = .user (2 * n + 10) := fun k hk hk2 => by rw [hlab]; simp only []; rw [if_neg (by omega), if_pos hk2]
  have e2 : ∀ k, w1.heap.size ≤ k → lab' k = .user (2 * n + 11) := fun k hk => by have := b1.size; rw [hlab]; simp only []; rw [if_neg (by omega), if_neg (by omega)]
  clear hlab
  have hs := h.below.size
  have hs1 := b1.size
  refine ⟨lab', ((h.open.relabel e0).later b1).later b2, hA.below b2, hf, hmo, fun k hm => ⟨by have := mA k hm; omega, e1 k (mA k hm) (hA.lt k hm)⟩, hB, fun k hm => ⟨by have := mB k hm; omega, e2 k (mB k hm)⟩, hT⟩
theorem DeskH.add {w W : World} {lab : Nat → Tag} {Db f : Nat} {es : List Ent} {L : List Pr} {xs ys : List Value} {va vb vl : Value} {R : List UInt8} {M T : Nat} {p : Pr} (h : DeskH w lab Db f es L xs ys va vb vl R M T W) (hp : PrAt W w.heap.size lab T L.length p) : DeskH w lab Db f es (L ++ [p]) xs ys va vb vl R M T W := by
  refine ⟨h.held, h.below, h.low, h.rowA, h.rowB, h.lent, fun i q hq => ?_, h.fle, h.small⟩
  by_cases hil : i < L.length
  · rw [List.getElem?_append_left hil] at hq
    exact h.each i q hq
  · rw [List.getElem?_append_right (by omega)] at hq
    have h0 : i - L.length = 0 := by have := (List.getElem?_eq_some_iff.1 hq).1; simp at this; omega
    obtain rfl : i = L.length := by omega
    rw [h0] at hq
    simp only [List.getElem?_cons_zero, Option.some.injEq] at hq
    subst hq
    exact hp
theorem DeskH.swap {w W : World} {lab : Nat → Tag} {Db f : Nat} {es : List Ent} {L : List Pr} {xs ys : List Value} {va vb vl : Value} {R : List UInt8} {M T n : Nat} {p : Pr} (h : DeskH w lab Db f es L xs ys va vb vl R M T W) (hp : PrAt W w.heap.size lab T n p) (hn : n < L.length) : DeskH w lab Db f es (L.set n p) xs ys va vb vl R M T W := by
  refine ⟨h.held, h.below, h.low, h.rowA, h.rowB, h.lent, fun i q hq => ?_, h.fle, h.small⟩
  by_cases hin : i = n
  · subst hin
    rw [List.getElem?_set_self hn] at hq
    obtain rfl := Option.some.inj hq
    exact hp
  · rw [List.getElem?_set_ne (fun e => hin e.symm)] at hq
    exact h.each i q hq

theorem DeskH.boxG {w W W1 : World} {lab : Nat → Tag} {Db f : Nat} {es : List Ent} {L : List Pr} {xs ys : List Value} {va vb vl : Value} {R : List UInt8} {M T : Nat} (h : DeskH w lab Db f es L xs ys va vb vl R M T W) {g0 : Option Nat} (hg : W.grownBy W1 g0) (hne : g0 ≠ some Db) : W1.cell? ⟨Db, 0, none⟩ = some va ∧ W1.cell? ⟨Db, 1, none⟩ = some vb ∧ (∀ i, W1.frozen? ⟨Db, i, none⟩ = false) ∧ Db < W1.heap.size := by
  obtain ⟨_, _, h3, h4, h5, h6⟩ := h.box
  have e := hg.block Db h3 (fun e => hne e.symm)
  exact ⟨(World.cell?_of_block (a := ⟨Db, 0, none⟩) e).trans h4, (World.cell?_of_block (a := ⟨Db, 1, none⟩) e).trans h5, fun i => (World.frozen?_of_block (a := ⟨Db, i, none⟩) e).trans (h6 i), Nat.lt_of_lt_of_le h3 hg.size⟩
theorem DeskH.neA {w W : World} {lab : Nat → Tag} {Db f : Nat} {es : List Ent} {L : List Pr} {xs ys : List Value} {va vb vl : Value} {R : List UInt8} {M T : Nat} (h : DeskH w lab Db f es L xs ys va vb vl R M T W) : va.ownBlock ≠ some Db ∧ vb.ownBlock ≠ some Db := by
  refine ⟨fun e => ?_, fun e => ?_⟩
  · have := h.rowA.2 Db e; rw [h.box.1] at this; simp at this
  · have := h.rowB.2 Db e; rw [h.box.1] at this; simp at this

set_option maxHeartbeats 4000000 in
set_option maxRecDepth 1000000 in
theorem dmade_any (w W : World) (Db N Q M T : Nat) (m : Int) (h : DK w Db N Q M T W) (hN : N ≤ 3) :
    Calls Try.prog 10 #[.pointer (some ⟨Db, 0, none⟩), .int .i64 m] W fun e w' => e = .returned (.bool true) ∧ ∃ N', N' ≤ N + 1 ∧ DK w Db N' Q M T w' := by
  by_cases hm : 1 ≤ m ∧ m ≤ 65535
  · obtain ⟨lab, f, es, L, va, vb, vl, R, hd, hev, hlen, hq⟩ := h
    have HD := hide hd
    have HEV := hide hev
    have HLN := hide hlen
    have HQ := hide hq
    have CA := hide (new_yes W m hm.1 hm.2)
    have CB : Hid (∀ X : World, _) := fun X : World => refNew_yes X m hm.1 hm.2
    clear hd hev hlen hq
    go_enter Try.func10, Try.ntmps10
    go_upto_region 6 with (first
      | (go_at_call 17; refine CA.out.mono ?_; rintro e w1 ⟨rfl, i1, b1⟩; have I1 := hide i1; have B1 := hide b1; clear i1 b1)
      | (go_at_call 29; refine (CB.out _).mono ?_; rintro e w2 ⟨rfl, r2, b2⟩; have R2 := hide r2; have B2 := hide b2; clear r2 b2))
    obtain ⟨lab2, D2, P2⟩ := HD.out.came B1.out B2.out L.length ⟨W.heap.size, .slice none 0 0, In.new m, w1.heap.size, .slice none 0 0, ⟨m, 0, 0, []⟩⟩ I1.out (fun k hm => hm.elim (fun e => Nat.le_of_eq e.symm) (fun e => by cases e)) ⟨by show 0 < 4; omega, by show 0 ≤ 4294967297; omega, by show 0 ≤ _; omega⟩ hm.2 (by show 0 ≤ _; omega) R2.out (fun k hm => hm.elim (fun e => Nat.le_of_eq e.symm) (fun e => by cases e))
    have HD2 := hide (D2.add P2)
    obtain ⟨_, _, hltD, d0, _, fD⟩ := HD2.out.box
    obtain ⟨aa, ca, hva, _⟩ := row_shape HD2.out.rowA.1
    subst hva
    clear D2 P2
    obtain ⟨xs, hxs⟩ : ∃ xs, xs = pA L := ⟨_, rfl⟩
    obtain ⟨ys, hys⟩ : ∃ ys, ys = pB L := ⟨_, rfl⟩
    have HXY : Hid (xs.length = N ∧ ys.length = N ∧ xs = pA L ∧ ys = pB L) := by
      rw [hxs, hys]
      exact ⟨by simp [pA, HLN.out], by simp [pB, HLN.out], rfl, rfl⟩
    rw [← hxs, ← hys] at HD2
    rw [← hxs] at d0
    rw [HXY.out.1] at d0
    clear hxs hys
    have hs2 : w.heap.size ≤ w2.heap.size := HD2.out.below.size
    obtain ⟨ua, hua⟩ : ∃ ua : Value, ua = .pointer (some ⟨W.heap.size, 0, none⟩) := ⟨_, rfl⟩
    obtain ⟨ub, hub⟩ : ∃ ub : Value, ub = .pointer (some ⟨w1.heap.size, 0, none⟩) := ⟨_, rfl⟩
    have HU := hide (And.intro hua hub)
    have HA : Hid (w2.ownsRow w.heap.size 38 1 (.slice aa N ca) xs.length xs) := by have h1 := HD2.out.rowA.1; rw [HXY.out.1] at h1 ⊢; exact h1
    go_upto_region 7 with (refine wpList_pushA rfl (.tmp 35) (.tmp 37) rfl w.heap.size (.slice aa N ca) xs rfl HA.out (.pointer (some ⟨W.heap.size, 0, none⟩)) _ rfl rfl rfl (by rw [HXY.out.1]; omega) hs2 ?_; intro va' w3 ho hg hv; obtain ⟨aa', ca', hva', _⟩ := row_shape ho; rw [HXY.out.1] at hva'; subst hva'; have PA := hide (And.intro ho (And.intro hg hv)); obtain ⟨q0, _, qf, hlt3⟩ := (HD2.out.later ((Below.refl _ w2).alloc (Nat.le_refl _) (.cells #[.pointer (some ⟨W.heap.size, 0, none⟩)] 38))).boxG hg (by have h1 := HD2.out.neA.1; rw [HXY.out.1] at h1; exact h1); clear ho hg hv)
    have HD2N := HD2.out
    rw [HXY.out.1] at HD2N
    obtain ⟨lab3, D3, _⟩ := (HD2N.later ((Below.refl _ w2).alloc (Nat.le_refl _) (.cells #[.pointer (some ⟨W.heap.size, 0, none⟩)] 38))).pushA PA.out.1 PA.out.2.1 PA.out.2.2
    obtain ⟨w4, hw4⟩ : ∃ w4, w4 = w3.setCell ⟨Db, 0, none⟩ (.slice aa' (N + 1) ca') := ⟨_, rfl⟩
    rw [← hw4] at D3 ⊢
    have HD4 := hide D3
    clear hw4 D3 HD2N PA HA q0 qf hlt3 d0 fD hltD HD2
    obtain ⟨_, _, hltD, _, d1, fD⟩ := HD4.out.box
    obtain ⟨ab, cb, hvb, _⟩ := row_shape HD4.out.rowB.1
    subst hvb
    rw [HXY.out.2.1] at d1
    have hs4 : w.heap.size ≤ w4.heap.size := HD4.out.below.size
    have HBr : Hid (w4.ownsRow w.heap.size 40 1 (.slice ab N cb) ys.length ys) := by have h1 := HD4.out.rowB.1; rw [HXY.out.2.1] at h1 ⊢; exact h1
    go_upto_region 8 with (refine wpList_pushB rfl (.tmp 45) (.tmp 47) rfl w.heap.size (.slice ab N cb) ys rfl HBr.out (.pointer (some ⟨w1.heap.size, 0, none⟩)) _ rfl rfl rfl (by rw [HXY.out.2.1]; omega) hs4 ?_; intro vb' w5 ho hg hv; obtain ⟨ab', cb', hvb', _⟩ := row_shape ho; rw [HXY.out.2.1] at hvb'; subst hvb'; have PB := hide (And.intro ho (And.intro hg hv)); obtain ⟨_, q1, qf, hlt5⟩ := (HD4.out.later ((Below.refl _ w4).alloc (Nat.le_refl _) (.cells #[.pointer (some ⟨w1.heap.size, 0, none⟩)] 40))).boxG hg (by have h1 := HD4.out.neA.2; rw [HXY.out.2.1] at h1; exact h1); clear ho hg hv)
    have HD4N := HD4.out
    rw [HXY.out.2.1] at HD4N
    obtain ⟨lab5, D5, _⟩ := (HD4N.later ((Below.refl _ w4).alloc (Nat.le_refl _) (.cells #[.pointer (some ⟨w1.heap.size, 0, none⟩)] 40))).pushB PB.out.1 PB.out.2.1 PB.out.2.2
    obtain ⟨w6, hw6⟩ : ∃ w6, w6 = w5.setCell ⟨Db, 1, none⟩ (.slice ab' (N + 1) cb') := ⟨_, rfl⟩
    rw [← hw6] at D5 ⊢
    have HD6 := hide D5
    clear hw6 D5 HD4N PB HBr q1 qf hlt5 d1 fD hltD HD4
    go_wp2_with fail
    go_ret
    refine ⟨rfl, N + 1, Nat.le_refl _, lab5, f, es, L ++ [⟨W.heap.size, .slice none 0 0, In.new m, w1.heap.size, .slice none 0 0, ⟨m, 0, 0, []⟩⟩], .slice aa' (N + 1) ca', .slice ab' (N + 1) cb', vl, R, DeskH.shut ?_, fun j q hq => ?_, by simp [HLN.out], HQ.out⟩
    · have h1 := HD6.out
      rw [HXY.out.2.2.1, HXY.out.2.2.2] at h1
      have e1 : pA (L ++ [⟨W.heap.size, .slice none 0 0, In.new m, w1.heap.size, .slice none 0 0, ⟨m, 0, 0, []⟩⟩]) = pA L ++ [.pointer (some ⟨W.heap.size, 0, none⟩)] := by simp [pA]
      have e2 : pB (L ++ [⟨W.heap.size, .slice none 0 0, In.new m, w1.heap.size, .slice none 0 0, ⟨m, 0, 0, []⟩⟩]) = pB L ++ [.pointer (some ⟨w1.heap.size, 0, none⟩)] := by simp [pB]
      rw [e1, e2]
      exact h1
    · by_cases hj : j < L.length
      · rw [List.getElem?_append_left hj] at hq
        exact HEV.out j q hq
      · rw [List.getElem?_append_right (by omega)] at hq
        have hm := List.mem_of_getElem? hq
        have h9 := List.mem_singleton.1 hm
        rw [h9]
        rfl
  · have hno : m < 1 ∨ 65535 < m := by omega
    have CA := hide (new_no W m hno)
    have CB := hide (refNew_no W m hno)
    have HH := hide h
    clear h hno hm
    go_enter Try.func10, Try.ntmps10
    go_wp2_with (first
      | (go_at_call 17; refine CA.out.mono ?_; rintro e w1 ⟨rfl, hw1⟩; rw [hw1]; clear hw1 w1)
      | (go_at_call 29; refine CB.out.mono ?_; rintro e w1 ⟨rfl, hw1⟩; rw [hw1]; clear hw1 w1))
    go_ret
    exact ⟨rfl, N, Nat.le_succ _, HH.out⟩
end Go.Proofs.Ytcgpfhkndbggiaa
