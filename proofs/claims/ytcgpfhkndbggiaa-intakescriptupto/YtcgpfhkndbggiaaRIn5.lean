/-
  The document's intake: Next.
-/
import Derived.Test.YtcgpfhkndbggiaaRIn4
import Derived.Test.YtcgpfhkndbggiaaLine
namespace Go.Proofs.Ytcgpfhkndbggiaa
open Go.RowKit

theorem results_ct_row {P : Program} {fn : Func} {p u : Tmp} {ty : TypeId} (h : fn.results = #[.cell p ty, .tmp u]) (tmps : Array Value) (w : World) (g : Nat) (t : TypeId) (cs : Array Value) (fr : Nat × Nat) (d : TypeDesc)
    (hp : tmps.getD p undef = .pointer (some ⟨g, 0, none⟩)) (hg : w.heap[g]? = some (.cells cs t fr)) (hu : P.underlying ty = some d) (hd : (match d with | .struct _ | .array _ _ => true | _ => false) = true) (hi : (P.info? ty).map (·.size) = some cs.size) :
    (results fn tmps).run P w = .ok (.tuple #[.agg cs, tmps.getD u undef]) w := by
  have hp' : tmps[p]?.getD undef = .pointer (some ⟨g, 0, none⟩) := by simpa using hp
  simp only [results, h]
  simp [Result.andThen, hp', asAddr, run_loadVar_row w g t ty cs fr d hg hu hd hi]
/-- What the document's Next leaves. -/
def RNext (w : World) (rb : Nat) (v : Value) (s : In) (e : Ending) (w' : World) : Prop :=
  ∃ ab nb cb, e = .returned (.tuple #[itemV s.next.1.kind s.next.1.text (.slice ab nb cb), .bool (s.next.1.kind != 0)]) ∧ (nb = s.next.1.body.length ∧ IsBytes w' ab cb s.next.1.body ∧ ∀ g o, ab = some ⟨g, o, none⟩ → w.heap.size ≤ g) ∧ WentR w rb v s.next.2 w'
/-- The three stores of an item, then the return. -/
theorem three_set {w1 : World} {qb : Nat} {x0 x1 x2 : Value} (hq : w1.heap[qb]? = some (.cells #[x0, x1, x2] 54 (0, 0))) (a b c : Value) :
    (((w1.setCell ⟨qb, 0, none⟩ a).setCell ⟨qb, 1, none⟩ b).setCell ⟨qb, 2, none⟩ c).heap[qb]? = some (.cells #[a, b, c] 54 (0, 0)) ∧ Kept (fun k => k = qb) w1 (((w1.setCell ⟨qb, 0, none⟩ a).setCell ⟨qb, 1, none⟩ b).setCell ⟨qb, 2, none⟩ c) := by
  have q1 := (set_cells hq 0 a).1
  have q2 := (set_cells q1 1 b).1
  have q3 := (set_cells q2 2 c).1
  exact ⟨q3, ((Kept.setCell (fun k => k = qb) w1 qb 0 a rfl).trans (Kept.setCell _ _ qb 1 b rfl)).trans (Kept.setCell _ _ qb 2 c rfl)⟩
theorem item_at {W : World} {qb : Nat} {x0 x1 x2 : Value} (hq : W.heap[qb]? = some (.cells #[x0, x1, x2] 54 (0, 0))) : W.cell? ⟨qb, 0, none⟩ = some x0 ∧ W.cell? ⟨qb, 1, none⟩ = some x1 ∧ W.cell? ⟨qb, 2, none⟩ = some x2 ∧ ∀ i, W.frozen? ⟨qb, i, none⟩ = false := by
  simp [World.cell?, World.frozen?, hq]

theorem RfAt.item {W : World} {rb qb : Nat} {v : Value} {s : In} {cs : Array Value} (h : RfAt W rb v s) (hq : W.heap[qb]? = some (.cells cs 54 (0, 0))) : ∀ k, Mine rb v k → k ≠ qb := by
  obtain ⟨n, cr, ed, hb, ho, _⟩ := h
  rintro k (rfl | hk) rfl
  · unfold RBox at hb
    rw [hb] at hq
    simp at hq
  · rcases ho.2 with ⟨rfl, _⟩ | ⟨g', cap, cur, rfl, _, hg, _⟩
    · cases hk
    · simp only [Value.ownBlock, Option.some.injEq] at hk
      subst hk
      rw [hg] at hq
      simp at hq
/-- What stands behind the stores of an item. -/
theorem rnext_fin {w W1 : World} {rb qb : Nat} {v v1 : Value} {s2 : In} {cs : Array Value} {body : List UInt8} {ab : Option Addr} {cb : Nat} (h : RfAt W1 rb v1 s2) (hk : Kept (Mine rb v) w W1) (hm : ∀ q, Mine rb v1 q → Mine rb v q ∨ w.heap.size ≤ q)
    (hq : W1.heap[qb]? = some (.cells cs 54 (0, 0))) (hqw : w.heap.size ≤ qb) (hb : IsBytes W1 ab cb body) (hbq : ∀ g o, ab = some ⟨g, o, none⟩ → g ≠ qb) {W2 : World} (k2 : Kept (fun k => k = qb) W1 W2) : IsBytes W2 ab cb body ∧ WentR w rb v s2 W2 := by
  refine ⟨?_, v1, h.kept k2 (fun k hk => h.item hq k hk), hk.step k2 (fun q hq e => by omega), hm⟩
  obtain ⟨h1, h2, h3⟩ := hb
  refine ⟨h1, h2, ?_⟩
  rcases h3 with h3 | ⟨g, o, rfl, hg, hc⟩
  · exact .inl h3
  · exact .inr ⟨g, o, rfl, Nat.lt_of_lt_of_le hg k2.size, fun j x hj => (World.cell?_of_block (k2.block g hg (hbq g o rfl))).trans (hc j x hj)⟩
theorem suffix_two {l : List UInt8} {N : Nat} {x y : UInt8} (hl : l.length = N + 2) (hx : l[N]? = some x) (hy : l[N + 1]? = some y) : Lib.hasSuffix l [13, 10] = decide (x = 13 ∧ y = 10) := by
  have e : l = l.take N ++ [x, y] := by
    apply List.ext_getElem?
    intro i
    rcases Nat.lt_or_ge i N with h | h
    · rw [List.getElem?_append_left (by simp; omega), List.getElem?_take_of_lt h]
    · rw [List.getElem?_append_right (by simp; omega), show (l.take N).length = N by simp; omega]
      rcases Nat.lt_or_ge i (N + 1) with h2 | h2
      · obtain rfl : i = N := by omega
        rw [hx]; simp
      · rcases Nat.lt_or_ge i (N + 2) with h3 | h3
        · obtain rfl : i = N + 1 := by omega
          rw [hy, show N + 1 - N = 1 by omega]; rfl
        · rw [List.getElem?_eq_none (by omega), List.getElem?_eq_none (by simp; omega)]
  unfold Lib.hasSuffix
  rw [Bool.eq_iff_iff, List.isSuffixOf_iff_suffix, decide_eq_true_iff]
  constructor
  · rintro ⟨p, hp⟩
    rw [e] at hp
    have := List.append_inj' hp rfl
    simp only [List.cons.injEq, and_true] at this
    exact ⟨this.2.1.symm, this.2.2.symm⟩
  · rintro ⟨rfl, rfl⟩
    exact ⟨l.take N, e.symm⟩
theorem none_bytes (w : World) : IsBytes w none 0 [] := ⟨by simp, by unfold maxLen; omega, .inl rfl⟩

set_option maxHeartbeats 4000000 in
set_option maxRecDepth 1000000 in
theorem refNext_any (w : World) (rb : Nat) (v : Value) (s : In) (h : RfAt w rb v s) (hs : s.stand < 4) (hl : s.held.length ≤ 2147483648) :
    Calls Try.prog 34 #[.pointer (some ⟨rb, 0, none⟩)] w (RNext w rb v s) := by
  obtain ⟨w0, hw0⟩ : ∃ w0, w0 = w.alloc (.cells #[.int .i64 0, .string ⟨#[]⟩, .slice none 0 0] 54) := ⟨_, rfl⟩
  obtain ⟨qb, hqb⟩ : ∃ qb, qb = w.heap.size := ⟨_, rfl⟩
  have B0 : Hid (Below w.heap.size w w0) := by rw [hw0]; exact (Below.refl _ w).alloc (Nat.le_refl _) _
  have Q0 : Hid (w0.heap[qb]? = some (.cells #[.int .i64 0, .string ⟨#[]⟩, .slice none 0 0] 54 (0, 0)) ∧ w.heap.size ≤ qb) := by rw [hw0, hqb]; exact ⟨heap_alloc_last _ _, Nat.le_refl _⟩
  have H0 : Hid (RfAt w0 rb v s) := h.below B0.out
  have HW0 := hide (And.intro hw0 hqb)
  have hrb : rb < w.heap.size := h.lt rb (.inl rfl)
  have hne : rb ≠ qb := by omega
  have MQ : Hid (∀ k, Mine rb v k → k < w.heap.size) := h.lt
  obtain ⟨n, cr, ed, hbx, how, hlk, hn0, hn1⟩ := H0.out
  have HBX := hide hbx
  have HOW := hide how
  have HLK := hide hlk
  obtain ⟨av, cv, hv, his⟩ := how.shape
  have HIS := hide his
  obtain ⟨c0, c1, c2, c3, c4, c5⟩ := hbx.cell
  have hlt := hbx.lt
  have f1 := hbx.free 1
  have f4 := hbx.free 4
  have f5 := hbx.free 5
  have HV := hide hv
  clear hw0 hqb h hbx how hlk his hv
  obtain ⟨z0, z1, z2, fz⟩ := item_at Q0.out.1
  have hltq := cell_lt z0
  by_cases h0 : s.stand = 0
  · rw [h0] at c1
    rw [HV.out] at c2
    have ce := refEnd_any w0 av cv s.held HIS.out
    cases hf : find s.window with
    | some k =>
      have hroom := find_room hf
      have hwl : s.window.length ≤ s.held.length := by unfold In.window; rw [List.length_take]; omega
      have hlen : k + 2 ≤ s.held.length := by omega
      have hev : endV s.held = (k : Int) := by
        unfold endV
        rw [show s.held.take 224 = s.window from rfl, hf]
        rfl
      rw [hev] at ce
      have CE := hide ce
      have hN : Hid (s.next = (⟨1, s.held.take k, []⟩, { s with held := s.held.drop (k + 2) })) := by
        show _ = _
        unfold In.next
        rw [if_neg (by unfold In.tooLong; rw [hf]; simp)]
        unfold In.tell
        rw [if_pos h0]
        unfold In.tellLine
        rw [hf]
      have hk0 : (0 : Int) ≤ (k : Int) := by omega
      have TK := takes_any w0 rb s.most s.stand v n cr ed s.held (k + 2) HBX.out HOW.out hlen (by omega) (by omega)
      rw [show ((k + 2 : Nat) : Int) = (k : Int) + 2 by omega] at TK
      have HTK := hide TK
      have HXY : Hid ((s.held.take (k + 2)).length = k + 2) := by show _ = _; rw [List.length_take]; omega
      clear ce hev hf hroom hwl TK
      go_enter Try.func34, Try.ntmps34
      go_upto_region 1 with fail
      rw [← HW0.out.1, ← HW0.out.2]
      clear HW0
      go_upto_region 5 with (first
        | (go_at_call 47; refine CE.out.mono ?_; rintro e w1 ⟨rfl, hw1⟩; rw [hw1]; clear hw1 w1)
        | (go_at_call 48; refine HTK.out.mono ?_; rintro e w2 ⟨ao, co, rfl, o2, v2, x2, p2, k2, m2⟩; have O2 := hide o2; have X2 := hide x2; have P2 := hide (And.intro p2 (And.intro k2 m2)); clear o2 x2 p2 k2 m2))
      have R2 : Hid (RfAt w2 rb v2 { s with held := s.held.drop (k + 2) }) := by
        refine ⟨n, cr, ed, X2.out, P2.out.1, ⟨fun h => ?_, fun h => ?_, fun h => ?_⟩, hn0, hn1⟩
        · have : s.stand = 1 := h; omega
        · have : s.stand = 2 := h; omega
        · have : s.stand = 3 := h; omega
      have Q2 : Hid (w2.heap[qb]? = some (.cells #[.int .i64 0, .string ⟨#[]⟩, .slice none 0 0] 54 (0, 0))) := (P2.out.2.1.block qb hltq (fun e => hne e.symm)).trans Q0.out.1
      have K2 : Hid (Kept (Mine rb v) w w2) := (Kept.ofBelow B0.out : Kept (Mine rb v) w w0).step P2.out.2.1 (fun q _ e => .inl e)
      have M2 : Hid (∀ q, Mine rb v2 q → Mine rb v q ∨ w.heap.size ≤ q) := by
        rintro q (e | e)
        · exact .inl (.inl e)
        · exact .inr (Nat.le_trans B0.out.size (P2.out.2.2 q e))
      obtain ⟨a9, c9, hv9, i9⟩ := O2.out.shape
      rw [HXY.out] at hv9
      simp only [Value.slice.injEq] at hv9
      obtain ⟨rfl, _, rfl⟩ := hv9
      have hcc : k + 2 ≤ co := by have := i9.1; rw [HXY.out] at this; exact this
      have hcom : co ≤ 9223372036854775807 := by have := i9.2.1; unfold maxLen at this; omega
      have i10 := i9.cutTo k
      rw [List.take_take, show min k (k + 2) = k by omega] at i10
      have hcv := conv_is i10 (show (s.held.take k).length = k by rw [List.length_take]; omega)
      have j3 : (k : Int) ≤ (co : Int) := by omega
      have j4 : (k : Int) ≤ (k : Int) + 2 := by omega
      obtain ⟨y0, y1, y2, fy⟩ := item_at Q2.out
      have hlty := cell_lt y0
      clear i9 i10 z0 z1 z2 fz hltq c0 c1 c2 c3 c4 c5 f1 f4 f5 hlt
      go_wp2_with fail
      obtain ⟨q1, k1⟩ := three_set Q2.out (.int .i64 1) (.string ⟨(s.held.take k).toArray⟩) (.slice none 0 0)
      refine bodyPost_ret (results_ct_row rfl _ _ qb 54 _ (0, 0) _ rfl q1 Try.underlying54 rfl (by kernel_rfl)) rfl ?_
      obtain ⟨b1, w1⟩ := rnext_fin (v := v) (ab := none) (cb := 0) R2.out K2.out M2.out Q2.out Q0.out.2 (none_bytes _) (fun g o e => by cases e) k1
      unfold RNext
      rw [hN.out]
      exact ⟨none, 0, 0, rfl, ⟨rfl, b1, fun g o e => by cases e⟩, w1⟩
    | none =>
      have hev : endV s.held = -1 := by
        unfold endV
        rw [show s.held.take 224 = s.window from rfl, hf]
        rfl
      rw [hev] at ce
      have CE := hide ce
      by_cases hsh : s.held.length < 224
      · have hN : Hid (s.next = (⟨0, [], []⟩, s)) := by
          show _ = _
          unfold In.next
          rw [if_neg (by unfold In.tooLong; simp; omega)]
          unfold In.tell
          rw [if_pos h0]
          unfold In.tellLine
          rw [hf]
          rfl
        have hsi : (s.held.length : Int) < 224 := by omega
        clear ce hev hf
        go_enter Try.func34, Try.ntmps34
        go_upto_region 1 with fail
        rw [← HW0.out.1, ← HW0.out.2]
        clear HW0
        go_wp2_with (go_at_call 47; refine CE.out.mono ?_; rintro e w1 ⟨rfl, hw1⟩; rw [hw1]; clear hw1 w1)
        obtain ⟨q1, k1⟩ := three_set Q0.out.1 (.int .i64 0) (.string ⟨#[]⟩) (.slice none 0 0)
        refine bodyPost_ret (results_ct_row rfl _ _ qb 54 _ (0, 0) _ rfl q1 Try.underlying54 rfl (by kernel_rfl)) rfl ?_
        obtain ⟨b1, w1⟩ := rnext_fin (v := v) (ab := none) (cb := 0) H0.out (Kept.ofBelow B0.out : Kept (Mine rb v) w _) (fun q hq => .inl hq) Q0.out.1 Q0.out.2 (none_bytes _) (fun g o e => by cases e) k1
        unfold RNext
        rw [hN.out]
        exact ⟨none, 0, 0, rfl, ⟨rfl, b1, fun g o e => by cases e⟩, w1⟩
      · have hsi : ¬ (s.held.length : Int) < 224 := by omega
        have HNX : Hid (s.next = (s.turn 1 2).tellLoss 2) := by
          show _ = _
          unfold In.next
          rw [if_pos ⟨h0, by unfold In.tooLong; rw [hf]; simp; omega⟩]
          unfold In.tell
          rw [if_neg (by show ¬ (1 : Nat) = 0; omega), if_pos (show (s.turn 1 2).stand = 1 from rfl)]
        have HTU := hide (turn_fed s 1 2)
        have k3 := ((Kept.setCell (fun q => q = rb) w0 rb 1 (.int .i64 ((1 : Nat) : Int)) rfl).trans (Kept.setCell _ _ rb 4 (.bool false) rfl)).trans (Kept.setCell _ _ rb 5 (.bool false) rfl)
        have R3 : Hid (RfAt (((w0.setCell ⟨rb, 1, none⟩ (.int .i64 1)).setCell ⟨rb, 4, none⟩ (.bool false)).setCell ⟨rb, 5, none⟩ (.bool false)) rb v { s with stand := 1, need := 2 }) := by
          refine ⟨n, false, false, ((HBX.out.setMode 1).setCr false).setEd false, k3.own HOW.out (fun g' hg' e => HBX.out.apart HOW.out (by rw [hg', e])), ⟨fun _ => rfl, fun h => ?_, fun h => ?_⟩, hn0, hn1⟩
          all_goals cases h
        have q3 : (((w0.setCell ⟨rb, 1, none⟩ (.int .i64 1)).setCell ⟨rb, 4, none⟩ (.bool false)).setCell ⟨rb, 5, none⟩ (.bool false)).heap[qb]? = some (.cells #[.int .i64 0, .string ⟨#[]⟩, .slice none 0 0] 54 (0, 0)) := (k3.block qb hltq (fun e => hne e.symm)).trans Q0.out.1
        have Q3 := hide q3
        have K3 : Hid (Kept (Mine rb v) w (((w0.setCell ⟨rb, 1, none⟩ (.int .i64 1)).setCell ⟨rb, 4, none⟩ (.bool false)).setCell ⟨rb, 5, none⟩ (.bool false))) := (Kept.ofBelow B0.out : Kept (Mine rb v) w w0).step k3 (fun q _ e => .inl e)
        clear ce hev hf k3 q3
        go_enter Try.func34, Try.ntmps34
        go_upto_region 1 with fail
        rw [← HW0.out.1, ← HW0.out.2]
        clear HW0
        go_upto_region 12 with (first
          | (go_at_call 47; refine CE.out.mono ?_; rintro e w1 ⟨rfl, hw1⟩; rw [hw1]; clear hw1 w1)
          | (go_at_call 45; refine (again_any _ rb v _ R3.out hl).mono ?_; rintro e w2 ⟨rfl, g2⟩; have G2 := hide g2; clear g2))
        obtain ⟨v4, r4, k4, m4⟩ := G2.out
        have e4 : ({ ({ s with stand := 1, need := 2 } : In) with held := [] } : In).feed s.held = s.turn 1 2 := HTU.out.symm
        have r5 : RfAt w2 rb v4 (s.turn 1 2) := e4 ▸ r4
        have K4 : Hid (Kept (Mine rb v) w w2) := K3.out.trans k4
        have M4 : Hid (∀ q, Mine rb v4 q → Mine rb v q ∨ w.heap.size ≤ q) := fun q hq => (m4 q hq).imp id (fun h => Nat.le_trans K3.out.size h)
        have Q4 : Hid (w2.heap[qb]? = some (.cells #[.int .i64 0, .string ⟨#[]⟩, .slice none 0 0] 54 (0, 0))) := (k4.block qb (Array.getElem?_eq_some_iff.1 Q3.out).1 (fun hm => by have := MQ.out qb hm; have := Q0.out.2; omega)).trans Q3.out
        have R5 := hide r5
        obtain ⟨n5, cr5, ed5, x5, o5, l5, a5, b5⟩ := r5
        have X5 : Hid (RBox w2 rb (s.turn 1 2).most 1 v4 n5 cr5 ed5) := x5
        have O5 := hide o5
        have hnd := l5.1 rfl
        obtain ⟨_, g1, _, _, _, g5⟩ := X5.out.cell
        have ff1 := X5.out.free 1
        have hlt5 := X5.out.lt
        obtain ⟨y0, y1, y2, fy⟩ := item_at Q4.out
        have hlty := cell_lt y0
        clear r4 k4 m4 e4 x5 o5 l5 z0 z1 z2 fz hltq c0 c1 c2 c3 c4 c5 f1 f4 f5 hlt G2 R3 Q3 K3
        cases ed5 with
        | true =>
          have hN : Hid (s.next = (⟨2, [], []⟩, { s.turn 1 2 with stand := 0 })) := by
            show _ = _
            rw [HNX.out]
            unfold In.tellLoss
            rw [if_neg (by rw [hnd]; simp)]
          have kk := Kept.setCell (fun q => q = rb) w2 rb 1 (.int .i64 ((0 : Nat) : Int)) rfl
          have R6 : Hid (RfAt (w2.setCell ⟨rb, 1, none⟩ (.int .i64 0)) rb v4 { s.turn 1 2 with stand := 0 }) := by
            refine ⟨n5, cr5, true, X5.out.setMode 0, kk.own O5.out (fun g' hg' e => X5.out.apart O5.out (by rw [hg', e])), ⟨fun h => ?_, fun h => ?_, fun h => ?_⟩, a5, b5⟩
            all_goals cases h
          have K6 : Hid (Kept (Mine rb v) w (w2.setCell ⟨rb, 1, none⟩ (.int .i64 0))) := K4.out.step kk (fun q _ e => .inl e)
          have Q6 : Hid ((w2.setCell ⟨rb, 1, none⟩ (.int .i64 0)).heap[qb]? = some (.cells #[.int .i64 0, .string ⟨#[]⟩, .slice none 0 0] 54 (0, 0))) := (kk.block qb hlty (fun e => hne e.symm)).trans Q4.out
          clear hnd kk
          go_wp2_with fail
          obtain ⟨q1, k1⟩ := three_set Q6.out (.int .i64 2) (.string ⟨#[]⟩) (.slice none 0 0)
          refine bodyPost_ret (results_ct_row rfl _ _ qb 54 _ (0, 0) _ rfl q1 Try.underlying54 rfl (by kernel_rfl)) rfl ?_
          obtain ⟨b1, w1⟩ := rnext_fin (v := v) (ab := none) (cb := 0) R6.out K6.out M4.out Q6.out Q0.out.2 (none_bytes _) (fun g o e => by cases e) k1
          unfold RNext
          rw [hN.out]
          exact ⟨none, 0, 0, rfl, ⟨rfl, b1, fun g o e => by cases e⟩, w1⟩
        | false =>
          have hN : Hid (s.next = (⟨0, [], []⟩, s.turn 1 2)) := by
            show _ = _
            rw [HNX.out]
            unfold In.tellLoss
            rw [if_pos (by rw [hnd]; cases cr5 <;> simp)]
            rfl
          clear hnd
          go_wp2_with fail
          obtain ⟨q1, k1⟩ := three_set Q4.out (.int .i64 0) (.string ⟨#[]⟩) (.slice none 0 0)
          refine bodyPost_ret (results_ct_row rfl _ _ qb 54 _ (0, 0) _ rfl q1 Try.underlying54 rfl (by kernel_rfl)) rfl ?_
          obtain ⟨b1, w1⟩ := rnext_fin (v := v) (ab := none) (cb := 0) R5.out K4.out M4.out Q4.out Q0.out.2 (none_bytes _) (fun g o e => by cases e) k1
          unfold RNext
          rw [hN.out]
          exact ⟨none, 0, 0, rfl, ⟨rfl, b1, fun g o e => by cases e⟩, w1⟩
  by_cases h1 : s.stand = 1
  · rw [h1] at c1
    have hnx : s.next = s.tellLoss 2 := by
      unfold In.next In.tell
      rw [if_neg (by omega), if_neg (by omega), if_pos h1]
    have hnd := HLK.out.1 h1
    cases ed with
    | true =>
      have hN : Hid (s.next = (⟨2, [], []⟩, { s with stand := 0 })) := by
        show _ = _
        rw [hnx]
        unfold In.tellLoss
        rw [hnd, if_neg (by simp)]
      clear hnx hnd h0 h1
      have kk := Kept.setCell (fun q => q = rb) w0 rb 1 (.int .i64 ((0 : Nat) : Int)) rfl
      have R1 : Hid (RfAt (w0.setCell ⟨rb, 1, none⟩ (.int .i64 0)) rb v { s with stand := 0 }) := by
        refine ⟨n, cr, true, HBX.out.setMode 0, kk.own HOW.out (fun g' hg' e => HBX.out.apart HOW.out (by rw [hg', e])), ⟨fun h => ?_, fun h => ?_, fun h => ?_⟩, hn0, hn1⟩
        all_goals cases h
      have KK : Hid (Kept (Mine rb v) w (w0.setCell ⟨rb, 1, none⟩ (.int .i64 0))) := (Kept.ofBelow B0.out : Kept (Mine rb v) w w0).step kk (fun q _ e => .inl e)
      have Q1 : Hid ((w0.setCell ⟨rb, 1, none⟩ (.int .i64 0)).heap[qb]? = some (.cells #[.int .i64 0, .string ⟨#[]⟩, .slice none 0 0] 54 (0, 0))) := (kk.block qb hltq (fun e => hne e.symm)).trans Q0.out.1
      clear kk
      go_enter Try.func34, Try.ntmps34
      go_upto_region 1 with fail
      rw [← HW0.out.1, ← HW0.out.2]
      clear HW0
      go_wp2_with fail
      obtain ⟨q1, k1⟩ := three_set Q1.out (.int .i64 2) (.string ⟨#[]⟩) (.slice none 0 0)
      refine bodyPost_ret (results_ct_row rfl _ _ qb 54 _ (0, 0) _ rfl q1 Try.underlying54 rfl (by kernel_rfl)) rfl ?_
      obtain ⟨b1, w1⟩ := rnext_fin (v := v) (ab := none) (cb := 0) R1.out KK.out (fun q hq => .inl hq) Q1.out Q0.out.2 (none_bytes _) (fun g o e => by cases e) k1
      unfold RNext
      rw [hN.out]
      exact ⟨none, 0, 0, rfl, ⟨rfl, b1, fun g o e => by cases e⟩, w1⟩
    | false =>
      have hN : Hid (s.next = (⟨0, [], []⟩, s)) := by
        show _ = _
        rw [hnx]
        unfold In.tellLoss
        rw [hnd, if_pos (by cases cr <;> simp)]
        rfl
      clear hnx hnd h0 h1
      go_enter Try.func34, Try.ntmps34
      go_upto_region 1 with fail
      rw [← HW0.out.1, ← HW0.out.2]
      clear HW0
      go_wp2_with fail
      obtain ⟨q1, k1⟩ := three_set Q0.out.1 (.int .i64 0) (.string ⟨#[]⟩) (.slice none 0 0)
      refine bodyPost_ret (results_ct_row rfl _ _ qb 54 _ (0, 0) _ rfl q1 Try.underlying54 rfl (by kernel_rfl)) rfl ?_
      obtain ⟨b1, w1⟩ := rnext_fin (v := v) (ab := none) (cb := 0) H0.out (Kept.ofBelow B0.out : Kept (Mine rb v) w w0) (fun q hq => .inl hq) Q0.out.1 Q0.out.2 (none_bytes _) (fun g o e => by cases e) k1
      unfold RNext
      rw [hN.out]
      exact ⟨none, 0, 0, rfl, ⟨rfl, b1, fun g o e => by cases e⟩, w1⟩
  by_cases h2 : s.stand = 2
  · rw [h2] at c1
    have hnx : s.next = s.tellBody := by
      unfold In.next In.tell
      rw [if_neg (by omega), if_neg (by omega), if_neg (by omega), if_pos h2]
    have hnd := HLK.out.2.1 h2
    obtain ⟨N, hN0⟩ : ∃ N : Nat, n = N := ⟨n.toNat, by omega⟩
    subst hN0
    have hneed : s.need = N + 2 := by omega
    rw [HV.out] at c2
    by_cases hle : s.held.length < s.need
    · have hN : Hid (s.next = (⟨0, [], []⟩, s)) := by
        show _ = _
        rw [hnx]
        unfold In.tellBody
        rw [if_pos hle]
        rfl
      have hge : ¬ (s.held.length : Int) ≥ (N : Int) + 2 := by omega
      have hge2 : ¬ (N : Int) + 2 ≤ (s.held.length : Int) := by omega
      have hgeb : decide ((s.held.length : Int) ≥ (N : Int) + 2) = false := decide_eq_false hge
      have hgec : decide ((N : Int) + 2 ≤ (s.held.length : Int)) = false := decide_eq_false hge2
      have NN : Hid (N + 2 = s.need) := hneed.symm
      clear hnx hnd h0 h1 h2 hle hneed
      go_enter Try.func34, Try.ntmps34
      go_upto_region 1 with fail
      rw [← HW0.out.1, ← HW0.out.2]
      clear HW0
      go_wp2_with fail
      go_quiet (fail)
      have H1 : Hid (RfAt (w0.drewN nq) rb v s) := H0.out
      have B1 : Hid (Below w.heap.size w (w0.drewN nq)) := below_drewN B0.out nq
      have Q1 : Hid ((w0.drewN nq).heap[qb]? = some (.cells #[.int .i64 0, .string ⟨#[]⟩, .slice none 0 0] 54 (0, 0))) := Q0.out.1
      generalize w0.drewN nq = w1 at *
      obtain ⟨y0, y1, y2, fy⟩ := item_at Q1.out
      go_wp2_with fail
      obtain ⟨q1, k1⟩ := three_set Q1.out (.int .i64 0) (.string ⟨#[]⟩) (.slice none 0 0)
      refine bodyPost_ret (results_ct_row rfl _ _ qb 54 _ (0, 0) _ rfl q1 Try.underlying54 rfl (by kernel_rfl)) rfl ?_
      obtain ⟨b1, w1⟩ := rnext_fin (v := v) (ab := none) (cb := 0) H1.out (Kept.ofBelow B1.out : Kept (Mine rb v) w _) (fun q hq => .inl hq) Q1.out Q0.out.2 (none_bytes _) (fun g o e => by cases e) k1
      unfold RNext
      rw [hN.out]
      exact ⟨none, 0, 0, rfl, ⟨rfl, b1, fun g o e => by cases e⟩, w1⟩
    · have hge : (s.held.length : Int) ≥ (N : Int) + 2 := by omega
      have hge2 : (N : Int) + 2 ≤ (s.held.length : Int) := by omega
      have hgeb : decide ((s.held.length : Int) ≥ (N : Int) + 2) = true := decide_eq_true hge
      have hgec : decide ((N : Int) + 2 ≤ (s.held.length : Int)) = true := decide_eq_true hge2
      obtain ⟨x, hx⟩ : ∃ x, s.held[N]? = some x := ⟨_, List.getElem?_eq_getElem (by omega)⟩
      obtain ⟨y, hy⟩ : ∃ y, s.held[N + 1]? = some y := ⟨_, List.getElem?_eq_getElem (by omega)⟩
      have hsf : Lib.hasSuffix (s.held.take (N + 2)) [13, 10] = decide (x = 13 ∧ y = 10) := suffix_two (N := N) (by rw [List.length_take]; omega) (by rw [List.getElem?_take_of_lt (by omega)]; exact hx) (by rw [List.getElem?_take_of_lt (by omega)]; exact hy)
      have HNX : Hid (s.next = (if x = 13 ∧ y = 10 then ⟨3, [], s.held.take N⟩ else ⟨5, [], []⟩, { s with stand := 0, held := s.held.drop (N + 2) })) := by
        show _ = _
        rw [hnx]
        unfold In.tellBody
        rw [if_neg hle, hneed, hsf]
        by_cases hxy : x = 13 ∧ y = 10
        · rw [if_pos (by simpa using hxy), if_pos hxy]; rfl
        · rw [if_neg (by simpa using hxy), if_neg hxy]
      have HXY : Hid ((s.held.take (N + 2))[N]? = some x ∧ (s.held.take (N + 2))[N + 1]? = some y ∧ (s.held.take (N + 2)).length = N + 2) := ⟨by rw [List.getElem?_take_of_lt (by omega)]; exact hx, by rw [List.getElem?_take_of_lt (by omega)]; exact hy, by simp; omega⟩
      have hlen : N + 2 ≤ s.held.length := by omega
      rw [h2] at HBX
      clear hnx hnd h0 h1 h2 hle hneed hx hy hsf
      go_enter Try.func34, Try.ntmps34
      go_upto_region 1 with fail
      rw [← HW0.out.1, ← HW0.out.2]
      clear HW0
      go_wp2_with fail
      go_quiet (fail)
      have B1 : Hid (Below w.heap.size w (w0.drewN nq)) := below_drewN B0.out nq
      have Q1 : Hid ((w0.drewN nq).heap[qb]? = some (.cells #[.int .i64 0, .string ⟨#[]⟩, .slice none 0 0] 54 (0, 0))) := Q0.out.1
      have X1 : Hid (RBox (w0.drewN nq) rb s.most 2 v N cr ed) := HBX.out
      have O1 : Hid (Own (w0.drewN nq) 0 v s.held) := HOW.out
      generalize w0.drewN nq = w1 at *
      have TK := takes_any w1 rb s.most 2 v N cr ed s.held (N + 2) X1.out O1.out hlen (by omega) (by omega)
      rw [show ((N + 2 : Nat) : Int) = (N : Int) + 2 by omega] at TK
      have HTK := hide TK
      obtain ⟨_, _, _, d3, _, _⟩ := X1.out.cell
      have hlt1 := X1.out.lt
      clear TK c0 c1 c2 c3 c4 c5 f1 f4 f5 z0 z1 z2 fz hlt hltq
      go_upto_region 20 with (go_at_call 48; refine HTK.out.mono ?_; rintro e w2 ⟨ao, co, rfl, o2, v2, x2, p2, k2, m2⟩; have O2 := hide o2; have X2 := hide x2; have P2 := hide (And.intro p2 (And.intro k2 m2)); clear o2 x2 p2 k2 m2)
      have k3 := Kept.setCell (fun q => q = rb) w2 rb 1 (.int .i64 ((0 : Nat) : Int)) rfl
      have X3 : Hid (RBox (w2.setCell ⟨rb, 1, none⟩ (.int .i64 0)) rb s.most 0 v2 N cr ed) := X2.out.setMode 0
      have O3 : Own (w2.setCell ⟨rb, 1, none⟩ (.int .i64 0)) w1.heap.size (.slice ao (N + 2) co) (s.held.take (N + 2)) := k3.own O2.out (fun g' hg' e => X2.out.apart (O2.out.mono (Nat.zero_le _)) (by rw [hg', e]))
      have P3 : Own (w2.setCell ⟨rb, 1, none⟩ (.int .i64 0)) 0 v2 (s.held.drop (N + 2)) := k3.own P2.out.1 (fun g' hg' e => X2.out.apart P2.out.1 (by rw [hg', e]))
      have R3 : Hid (RfAt (w2.setCell ⟨rb, 1, none⟩ (.int .i64 0)) rb v2 { s with stand := 0, held := s.held.drop (N + 2) }) := by
        refine ⟨N, cr, ed, X3.out, P3, ⟨fun h => ?_, fun h => ?_, fun h => ?_⟩, by omega, by omega⟩
        all_goals cases h
      have q2 : w2.heap[qb]? = some (.cells #[.int .i64 0, .string ⟨#[]⟩, .slice none 0 0] 54 (0, 0)) := (P2.out.2.1.block qb (Array.getElem?_eq_some_iff.1 Q1.out).1 (fun e => hne e.symm)).trans Q1.out
      have Q3 : Hid ((w2.setCell ⟨rb, 1, none⟩ (.int .i64 0)).heap[qb]? = some (.cells #[.int .i64 0, .string ⟨#[]⟩, .slice none 0 0] 54 (0, 0))) := (k3.block qb (Array.getElem?_eq_some_iff.1 q2).1 (fun e => hne e.symm)).trans q2
      have K3 : Hid (Kept (Mine rb v) w (w2.setCell ⟨rb, 1, none⟩ (.int .i64 0))) := ((Kept.ofBelow B1.out : Kept (Mine rb v) w w1).step P2.out.2.1 (fun q _ e => .inl e)).step k3 (fun q _ e => .inl e)
      have M3 : Hid (∀ q, Mine rb v2 q → Mine rb v q ∨ w.heap.size ≤ q) := by
        rintro q (e | e)
        · exact .inl (.inl e)
        · exact .inr (Nat.le_trans B1.out.size (P2.out.2.2 q e))
      obtain ⟨gb, hgb⟩ : ∃ gb, ao = some ⟨gb, 0, none⟩ := by
        rcases O3.2 with ⟨h0, _⟩ | ⟨g', cap, cur, h0, _⟩
        · simp only [Value.slice.injEq] at h0; omega
        · simp only [Value.slice.injEq] at h0; exact ⟨g', h0.1⟩
      subst hgb
      obtain ⟨a9, c9, hv9, i9⟩ := O3.shape
      rw [HXY.out.2.2] at hv9
      simp only [Value.slice.injEq] at hv9
      obtain ⟨rfl, _, rfl⟩ := hv9
      have I3 : Hid (IsBytes (w2.setCell ⟨rb, 1, none⟩ (.int .i64 0)) (some ⟨gb, 0, none⟩) co (s.held.take (N + 2))) := i9
      have GW : Hid (w.heap.size ≤ gb) := Nat.le_trans B1.out.size (O3.lt gb rfl).1
      have GQ : Hid (gb ≠ qb) := fun e => by
        have h1 := (O3.lt gb rfl).1
        have h2 := (Array.getElem?_eq_some_iff.1 Q1.out).1
        omega
      have hcc : N + 2 ≤ co := by have := i9.1; rw [HXY.out.2.2] at this; exact this
      have cx : (w2.setCell ⟨rb, 1, none⟩ (.int .i64 0)).cell? ⟨gb, N, none⟩ = some (.int .u8 (x.toNat : Int)) := by
        rcases i9.2.2 with h | ⟨b', o', e', _, hc'⟩
        · rw [h] at HXY; have := HXY.out.2.2; simp at this
        · simp only [Option.some.injEq, Addr.mk.injEq] at e'
          obtain ⟨rfl, rfl, _⟩ := e'
          have := hc' N x HXY.out.1
          rwa [Nat.zero_add] at this
      have cy : (w2.setCell ⟨rb, 1, none⟩ (.int .i64 0)).cell? ⟨gb, N + 1, none⟩ = some (.int .u8 (y.toNat : Int)) := by
        rcases i9.2.2 with h | ⟨b', o', e', _, hc'⟩
        · rw [h] at HXY; have := HXY.out.2.2; simp at this
        · simp only [Option.some.injEq, Addr.mk.injEq] at e'
          obtain ⟨rfl, rfl, _⟩ := e'
          have := hc' (N + 1) y HXY.out.2.1
          rwa [Nat.zero_add] at this
      obtain ⟨_, e1, _, _, _, _⟩ := X2.out.cell
      have fe1 := X2.out.free 1
      have hlt2 := X2.out.lt
      clear O3 P3 q2 k3 i9 d3 hlt1
      go_upto_region 21 with fail
      generalize w2.setCell ⟨rb, 1, none⟩ (.int .i64 0) = w3 at *
      obtain ⟨_, _, _, g3, _, _⟩ := X3.out.cell
      have hlt3 := X3.out.lt
      obtain ⟨y0, y1, y2, fy⟩ := item_at Q3.out
      have hgl := cell_lt cx
      clear e1 fe1 hlt2
      have j1 : (N : Int) < (N : Int) + 2 := by omega
      have j2 : (N : Int) + 1 < (N : Int) + 2 := by omega
      have j3 : (N : Int) ≤ (co : Int) := by omega
      have hcom : co ≤ 9223372036854775807 := by have := I3.out.2.1; unfold maxLen at this; omega
      by_cases hx : x = 13
      · subst hx
        by_cases hy : y = 10
        · subst hy
          have hN : Hid (s.next = (⟨3, [], s.held.take N⟩, { s with stand := 0, held := s.held.drop (N + 2) })) := by show _ = _; rw [HNX.out, if_pos ⟨rfl, rfl⟩]
          have I4 : Hid (IsBytes w3 (some ⟨gb, 0, none⟩) co (s.held.take N)) := by
            have := I3.out.cutTo N
            rw [List.take_take, show min N (N + 2) = N by omega] at this
            exact this
          have HTN : Hid (N = (s.held.take N).length) := by show _ = _; rw [List.length_take]; omega
          go_wp2_with fail
          obtain ⟨q1, k1⟩ := three_set Q3.out (.int .i64 3) (.string ⟨#[]⟩) (.slice (some ⟨gb, 0, none⟩) N co)
          refine bodyPost_ret (results_ct_row rfl _ _ qb 54 _ (0, 0) _ rfl q1 Try.underlying54 rfl (by kernel_rfl)) rfl ?_
          obtain ⟨b1, w1⟩ := rnext_fin (v := v) R3.out K3.out M3.out Q3.out Q0.out.2 I4.out (fun g o e => by simp only [Option.some.injEq, Addr.mk.injEq] at e; rw [← e.1]; exact GQ.out) k1
          unfold RNext
          rw [hN.out]
          exact ⟨some ⟨gb, 0, none⟩, N, co, rfl, ⟨HTN.out, b1, fun g o e => by simp only [Option.some.injEq, Addr.mk.injEq] at e; rw [← e.1]; exact GW.out⟩, w1⟩
        · have hyb : ((y.toNat : Int) == 10) = false := by
            have := beq_byte y 10 (by decide)
            rw [show ((10 : Nat) : Int) = 10 from rfl] at this
            rw [this]
            simpa using hy
          have hN : Hid (s.next = (⟨5, [], []⟩, { s with stand := 0, held := s.held.drop (N + 2) })) := by show _ = _; rw [HNX.out, if_neg (fun h => hy h.2)]
          go_wp2_with fail
          obtain ⟨q1, k1⟩ := three_set Q3.out (.int .i64 5) (.string ⟨#[]⟩) (.slice none 0 0)
          refine bodyPost_ret (results_ct_row rfl _ _ qb 54 _ (0, 0) _ rfl q1 Try.underlying54 rfl (by kernel_rfl)) rfl ?_
          obtain ⟨b1, w1⟩ := rnext_fin (v := v) (ab := none) (cb := 0) R3.out K3.out M3.out Q3.out Q0.out.2 (none_bytes _) (fun g o e => by cases e) k1
          unfold RNext
          rw [hN.out]
          exact ⟨none, 0, 0, rfl, ⟨rfl, b1, fun g o e => by cases e⟩, w1⟩
      · have hxb : ((x.toNat : Int) == 13) = false := by
          have := beq_byte x 13 (by decide)
          rw [show ((13 : Nat) : Int) = 13 from rfl] at this
          rw [this]
          simpa using hx
        have hN : Hid (s.next = (⟨5, [], []⟩, { s with stand := 0, held := s.held.drop (N + 2) })) := by show _ = _; rw [HNX.out, if_neg (fun h => hx h.1)]
        go_wp2_with fail
        obtain ⟨q1, k1⟩ := three_set Q3.out (.int .i64 5) (.string ⟨#[]⟩) (.slice none 0 0)
        refine bodyPost_ret (results_ct_row rfl _ _ qb 54 _ (0, 0) _ rfl q1 Try.underlying54 rfl (by kernel_rfl)) rfl ?_
        obtain ⟨b1, w1⟩ := rnext_fin (v := v) (ab := none) (cb := 0) R3.out K3.out M3.out Q3.out Q0.out.2 (none_bytes _) (fun g o e => by cases e) k1
        unfold RNext
        rw [hN.out]
        exact ⟨none, 0, 0, rfl, ⟨rfl, b1, fun g o e => by cases e⟩, w1⟩
  · have h3 : s.stand = 3 := by omega
    rw [h3] at c1
    have hnx : s.next = s.tellLoss 4 := by
      unfold In.next In.tell
      rw [if_neg (by omega), if_neg (by omega), if_neg (by omega), if_neg (by omega)]
    have hnd := HLK.out.2.2 h3
    by_cases hz : n = 0
    · subst hz
      have hN : Hid (s.next = (⟨4, [], []⟩, { s with stand := 0 })) := by
        show _ = _
        rw [hnx]
        unfold In.tellLoss
        rw [if_neg (by omega)]
      clear hnx hnd h0 h1 h2 h3
      have kk := Kept.setCell (fun q => q = rb) w0 rb 1 (.int .i64 ((0 : Nat) : Int)) rfl
      have R1 : Hid (RfAt (w0.setCell ⟨rb, 1, none⟩ (.int .i64 0)) rb v { s with stand := 0 }) := by
        refine ⟨0, cr, ed, HBX.out.setMode 0, kk.own HOW.out (fun g' hg' e => HBX.out.apart HOW.out (by rw [hg', e])), ⟨fun h => ?_, fun h => ?_, fun h => ?_⟩, hn0, hn1⟩
        all_goals cases h
      have KK : Hid (Kept (Mine rb v) w (w0.setCell ⟨rb, 1, none⟩ (.int .i64 0))) := (Kept.ofBelow B0.out : Kept (Mine rb v) w w0).step kk (fun q _ e => .inl e)
      have Q1 : Hid ((w0.setCell ⟨rb, 1, none⟩ (.int .i64 0)).heap[qb]? = some (.cells #[.int .i64 0, .string ⟨#[]⟩, .slice none 0 0] 54 (0, 0))) := (kk.block qb hltq (fun e => hne e.symm)).trans Q0.out.1
      clear kk
      go_enter Try.func34, Try.ntmps34
      go_upto_region 1 with fail
      rw [← HW0.out.1, ← HW0.out.2]
      clear HW0
      go_wp2_with fail
      obtain ⟨q1, k1⟩ := three_set Q1.out (.int .i64 4) (.string ⟨#[]⟩) (.slice none 0 0)
      refine bodyPost_ret (results_ct_row rfl _ _ qb 54 _ (0, 0) _ rfl q1 Try.underlying54 rfl (by kernel_rfl)) rfl ?_
      obtain ⟨b1, w1⟩ := rnext_fin (v := v) (ab := none) (cb := 0) R1.out KK.out (fun q hq => .inl hq) Q1.out Q0.out.2 (none_bytes _) (fun g o e => by cases e) k1
      unfold RNext
      rw [hN.out]
      exact ⟨none, 0, 0, rfl, ⟨rfl, b1, fun g o e => by cases e⟩, w1⟩
    · have hzb : (n == 0) = false := beq_eq_false_iff_ne.2 hz
      have hN : Hid (s.next = (⟨0, [], []⟩, s)) := by
        show _ = _
        rw [hnx]
        unfold In.tellLoss
        rw [if_pos (by omega)]
        rfl
      clear hnx hnd h0 h1 h2 h3 hz
      go_enter Try.func34, Try.ntmps34
      go_upto_region 1 with fail
      rw [← HW0.out.1, ← HW0.out.2]
      clear HW0
      go_wp2_with fail
      obtain ⟨q1, k1⟩ := three_set Q0.out.1 (.int .i64 0) (.string ⟨#[]⟩) (.slice none 0 0)
      refine bodyPost_ret (results_ct_row rfl _ _ qb 54 _ (0, 0) _ rfl q1 Try.underlying54 rfl (by kernel_rfl)) rfl ?_
      obtain ⟨b1, w1⟩ := rnext_fin (v := v) (ab := none) (cb := 0) H0.out (Kept.ofBelow B0.out : Kept (Mine rb v) w w0) (fun q hq => .inl hq) Q0.out.1 Q0.out.2 (none_bytes _) (fun g o e => by cases e) k1
      unfold RNext
      rw [hN.out]
      exact ⟨none, 0, 0, rfl, ⟨rfl, b1, fun g o e => by cases e⟩, w1⟩
end Go.Proofs.Ytcgpfhkndbggiaa
