/-
  The document's intake: again, New, Held, Body, Clone.
-/
import Derived.Test.YtcgpfhkndbggiaaRIn3
import Derived.Deep.RegionHeld3
namespace Go.Proofs.Ytcgpfhkndbggiaa
open Go.RowKit

set_option maxHeartbeats 2000000 in
set_option maxRecDepth 1000000 in
theorem again_any (w : World) (rb : Nat) (v : Value) (t : In) (h : RfAt w rb v t) (hl : t.held.length ≤ 2147483648) :
    Calls Try.prog 45 #[.pointer (some ⟨rb, 0, none⟩)] w fun e w' => e = .returned (.tuple #[]) ∧ WentR w rb v (({ t with held := [] } : In).feed t.held) w' := by
  have HH := hide h
  obtain ⟨n, cr, ed, hbx, how, hlk, hn0, hn1⟩ := h
  obtain ⟨av, cv, hv, his⟩ := how.shape
  subst hv
  obtain ⟨_, _, c2, _, _, _⟩ := hbx.cell
  have f2 := hbx.free 2
  have hlt := hbx.lt
  have kk : Kept (fun q => q = rb) w (w.setCell ⟨rb, 2, none⟩ (.slice none 0 0)) := Kept.setCell _ _ _ _ _ rfl
  have how2 : Own (w.setCell ⟨rb, 2, none⟩ (.slice none 0 0)) 0 (.slice av t.held.length cv) t.held := kk.own how (fun g' hg' e => hbx.apart how (by rw [hg', e]))
  have R2 : Hid (RfAt (w.setCell ⟨rb, 2, none⟩ (.slice none 0 0)) rb (.slice none 0 0) { t with held := [] }) := ⟨n, cr, ed, hbx.setHeld _, Own.nil _ _, hlk, hn0, hn1⟩
  have I2 : Hid (IsBytes (w.setCell ⟨rb, 2, none⟩ (.slice none 0 0)) av cv t.held) := by
    obtain ⟨a2, c2, hv, h2⟩ := how2.shape
    simp only [Value.slice.injEq] at hv
    obtain ⟨rfl, _, rfl⟩ := hv
    exact h2
  have AP : Hid (∀ g o, av = some ⟨g, o, none⟩ → ¬ Mine rb (.slice none 0 0) g) := by
    rintro g o e (rfl | hk)
    · rcases how.2 with ⟨h0, _⟩ | ⟨g', cap, cur, h0, _, hg, _⟩
      · rw [e] at h0
        cases h0
      · simp only [Value.slice.injEq] at h0
        rw [e] at h0
        simp only [Option.some.injEq, Addr.mk.injEq] at h0
        obtain ⟨⟨rfl, _⟩, _⟩ := h0
        unfold RBox at hbx
        rw [hbx] at hg
        simp at hg
    · cases hk
  have KK : Hid (Kept (Mine rb (.slice av t.held.length cv)) w (w.setCell ⟨rb, 2, none⟩ (.slice none 0 0))) := kk.mono (fun q _ e => .inl e)
  clear hbx how how2 hlk his kk
  obtain ⟨ln, hln⟩ : ∃ ln, ln = t.held.length := ⟨_, rfl⟩
  rw [← hln] at c2
  have HLN := hide hln
  clear hln
  go_enter Try.func45, Try.ntmps45
  go_wp2_with (go_at_call 44; rw [HLN.out]; refine (refFeed_any _ rb (.slice none 0 0) { t with held := [] } av cv t.held R2.out I2.out (fun g o e _ => AP.out g o e) (by show ([] : List UInt8).length + _ ≤ _; simp only [List.length_nil]; omega)).mono ?_; rintro e w2 ⟨rfl, g2⟩; have G2 := hide g2; clear g2)
  go_end0
  exact ⟨rfl, WentR.trans KK.out (fun q hq => hq.elim (fun e => .inl (.inl e)) (fun e => by cases e)) G2.out⟩

set_option maxHeartbeats 1000000 in
set_option maxRecDepth 1000000 in
theorem refNew_yes (w : World) (m : Int) (h1 : 1 ≤ m) (h2 : m ≤ 65535) :
    Calls Try.prog 29 #[.int .i64 m] w fun e w' => e = .returned (.tuple #[.pointer (some ⟨w.heap.size, 0, none⟩), .int .i64 0]) ∧ RfAt w' w.heap.size (.slice none 0 0) ⟨m, 0, 0, []⟩ ∧ Below w.heap.size w w' := by
  have t1 : ¬ m < 1 := by omega
  have t2 : ¬ m > 65535 := by omega
  have t3 : ¬ (65535 : Int) < m := by omega
  go_enter Try.func29, Try.ntmps29
  go_wp2
  go_ret2
  refine ⟨rfl, ⟨0, false, false, heap_alloc_last _ _, Own.nil _ _, ⟨fun h => ?_, fun h => ?_, fun h => ?_⟩, by omega, by omega⟩, (Below.refl _ w).alloc (Nat.le_refl _) _⟩
  all_goals cases h
theorem refNew_no (w : World) (m : Int) (h : m < 1 ∨ 65535 < m) :
    Calls Try.prog 29 #[.int .i64 m] w fun e w' => e = .returned (.tuple #[.pointer none, .int .i64 60]) ∧ w' = w := by
  by_cases h1 : m < 1
  · go_enter Try.func29, Try.ntmps29
    go_wp2
    go_ret2
    exact ⟨rfl, rfl⟩
  · have h2 : (65535 : Int) < m := by omega
    go_enter Try.func29, Try.ntmps29
    go_wp2
    go_ret2
    exact ⟨rfl, rfl⟩
theorem refHeld_any (w : World) (rb : Nat) (v : Value) (s : In) (h : RfAt w rb v s) :
    Calls Try.prog 15 #[.pointer (some ⟨rb, 0, none⟩)] w fun e w' => e = .returned (.int .i64 (s.held.length : Int)) ∧ w' = w := by
  obtain ⟨n, cr, ed, hbx, how, _⟩ := h
  obtain ⟨av, cv, hv, _⟩ := how.shape
  subst hv
  obtain ⟨_, _, c2, _, _, _⟩ := hbx.cell
  have hlt := hbx.lt
  go_enter Try.func15, Try.ntmps15
  go_wp2_with fail
  go_ret
  exact ⟨rfl, rfl⟩

set_option maxHeartbeats 2000000 in
set_option maxRecDepth 1000000 in
theorem refBody_any (w : World) (rb : Nat) (v : Value) (s : In) (k : Int) (h : RfAt w rb v s) (hl : s.held.length ≤ 2147483648) (hm : s.most ≤ 65535) :
    Calls Try.prog 31 #[.pointer (some ⟨rb, 0, none⟩), .int .i64 k] w fun e w' => e = .returned (.int .i64 (s.bodyE k)) ∧ WentR w rb v (s.body k) w' := by
  have HH := hide h
  obtain ⟨n, cr, ed, hbx, how, hlk, hn0, hn1⟩ := h
  obtain ⟨c0, c1, c2, c3, c4, c5⟩ := hbx.cell
  have hlt := hbx.lt
  have f1 := hbx.free 1
  have f3 := hbx.free 3
  have HBX := hide hbx
  have HOW := hide how
  by_cases hbad : k < 0 ∨ k > 4294967295 ∨ s.stand ≠ 0
  · have HE : Hid (s.bodyE k = 61 ∧ s.body k = s) := by
      unfold In.bodyE In.body
      rw [if_pos hbad, if_pos hbad]
      exact ⟨rfl, rfl⟩
    have fin : WentR w rb v s w := ⟨v, HH.out, Kept.refl _ _, fun q hq => .inl hq⟩
    have FIN := hide fin
    clear fin hbx how hlk
    by_cases b1 : k < 0
    · have b1b : decide (k < 0) = true := decide_eq_true b1
      clear hbad
      go_enter Try.func31, Try.ntmps31
      go_wp2_with fail
      go_ret
      exact ⟨by rw [HE.out.1]; rfl, by rw [HE.out.2]; exact FIN.out⟩
    · have b1b : decide (k < 0) = false := decide_eq_false b1
      by_cases b2 : k > 4294967295
      · have b2b : decide (k > 4294967295) = true := decide_eq_true b2
        have b2c : decide (4294967295 < k) = true := decide_eq_true b2
        clear hbad
        go_enter Try.func31, Try.ntmps31
        go_wp2_with fail
        go_ret
        exact ⟨by rw [HE.out.1]; rfl, by rw [HE.out.2]; exact FIN.out⟩
      · have b3 : ((s.stand : Int) != 0) = true := by
          have : s.stand ≠ 0 := by omega
          simp only [bne_iff_ne]
          omega
        have b2b : decide (k > 4294967295) = false := decide_eq_false b2
        have b2c : decide (4294967295 < k) = false := decide_eq_false b2
        clear hbad
        go_enter Try.func31, Try.ntmps31
        go_wp2_with fail
        go_ret
        exact ⟨by rw [HE.out.1]; rfl, by rw [HE.out.2]; exact FIN.out⟩
  · have hE : s.bodyE k = 0 := by unfold In.bodyE; rw [if_neg hbad]
    have hB : s.body k = s.turn (if k > s.most then 3 else 2) (k.toNat + 2) := by unfold In.body; rw [if_neg hbad]
    have h0 : s.stand = 0 := by omega
    have q1 : decide (k < 0) = false := decide_eq_false (by omega)
    have q2 : decide (k > 4294967295) = false := decide_eq_false (by omega)
    have q3 : decide (4294967295 < k) = false := decide_eq_false (by omega)
    rw [h0] at c1
    by_cases hk : k ≤ s.most
    · have hT : s.turn 2 (k.toNat + 2) = { s with stand := 2, need := k.toNat + 2 } := by
        unfold In.turn letGo
        rw [if_neg (by decide), if_neg (by decide)]
        simp
      have HE : Hid (s.bodyE k = 0 ∧ s.body k = { s with stand := 2, need := k.toNat + 2 }) := by
        rw [hE, hB, if_neg (by omega), hT]
        exact ⟨rfl, rfl⟩
      have hkb : 0 ≤ k ∧ k ≤ 65535 := by omega
      clear hbad hE hB hT hbx how hlk
      go_enter Try.func31, Try.ntmps31
      go_wp2_with fail
      go_ret
      refine ⟨by rw [HE.out.1]; rfl, ?_⟩
      rw [HE.out.2]
      have kk := (Kept.setCell (fun q => q = rb) w rb 1 (.int .i64 ((2 : Nat) : Int)) rfl).trans (Kept.setCell _ _ rb 3 (.int .i64 k) rfl)
      refine ⟨v, ⟨k, cr, ed, (HBX.out.setMode 2).setN k, kk.own HOW.out (fun g' hg' e => HBX.out.apart HOW.out (by rw [hg', e])), ⟨fun h => ?_, fun _ => ?_, fun h => ?_⟩, by omega, by omega⟩, kk.mono (fun q _ e => .inl e), fun q hq => .inl hq⟩
      · cases h
      · show ((k.toNat + 2 : Nat) : Int) = k + 2
        omega
      · cases h
    · have hkm : ¬ k ≤ s.most := hk
      have HE : Hid (s.bodyE k = 0 ∧ s.body k = ({ ({ s with stand := 3, need := k.toNat + 2 } : In) with held := [] } : In).feed s.held) := by
        rw [hE, hB, if_pos (by omega), turn_fed]
        exact ⟨rfl, rfl⟩
      have hkb : 0 ≤ k ∧ k ≤ 4294967295 := by omega
      have kk := (Kept.setCell (fun q => q = rb) w rb 1 (.int .i64 ((3 : Nat) : Int)) rfl).trans (Kept.setCell _ _ rb 3 (.int .i64 (k + 2)) rfl)
      have R3 : Hid (RfAt ((w.setCell ⟨rb, 1, none⟩ (.int .i64 3)).setCell ⟨rb, 3, none⟩ (.int .i64 (k + 2))) rb v { s with stand := 3, need := k.toNat + 2 }) := by
        refine ⟨k + 2, cr, ed, (HBX.out.setMode 3).setN (k + 2), kk.own HOW.out (fun g' hg' e => HBX.out.apart HOW.out (by rw [hg', e])), ⟨fun h => ?_, fun h => ?_, fun _ => ?_⟩, by omega, by omega⟩
        · cases h
        · cases h
        · show ((k.toNat + 2 : Nat) : Int) = k + 2
          omega
      have KK := hide kk
      clear hbad hE hB hbx how hlk kk
      go_enter Try.func31, Try.ntmps31
      go_wp2_with (go_at_call 45; refine (again_any _ rb v _ R3.out hl).mono ?_; rintro e w2 ⟨rfl, g2⟩; have G2 := hide g2; clear g2)
      go_ret
      refine ⟨by rw [HE.out.1]; rfl, ?_⟩
      rw [HE.out.2]
      exact WentR.trans (KK.out.mono (fun q _ e => .inl e)) (fun q hq => .inl hq) G2.out
end Go.Proofs.Ytcgpfhkndbggiaa
