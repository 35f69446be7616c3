/-
  An intake in memory, whole; the walks of turn, Feed.
-/
import Derived.Test.YtcgpfhkndbggiaaDrop
import Derived.Test.YtcgpfhkndbggiaaMineK
namespace Go.Proofs.Ytcgpfhkndbggiaa
open Go.RowKit

/-- The intake at ib is as s says; what came stands in v. -/
def InAt (w : World) (ib : Nat) (v : Value) (s : In) : Prop := ∃ g came, BoxAt w ib s.most s.stand s.need v g ∧ Own w 0 v came ∧ g ≤ came.length ∧ came.drop g = s.held ∧ g ≤ s.held.length
/-- A call has left it as s' says. -/
def Went (w : World) (ib : Nat) (v : Value) (s' : In) (w' : World) : Prop := ∃ v', InAt w' ib v' s' ∧ Kept (Mine ib v) w w' ∧ ∀ k, Mine ib v' k → Mine ib v k ∨ w.heap.size ≤ k

theorem InAt.lt {w : World} {ib : Nat} {v : Value} {s : In} (h : InAt w ib v s) : ∀ k, Mine ib v k → k < w.heap.size := by
  obtain ⟨g, came, hb, ho, _⟩ := h
  rintro k (rfl | hk)
  · exact hb.lt
  · exact (ho.old k hk).2
theorem InAt.kept {P : Nat → Prop} {w w' : World} {ib : Nat} {v : Value} {s : In} (h : InAt w ib v s) (hk : Kept P w w') (hP : ∀ k, Mine ib v k → ¬ P k) : InAt w' ib v s := by
  obtain ⟨g, came, hb, ho, rest⟩ := h
  exact ⟨g, came, hb.kept hk (hP ib (.inl rfl)), ho.kept hk (fun k hk => hP k (.inr hk)), rest⟩
theorem InAt.below {w w' : World} {ib : Nat} {v : Value} {s : In} (h : InAt w ib v s) (hb : Below w.heap.size w w') : InAt w' ib v s := h.kept (Kept.ofBelow (P := fun _ => False) hb) (fun _ _ h => h)
theorem Went.kept {w w' : World} {ib : Nat} {v : Value} {s' : In} (h : Went w ib v s' w') : Kept (Mine ib v) w w' := by
  obtain ⟨v', _, h, _⟩ := h
  exact h
theorem Went.trans {w w1 w2 : World} {ib : Nat} {v v1 : Value} {s2 : In} (hk : Kept (Mine ib v) w w1) (hn : ∀ k, Mine ib v1 k → Mine ib v k ∨ w.heap.size ≤ k) (h : Went w1 ib v1 s2 w2) : Went w ib v s2 w2 := by
  obtain ⟨v2, h2, k2, n2⟩ := h
  refine ⟨v2, h2, hk.step k2 (fun j hj h => (hn j h).elim id (fun h => by omega)), fun k h => ?_⟩
  rcases n2 k h with h | h
  · exact hn k h
  · exact .inr (Nat.le_trans hk.size h)

set_option maxHeartbeats 2000000 in
set_option maxRecDepth 1000000 in
theorem turn_any (w : World) (ib : Nat) (v : Value) (s : In) (st nd : Nat) (h : InAt w ib v s) (hl : s.held.length ≤ 2147483648) (hnd : nd ≤ 4294967297) (hm : MaxAt w) (h0 : 0 ≠ ib) :
    Calls Try.prog 38 #[.pointer (some ⟨ib, 0, none⟩), .int .i64 st, .int .i64 nd] w fun e w' => e = .returned (.tuple #[]) ∧ Went w ib v (s.turn st nd) w' := by
  obtain ⟨g, came, hbox, hown, hg, hheld, hgh⟩ := h
  have hcl : came.length = g + s.held.length := by rw [← hheld]; simp; omega
  obtain ⟨bx1, kp1⟩ := hbox.setStand st
  obtain ⟨bx2, kp2⟩ := bx1.setNeed nd
  have kk := kp1.trans kp2
  have ow2 := hown.kept kk (hown.apart hbox)
  have mx2 := hm.kept kk h0
  have k1 : w.cell? ⟨ib, 1, none⟩ = some (.int .i64 s.stand) := hbox.cell.2.1
  have k2 : w.cell? ⟨ib, 2, none⟩ = some (.int .i64 s.need) := hbox.cell.2.2.1
  have f1 : w.frozen? ⟨ib, 1, none⟩ = false := hbox.free 1
  have f2 : w.frozen? ⟨ib, 2, none⟩ = false := hbox.free 2
  have hlt := hbox.lt
  obtain ⟨w2, hw2⟩ : ∃ w2, w2 = (w.setCell ⟨ib, 1, none⟩ (.int .i64 (st : Int))).setCell ⟨ib, 2, none⟩ (.int .i64 (nd : Int)) := ⟨_, rfl⟩
  rw [← hw2] at bx2 kk ow2 mx2
  have hlt2 := bx2.lt
  have HX2 : Hid (BoxAt w2 ib s.most st nd v g) := bx2
  have HO2 : Hid (Own w2 0 v came) := ow2
  have HK2 : Hid (Kept (fun k => k = ib) w w2) := kk
  have HM2 : Hid (MaxAt w2) := mx2
  have HH : Hid (came.drop g = s.held) := hheld
  have HW : Hid (w2 = (w.setCell ⟨ib, 1, none⟩ (.int .i64 (st : Int))).setCell ⟨ib, 2, none⟩ (.int .i64 (nd : Int))) := hw2
  have HV : Hid (∃ a n c, v = .slice a n c) := by obtain ⟨a, c, e, _⟩ := hown.slice; exact ⟨_, _, _, e⟩
  clear hbox hown bx1 bx2 kp1 kp2 kk ow2 mx2 hm hheld hw2
  go_enter Try.func38, Try.ntmps38
  go_wp2_with fail
  rw [← HW.out]
  refine (held_any w2 ib _ st nd v g came HX2.out HO2.out hg).mono ?_
  rintro e w3 ⟨⟨a, c, rfl, hi, _⟩, n3, hW3⟩
  subst hW3
  have HI : Hid (IsBytes (w2.drewN n3) a c s.held) := by rw [← HH.out]; exact hi.below (below_drewN (Below.refl _ w2) n3)
  have HM3 : Hid (MaxAt (w2.drewN n3)) := HM2.out
  clear hi
  go_wp2_with fail
  refine (letGo_any (w2.drewN n3) ib _ st nd v g a c s.held (HX2.out.drew n3) HI.out HV.out hnd (by omega) HM3.out).mono ?_
  rintro e w4 ⟨rfl, bx4, K4⟩
  have hle := letGo_le st nd s.held
  have HX4 : Hid (BoxAt w4 ib s.most st (letGo st nd s.held).2 v g) := bx4
  have HK4 : Hid (Kept (fun k => k = ib) w w4) := (HK2.out.drewN n3).trans K4
  have HO4 : Hid (Own w4 0 v came) := HO2.out.kept ((Kept.refl _ w2).drewN n3 |>.trans K4) (HO2.out.apart HX2.out)
  clear bx4 K4
  go_wp2_with fail
  refine (drop_any w4 ib _ st _ v g came _ HX4.out HO4.out (by omega) (by omega)).mono ?_
  rintro e w5 ⟨rfl, v5, g5, came5, bx5, ow5, hg5, hd5, hh5, K5, hv5⟩
  have hd : came5.drop g5 = (s.turn st nd).held := by
    rw [hd5]
    show _ = s.held.drop (letGo st nd s.held).1
    rw [show s.held.drop (letGo st nd s.held).1 = (came.drop g).drop (letGo st nd s.held).1 by rw [HH.out], List.drop_drop]
  have HE : Hid (Went w ib v (s.turn st nd) w5) := by
    refine ⟨v5, ⟨g5, came5, bx5, ow5, hg5, hd, by rw [← hd]; simpa using hh5⟩, (HK4.out.trans K5).mono (fun k _ e => .inl e), ?_⟩
    rintro k (rfl | hk)
    · exact .inl (.inl rfl)
    · rcases hv5 with rfl | hv5
      · exact .inl (.inr hk)
      · exact .inr (Nat.le_trans HK4.out.size (hv5 k hk))
  clear bx5 ow5 hg5 hd5 hh5 K5 hv5 hd
  go_wp2
  go_end0
  exact ⟨rfl, HE.out⟩
end Go.Proofs.Ytcgpfhkndbggiaa
