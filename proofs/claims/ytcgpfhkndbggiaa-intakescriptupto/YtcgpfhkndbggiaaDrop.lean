/-
  The walks of window, drop.
-/
import Derived.Test.YtcgpfhkndbggiaaSmall
import Derived.Deep.QuietTactic
import Derived.BigQuiet
import Derived.Deep.DeepMust
namespace Go.Proofs.Ytcgpfhkndbggiaa
open Go.RowKit

theorem Kept.drewN {P : Nat → Prop} {w w1 : World} (h : Kept P w w1) (n : Nat) : Kept P w (w1.drewN n) := ⟨h.os, h.tape, h.output, h.size, h.block⟩
theorem BoxAt.drew {w : World} {ib : Nat} {m : Int} {st nd : Nat} {v : Value} {g : Nat} (h : BoxAt w ib m st nd v g) (n : Nat) : BoxAt (w.drewN n) ib m st nd v g := h
theorem Own.drewN {w : World} {B : Nat} {v : Value} {l : List UInt8} (h : Own w B v l) (n : Nat) : Own (w.drewN n) B v l := h

set_option maxHeartbeats 2000000 in
set_option maxRecDepth 1000000 in
theorem window_any (w : World) (ib : Nat) (m : Int) (st nd : Nat) (v : Value) (g : Nat) (came : List UInt8) (hbox : BoxAt w ib m st nd v g) (hown : Own w 0 v came) (hg : g ≤ came.length) (hlen : came.length ≤ 4611686018427387904) :
    Calls Try.prog 52 #[.pointer (some ⟨ib, 0, none⟩)] w fun e w' => (∃ a c, e = .returned (.slice a ((came.drop g).take 224).length c) ∧ IsBytes w a c ((came.drop g).take 224) ∧ (a = none → c = 0)) ∧ ∃ n, w' = w.drewN n := by
  have HX : Hid (BoxAt w ib m st nd v g) := hbox
  have HO : Hid (Own w 0 v came) := hown
  clear hbox hown
  go_enter Try.func52, Try.ntmps52
  go_wp2_with (go_at_call 43; refine (held_any w ib m st nd v g came HX.out HO.out hg).mono ?_; rintro e w1 ⟨⟨a, c, rfl, hi, ha⟩, n1, hW⟩; subst hW; have HI : Hid (IsBytes w a c (came.drop g)) := hi; have HA : Hid (a = none → c = 0) := ha; have hlc : came.length - g ≤ c := by { have := hi.1; simpa using this }; have hcm : c ≤ 9223372036854775807 := by { have := hi.2.1; unfold maxLen at this; omega }; clear hi ha)
  go_wp2_with (go_at_call 14; refine (Held_any _ ib m st nd v g came (HX.out.drew n1) (HO.out.drewN n1) hg hlen).mono ?_; rintro e w2 ⟨rfl, n2, hW⟩; subst hW)
  all_goals go_wp2
  all_goals go_ret
  all_goals
    refine ⟨⟨a, c, ?_, HI.out.take 224, HA.out⟩, _, rfl⟩
    rw [show ((came.drop g).take 224).length = (min ((came.length - g : Nat) : Int) 224).toNat by simp; omega]
    rfl

theorem BoxAt.setGone {w : World} {ib : Nat} {m : Int} {st nd : Nat} {v : Value} {g : Nat} (h : BoxAt w ib m st nd v g) (n : Nat) :
    BoxAt (w.setCell ⟨ib, 4, none⟩ (.int .i64 n)) ib m st nd v n ∧ Kept (fun k => k = ib) w (w.setCell ⟨ib, 4, none⟩ (.int .i64 n)) := by
  obtain ⟨c1, c2⟩ := set_cells h 4 (.int .i64 (n : Int))
  exact ⟨by unfold BoxAt; rw [c1]; simp, Kept.setCell _ w ib 4 _ rfl⟩
theorem BoxAt.setCame {w : World} {ib : Nat} {m : Int} {st nd : Nat} {v : Value} {g : Nat} (h : BoxAt w ib m st nd v g) (v' : Value) :
    BoxAt (w.setCell ⟨ib, 3, none⟩ v') ib m st nd v' g ∧ Kept (fun k => k = ib) w (w.setCell ⟨ib, 3, none⟩ v') := by
  obtain ⟨c1, c2⟩ := set_cells h 3 v'
  exact ⟨by unfold BoxAt; rw [c1]; simp, Kept.setCell _ w ib 3 _ rfl⟩
theorem BoxAt.setStand {w : World} {ib : Nat} {m : Int} {st nd : Nat} {v : Value} {g : Nat} (h : BoxAt w ib m st nd v g) (n : Nat) :
    BoxAt (w.setCell ⟨ib, 1, none⟩ (.int .i64 n)) ib m n nd v g ∧ Kept (fun k => k = ib) w (w.setCell ⟨ib, 1, none⟩ (.int .i64 n)) := by
  obtain ⟨c1, c2⟩ := set_cells h 1 (.int .i64 (n : Int))
  exact ⟨by unfold BoxAt; rw [c1]; simp, Kept.setCell _ w ib 1 _ rfl⟩
/-- Rows of bytes are no intake. -/
theorem Own.apart {w : World} {B ib : Nat} {m : Int} {st nd : Nat} {v u : Value} {g : Nat} {l : List UInt8} (h : Own w B u l) (hb : BoxAt w ib m st nd v g) : ∀ k, u.ownBlock = some k → k ≠ ib := by
  rintro k hk rfl
  rcases h.2 with ⟨rfl, _⟩ | ⟨g', cap, cur, rfl, _, hg, _⟩
  · cases hk
  · cases hk
    unfold BoxAt at hb
    rw [hb] at hg
    simp at hg
theorem Own.kept {P : Nat → Prop} {w w1 : World} {B : Nat} {v : Value} {l : List UInt8} (ho : Own w B v l) (h : Kept P w w1) (hP : ∀ k, v.ownBlock = some k → ¬ P k) : Own w1 B v l := Kept.own h ho hP
theorem Own.old {w : World} {B : Nat} {v : Value} {l : List UInt8} (h : Own w B v l) : ∀ k, v.ownBlock = some k → B ≤ k ∧ k < w.heap.size := by
  intro k hk
  rcases h.2 with ⟨rfl, _⟩ | ⟨g', cap, cur, rfl, hB, hg, _⟩
  · cases hk
  · cases hk
    exact ⟨hB, (Array.getElem?_eq_some_iff.1 hg).1⟩

set_option maxHeartbeats 2000000 in
set_option maxRecDepth 1000000 in
theorem drop_any (w : World) (ib : Nat) (m : Int) (st nd : Nat) (v : Value) (g : Nat) (came : List UInt8) (n : Nat) (hbox : BoxAt w ib m st nd v g) (hown : Own w 0 v came) (hg : g + n ≤ came.length) (hlen : came.length ≤ 140737488355328) :
    Calls Try.prog 53 #[.pointer (some ⟨ib, 0, none⟩), .int .i64 n] w fun e w' => e = .returned (.tuple #[]) ∧
      ∃ v' g' came', BoxAt w' ib m st nd v' g' ∧ Own w' 0 v' came' ∧ g' ≤ came'.length ∧ came'.drop g' = came.drop (g + n) ∧ g' ≤ came'.length - g' ∧ Kept (fun k => k = ib) w w' ∧ (v' = v ∨ ∀ k, v'.ownBlock = some k → w.heap.size ≤ k) := by
  have k4 : w.cell? ⟨ib, 4, none⟩ = some (.int .i64 g) := hbox.cell.2.2.2.2
  have f4 : w.frozen? ⟨ib, 4, none⟩ = false := hbox.free 4
  have hlt := hbox.lt
  obtain ⟨G, hG⟩ : ∃ G, G = g + n := ⟨_, rfl⟩
  obtain ⟨bx1, kp1⟩ := hbox.setGone G
  obtain ⟨w1, hw1⟩ : ∃ w1, w1 = w.setCell ⟨ib, 4, none⟩ (.int .i64 (G : Int)) := ⟨_, rfl⟩
  rw [← hw1] at bx1 kp1
  have ow1 : Own w1 0 v came := hown.kept kp1 (hown.apart hbox)
  have hwe : w.setCell ⟨ib, 4, none⟩ (.int .i64 ((g : Int) + (n : Int))) = w1 := by rw [hw1, hG]; simp
  have j4 : w1.cell? ⟨ib, 4, none⟩ = some (.int .i64 (G : Int)) := bx1.cell.2.2.2.2
  have hlt1 := bx1.lt
  have hGl : G ≤ came.length := by omega
  have hgG : g ≤ G ∧ n ≤ G := by omega
  have HD : Hid (came.drop (g + n) = came.drop G) := by rw [hG]; rfl
  have HX1 : Hid (BoxAt w1 ib m st nd v G) := bx1
  have HO1 : Hid (Own w1 0 v came) := ow1
  have HK1 : Hid (Kept (fun k => k = ib) w w1) := kp1
  have HW : Hid (w.setCell ⟨ib, 4, none⟩ (.int .i64 ((g : Int) + (n : Int))) = w1) := hwe
  clear hbox hown bx1 kp1 ow1 hw1 hwe hG hg
  by_cases hge : came.length - G ≤ G
  · have hge' : ((came.length - G : Nat) : Int) ≤ (G : Int) := by omega
    go_enter Try.func53, Try.ntmps53
    go_wp2_with fail
    rw [HW.out]
    go_quiet ((go_at_call 14; exact Calls.quiet_of (Held_any _ ib m st nd v G came (HX1.out.drew _) (HO1.out.drewN _) hGl (by omega))))
    go_wp2_with (go_at_call 43; refine (held_any _ ib m st nd v G came (HX1.out.drew _) (HO1.out.drewN _) hGl).mono ?_; rintro e w2 ⟨⟨a, c, rfl, hi, ha⟩, n2, hW⟩; subst hW; have HI : Hid (IsBytes w1 a c (came.drop G)) := hi; clear hi ha)
    go_wp2_with fail
    rw [← List.length_drop]
    refine (clone_any a c (came.drop G) (w1.drewN (nq + n2)) (HI.out.below (below_drewN (Below.refl _ w1) _)) (by simp; omega)).mono ?_
    rintro e w3 ⟨v3, rfl, own3, B3⟩
    have K3 : Kept (fun k => k = ib) w1 w3 := (Kept.ofBelow (below_drewN (Below.refl _ w1) (nq + n2))).trans (Kept.ofBelow B3)
    have bx3 : BoxAt w3 ib m st nd v G := (HX1.out.drew (nq + n2)).below B3 hlt1
    obtain ⟨bx4, K4⟩ := bx3.setCame v3
    obtain ⟨bx5, K5⟩ := bx4.setGone 0
    have hsz : w1.heap.size ≤ w3.heap.size := K3.size
    have o5 : Own ((w3.setCell ⟨ib, 3, none⟩ v3).setCell ⟨ib, 4, none⟩ (.int .i64 ((0 : Nat) : Int))) 0 v3 (came.drop G) := ((own3.mono (Nat.zero_le _)).kept K4 (fun k hk e => by have := (own3.old k hk).1; simp only [World.drewN] at this; omega)).kept K5 (fun k hk e => by have := (own3.old k hk).1; simp only [World.drewN] at this; omega)
    have HE : Hid (BoxAt ((w3.setCell ⟨ib, 3, none⟩ v3).setCell ⟨ib, 4, none⟩ (.int .i64 ((0 : Nat) : Int))) ib m st nd v3 0 ∧ Own ((w3.setCell ⟨ib, 3, none⟩ v3).setCell ⟨ib, 4, none⟩ (.int .i64 ((0 : Nat) : Int))) 0 v3 (came.drop G) ∧ Kept (fun k => k = ib) w1 ((w3.setCell ⟨ib, 3, none⟩ v3).setCell ⟨ib, 4, none⟩ (.int .i64 ((0 : Nat) : Int))) ∧ ∀ k, v3.ownBlock = some k → w1.heap.size ≤ k) := ⟨bx5, o5, (K3.trans K4).trans K5, fun k hk => (own3.old k hk).1⟩
    obtain ⟨a3, c3, rfl, _⟩ := own3.slice
    obtain ⟨av, cv, rfl, _⟩ := HO1.out.slice
    have i3 : w3.cell? ⟨ib, 3, none⟩ = some (.slice av came.length cv) := bx3.cell.2.2.2.1
    have i4 : w3.cell? ⟨ib, 4, none⟩ = some (.int .i64 (G : Int)) := bx3.cell.2.2.2.2
    have g3 : w3.frozen? ⟨ib, 3, none⟩ = false := bx3.free 3
    have g4 : w3.frozen? ⟨ib, 4, none⟩ = false := bx3.free 4
    have hlt3 := bx3.lt
    clear own3 B3 K3 bx3 bx4 K4 bx5 K5 o5 k4 f4 j4
    go_wp2
    go_end0
    have E := HE.out
    rw [List.length_drop] at E
    exact ⟨rfl, _, 0, came.drop G, E.1, E.2.1, Nat.zero_le _, by rw [HD.out]; rfl, Nat.zero_le _, HK1.out.trans E.2.2.1, .inr fun k hk => Nat.le_trans HK1.out.size (E.2.2.2 k hk)⟩
  · have hge' : ¬ ((came.length - G : Nat) : Int) ≤ (G : Int) := by omega
    go_enter Try.func53, Try.ntmps53
    go_wp2_with fail
    rw [HW.out]
    go_quiet ((go_at_call 14; exact Calls.quiet_of (Held_any _ ib m st nd v G came (HX1.out.drew _) (HO1.out.drewN _) hGl (by omega))))
    go_wp2
    go_end0
    exact ⟨rfl, v, G, came, HX1.out, HO1.out, hGl, HD.out.symm, by omega, HK1.out.drewN _, .inl rfl⟩
end Go.Proofs.Ytcgpfhkndbggiaa
