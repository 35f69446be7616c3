/-
  The walks of Body, Clone, New.
-/
import Derived.Test.YtcgpfhkndbggiaaNext
namespace Go.Proofs.Ytcgpfhkndbggiaa
open Go.RowKit

theorem In.body_no {s : In} {n : Int} (h : n < 0 ∨ n > 4294967295 ∨ s.stand ≠ 0) : s.bodyE n = 61 ∧ s.body n = s := by
  unfold In.bodyE In.body
  rw [if_pos h, if_pos h]
  exact ⟨rfl, rfl⟩
theorem In.body_yes {s : In} {n : Int} (h : ¬ (n < 0 ∨ n > 4294967295 ∨ s.stand ≠ 0)) : s.bodyE n = 0 ∧ s.body n = s.turn (if n > s.most then 3 else 2) (n.toNat + 2) := by
  unfold In.bodyE In.body
  rw [if_neg h, if_neg h]
  exact ⟨rfl, rfl⟩

set_option maxHeartbeats 4000000 in
set_option maxRecDepth 1000000 in
theorem Body_any (w : World) (ib : Nat) (v : Value) (s : In) (n : Int) (h : InAt w ib v s) (hs : s.Fit) (hm : MaxAt w) (h0 : 0 ≠ ib) :
    Calls Try.prog 27 #[.pointer (some ⟨ib, 0, none⟩), .int .i64 n] w fun e w' => e = .returned (.int .i64 (s.bodyE n)) ∧ Went w ib v (s.body n) w' := by
  have k0 : w.cell? ⟨ib, 0, none⟩ = some (.int .i64 s.most) := by obtain ⟨g, came, hb, _⟩ := h; exact hb.cell.1
  have k1 : w.cell? ⟨ib, 1, none⟩ = some (.int .i64 s.stand) := by obtain ⟨g, came, hb, _⟩ := h; exact hb.cell.2.1
  have hlt : ib < w.heap.size := h.lt ib (.inl rfl)
  have HI : Hid (InAt w ib v s) := h
  have HF : Hid s.Fit := hs
  have HM : Hid (MaxAt w) := hm
  clear h hs hm
  by_cases h1 : n < 0
  · have HB : Hid (s.bodyE n = 61 ∧ s.body n = s) := In.body_no (.inl h1)
    go_enter Try.func27, Try.ntmps27
    go_wp2
    go_ret
    exact ⟨by rw [HB.out.1]; rfl, by rw [HB.out.2]; exact ⟨v, HI.out, Kept.refl _ _, fun k h => .inl h⟩⟩
  by_cases h2 : n > 4294967295
  · have HB : Hid (s.bodyE n = 61 ∧ s.body n = s) := In.body_no (.inr (.inl h2))
    go_enter Try.func27, Try.ntmps27
    go_wp2
    go_ret
    exact ⟨by rw [HB.out.1]; rfl, by rw [HB.out.2]; exact ⟨v, HI.out, Kept.refl _ _, fun k h => .inl h⟩⟩
  by_cases h3 : s.stand = 0
  · have HB : Hid (s.bodyE n = 0 ∧ s.body n = s.turn (if n > s.most then 3 else 2) (n.toNat + 2)) := In.body_yes (by omega)
    have e3 : ((s.stand : Int) != 0) = false := by simp [h3]
    have hn2 : ((n.toNat + 2 : Nat) : Int) = n + 2 := by omega
    by_cases h4 : n > s.most
    · have h4' : s.most < n := h4
      rw [if_pos h4] at HB
      clear h4
      go_enter Try.func27, Try.ntmps27
      go_wp2_with fail
      have T := turn_any w ib v s 3 (n.toNat + 2) HI.out HF.out.held (by omega) HM.out h0
      rw [hn2] at T
      refine T.mono ?_
      clear T
      rintro e w1 ⟨rfl, WT⟩
      have HW : Hid (Went w ib v (s.turn 3 (n.toNat + 2)) w1) := WT
      clear WT
      go_wp2
      go_ret
      exact ⟨by rw [HB.out.1]; rfl, by rw [HB.out.2]; exact HW.out⟩
    · have h4' : ¬ s.most < n := h4
      rw [if_neg h4] at HB
      clear h4
      go_enter Try.func27, Try.ntmps27
      go_wp2_with fail
      have T := turn_any w ib v s 2 (n.toNat + 2) HI.out HF.out.held (by omega) HM.out h0
      rw [hn2] at T
      refine T.mono ?_
      clear T
      rintro e w1 ⟨rfl, WT⟩
      have HW : Hid (Went w ib v (s.turn 2 (n.toNat + 2)) w1) := WT
      clear WT
      go_wp2
      go_ret
      exact ⟨by rw [HB.out.1]; rfl, by rw [HB.out.2]; exact HW.out⟩
  · have HB : Hid (s.bodyE n = 61 ∧ s.body n = s) := In.body_no (.inr (.inr h3))
    have e3 : ((s.stand : Int) != 0) = true := by simp; omega
    go_enter Try.func27, Try.ntmps27
    go_wp2
    go_ret
    exact ⟨by rw [HB.out.1]; rfl, by rw [HB.out.2]; exact ⟨v, HI.out, Kept.refl _ _, fun k h => .inl h⟩⟩

/-- A new one. -/
def In.new (m : Int) : In := ⟨m, 0, 0, []⟩
set_option maxHeartbeats 1000000 in
set_option maxRecDepth 1000000 in
theorem new_yes (w : World) (m : Int) (h1 : 1 ≤ m) (h2 : m ≤ 65535) :
    Calls Try.prog 17 #[.int .i64 m] w fun e w' => e = .returned (.tuple #[.pointer (some ⟨w.heap.size, 0, none⟩), .int .i64 0]) ∧ InAt w' w.heap.size (.slice none 0 0) (In.new m) ∧ Below w.heap.size w w' := by
  have t1 : ¬ m < 1 := by omega
  have t2 : ¬ m > 65535 := by omega
  have t3 : ¬ (65535 : Int) < m := by omega
  go_enter Try.func17, Try.ntmps17
  go_wp2
  go_ret2
  exact ⟨rfl, ⟨0, [], heap_alloc_last _ _, Own.nil _ _, Nat.le_refl _, rfl, Nat.zero_le _⟩, (Below.refl _ w).alloc (Nat.le_refl _) _⟩
set_option maxHeartbeats 1000000 in
set_option maxRecDepth 1000000 in
theorem new_no (w : World) (m : Int) (h : m < 1 ∨ 65535 < m) :
    Calls Try.prog 17 #[.int .i64 m] w fun e w' => e = .returned (.tuple #[.pointer none, .int .i64 60]) ∧ w' = w := by
  by_cases h1 : m < 1
  · go_enter Try.func17, Try.ntmps17
    go_wp2
    go_ret2
    exact ⟨rfl, rfl⟩
  · have h2 : (65535 : Int) < m := by omega
    go_enter Try.func17, Try.ntmps17
    go_wp2
    go_ret2
    exact ⟨rfl, rfl⟩

set_option maxHeartbeats 2000000 in
set_option maxRecDepth 1000000 in
theorem Clone_any (w : World) (ib : Nat) (v : Value) (s : In) (h : InAt w ib v s) (hl : s.held.length ≤ 2147483648) :
    Calls Try.prog 28 #[.pointer (some ⟨ib, 0, none⟩)] w fun e w' => ∃ v', e = .returned (.pointer (some ⟨w.heap.size, 0, none⟩)) ∧ InAt w' w.heap.size v' s ∧ (∀ k, Mine w.heap.size v' k → w.heap.size ≤ k) ∧ Below w.heap.size w w' := by
  obtain ⟨g, came, hbox, hown, hg, hheld, hgh⟩ := h
  have hcl : came.length = g + s.held.length := by rw [← hheld]; simp; omega
  obtain ⟨av, cv, rfl, _⟩ := hown.slice
  have hlt := hbox.lt
  obtain ⟨w1, hw1⟩ : ∃ w1, w1 = w.alloc (.cells #[.int .i64 s.most, .int .i64 s.stand, .int .i64 s.need, .slice av came.length cv, .int .i64 g] 76) := ⟨_, rfl⟩
  have B1 : Below w.heap.size w w1 := by rw [hw1]; exact (Below.refl _ w).alloc (Nat.le_refl _) _
  have hs1 : w1.heap.size = w.heap.size + 1 := by rw [hw1]; simp
  have bxn : BoxAt w1 w.heap.size s.most s.stand s.need (.slice av came.length cv) g := by rw [hw1]; exact heap_alloc_last _ _
  have k0 := hbox.cell.1
  have k1 := hbox.cell.2.1
  have k2 := hbox.cell.2.2.1
  have k3 := hbox.cell.2.2.2.1
  have k4 := hbox.cell.2.2.2.2
  have HX1 : Hid (BoxAt w1 ib s.most s.stand s.need (.slice av came.length cv) g) := hbox.below B1 hlt
  have HO1 : Hid (Own w1 0 (.slice av came.length cv) came) := hown.below B1
  have HN1 : Hid (BoxAt w1 w.heap.size s.most s.stand s.need (.slice av came.length cv) g) := bxn
  have HW1 : Hid (w1 = w.alloc (.cells #[.int .i64 s.most, .int .i64 s.stand, .int .i64 s.need, .slice av came.length cv, .int .i64 g] 76)) := hw1
  have HB1 : Hid (Below w.heap.size w w1) := B1
  have HH : Hid (came.drop g = s.held) := hheld
  have HC : Hid (came.length = g + s.held.length ∧ w1.heap.size = w.heap.size + 1) := ⟨hcl, hs1⟩
  clear hbox hown B1 hs1 bxn hw1 hheld hcl
  go_enter Try.func28, Try.ntmps28
  go_wp2_with fail
  rw [← HW1.out]
  refine (held_any w1 ib _ _ _ _ g came HX1.out HO1.out hg).mono ?_
  rintro e w2 ⟨⟨a, c, rfl, hi, _⟩, n2, hW⟩
  rw [HH.out] at hi
  have HL : Hid (came.length - g = s.held.length) := by show came.length - g = _; have := HC.out.1; omega
  rw [HL.out]
  have B2 : Below w1.heap.size w1 w2 := by rw [hW]; exact below_drewN (Below.refl _ w1) n2
  have HI2 : Hid (IsBytes w2 a c s.held) := hi.below B2
  have HB2 : Hid (Below w1.heap.size w1 w2) := B2
  clear hi hW B2
  go_wp2_with fail
  refine (clone_any a c s.held w2 HI2.out (by omega)).mono ?_
  rintro e w3 ⟨v3, rfl, own3, B3⟩
  have hs1 := HC.out.2
  have bx3 : BoxAt w3 w.heap.size s.most s.stand s.need (.slice av came.length cv) g := HN1.out.below (HB2.out.trans (B3.mono HB2.out.size)) (by omega)
  obtain ⟨bx4, K4⟩ := bx3.setCame v3
  obtain ⟨bx5, K5⟩ := bx4.setGone 0
  have hsz2 := HB2.out.size
  have o5 : Own ((w3.setCell ⟨w.heap.size, 3, none⟩ v3).setCell ⟨w.heap.size, 4, none⟩ (.int .i64 ((0 : Nat) : Int))) 0 v3 s.held := ((own3.mono (Nat.zero_le _)).kept K4 (fun k hk e => by have := (own3.old k hk).1; omega)).kept K5 (fun k hk e => by have := (own3.old k hk).1; omega)
  have B5 : Below w.heap.size w ((w3.setCell ⟨w.heap.size, 3, none⟩ v3).setCell ⟨w.heap.size, 4, none⟩ (.int .i64 ((0 : Nat) : Int))) := Below.set (Below.set (HB1.out.trans ((HB2.out.trans (B3.mono HB2.out.size)).mono (by omega))) w.heap.size 3 v3 (Nat.le_refl _)) w.heap.size 4 _ (Nat.le_refl _)
  have HE : Hid (InAt ((w3.setCell ⟨w.heap.size, 3, none⟩ v3).setCell ⟨w.heap.size, 4, none⟩ (.int .i64 ((0 : Nat) : Int))) w.heap.size v3 s ∧ (∀ k, Mine w.heap.size v3 k → w.heap.size ≤ k) ∧ Below w.heap.size w ((w3.setCell ⟨w.heap.size, 3, none⟩ v3).setCell ⟨w.heap.size, 4, none⟩ (.int .i64 ((0 : Nat) : Int)))) :=
    ⟨⟨0, s.held, bx5, o5, Nat.zero_le _, rfl, Nat.zero_le _⟩, fun k hk => by
      rcases hk with rfl | hk
      · exact Nat.le_refl _
      · have := (own3.old k hk).1; omega, B5⟩
  obtain ⟨a3, c3, rfl, _⟩ := own3.slice
  have i3 := bx3.cell.2.2.2.1
  have i4 := bx3.cell.2.2.2.2
  have g3 := bx3.free 3
  have g4 := bx3.free 4
  have hlt3 := bx3.lt
  clear own3 B3 bx3 bx4 K4 bx5 K5 o5 B5 hs1 hsz2 k0 k1 k2 k3 k4
  go_wp2
  go_ret
  exact ⟨_, rfl, HE.out.1, HE.out.2.1, HE.out.2.2⟩
end Go.Proofs.Ytcgpfhkndbggiaa
