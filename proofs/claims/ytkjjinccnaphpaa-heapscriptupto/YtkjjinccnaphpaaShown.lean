/-
  The walk of the statements' head.
-/
import Derived.Test.YtkjjinccnaphpaaRising
import Derived.Test.YtkjjinccnaphpaaCloneT
import Derived.Test.YtkjjinccnaphpaaTopCT
namespace Go.Proofs.Ytkjjinccnaphpaa
open Go.RowKit

set_option maxHeartbeats 1000000 in
set_option maxRecDepth 1000000 in
theorem made0_any (w : World) : Calls Try.prog 6 #[.int .i64 0] w fun e w' => ∃ hb mb, e = .returned (.pointer (some ⟨hb, 0, none⟩)) ∧ HeapAtT w' hb (.slice none 0 0) mb 16 #[] 0 [] ∧ Below w.heap.size w w' ∧ w.heap.size ≤ hb ∧ w.heap.size ≤ mb := by
  go_enter Try.func6, Try.ntmps6
  go_wp2_with fail
  refine (newT _ 16 #[]).mono ?_
  rintro e w1 ⟨hb, mb, rfl, h1, B1, g1, g2⟩
  have H : Hid (HeapAtT w1 hb (.slice none 0 0) mb 16 #[] 0 [] ∧ Below w.heap.size w w1 ∧ w.heap.size ≤ hb ∧ w.heap.size ≤ mb) := ⟨h1, B1, g1, g2⟩
  clear h1 B1 g1 g2
  go_wp2_with fail
  go_ret
  exact ⟨hb, mb, rfl, H.out⟩

theorem thing_not_nil_in (w : World) (d : Nat) (p : Addr) : (Op.equalIn (d + 1) 24 (.pointer (some p)) (.pointer none)).run Try.prog w = .ok false w := by
  simp [Op.equalIn, run_underlying Try.underlying24]
theorem thing_not_nil (w : World) (p : Addr) : (binOp .eql 24 (.pointer (some p)) (.pointer none)).run Try.prog w = .ok (.bool false) w := by
  simp only [binOp]
  simp [show Op.equal 24 (.pointer (some p)) (.pointer none) = Op.equalIn (9999 + 1) 24 (.pointer (some p)) (.pointer none) from rfl, thing_not_nil_in w 9999 p]

theorem two_pushed (n : Nat) : (riseL upB 1 ([((1 : Int), ((5 : Int), (0 : Int)))] ++ [((2 : Int), ((3 : Int), (0 : Int)))]) 1 n).1 = [((2 : Int), ((3 : Int), (0 : Int))), ((1 : Int), ((5 : Int), (0 : Int)))] := rfl

set_option maxHeartbeats 4000000 in
set_option maxRecDepth 1000000 in
theorem shown_any (w : World) : Calls Try.prog 4 #[] w fun e w' => e = .returned (.bool true) ∧ Below w.heap.size w w' := by
  have hnn := fun w p => thing_not_nil w p
  go_enter Try.func4, Try.ntmps4
  go_wp2_with fail
  refine (made0_any _).mono ?_
  rintro e w1 ⟨hb, mb, rfl, h1, B1, g1, g2⟩
  have H1 : Hid (HeapAtT w1 hb (.slice none 0 0) mb 16 #[] 0 []) := h1
  have HB1 : Hid (Below w.heap.size w w1) := B1
  have HM1 : Hid (∀ x, Mine hb (.slice none 0 0) mb x → w.heap.size ≤ x) := fun x hx => by
    rcases hx with rfl | hx | rfl
    · exact g1
    · cases hx
    · exact g2
  clear h1 B1 g1 g2
  go_wp2_with fail
  refine (pushT rising_asks w1 hb mb _ 0 [] (5, 0) 0 H1.out trivial (fun _ _ => trivial) trivial (fun _ _ h => h) (by simp) (by decide) (by decide) (fun r hr => by simp at hr)).mono ?_
  rintro e w2 ⟨rfl, v2, h2, _, k2, m2⟩
  rw [show (riseL upB ([] : List (Int × Int × Int)).length ([] ++ [((0 : Int) + 1, ((5 : Int), (0 : Int)))]) ([] : List (Int × Int × Int)).length 0).1 = [((1 : Int), ((5 : Int), (0 : Int)))] from rfl] at h2
  have H2 : Hid (HeapAtT w2 hb v2 mb 16 #[] 1 [((1 : Int), ((5 : Int), (0 : Int)))]) := h2
  have z1 := HB1.out.size
  have HB2 : Hid (Below w.heap.size w w2) := HB1.out.trans (k2.below z1 (fun y hy hp => by rcases hp with hp | hp; exact absurd (HM1.out y hp) (by omega); exact hp))
  have HM2 : Hid (∀ x, Mine hb v2 mb x → w.heap.size ≤ x) := fun x hx => by
    rcases m2 x hx with h | h
    · exact HM1.out x h
    · omega
  clear h2 k2 m2
  go_wp2_with fail
  refine (pushT rising_asks w2 hb mb _ 1 [((1 : Int), ((5 : Int), (0 : Int)))] (3, 0) 0 H2.out trivial (fun _ _ => trivial) trivial (fun _ _ h => h) (by simp) (by decide) (by decide) (fun r hr => by simp at hr; subst hr; decide)).mono ?_
  rintro e w3 ⟨rfl, v3, h3, _, k3, m3⟩
  have H3 : Hid (HeapAtT w3 hb v3 mb 16 #[] 2 [((2 : Int), ((3 : Int), (0 : Int))), ((1 : Int), ((5 : Int), (0 : Int)))]) := (two_pushed 0) ▸ h3
  have z2 := HB2.out.size
  have HB3 : Hid (Below w.heap.size w w3) := HB2.out.trans (k3.below z2 (fun y hy hp => by rcases hp with hp | hp; exact absurd (HM2.out y hp) (by omega); exact hp))
  clear h3 k3 m3
  go_wp2_with fail
  refine (cloneT w3 hb mb v3 _ _ 2 _ H3.out (by simp)).mono ?_
  rintro e w4 ⟨hc, vc, mc, rfl, _, B4, _⟩
  have H4 : Hid (HeapAtT w4 hb v3 mb 16 #[] 2 [((2 : Int), ((3 : Int), (0 : Int))), ((1 : Int), ((5 : Int), (0 : Int)))]) := H3.out.kept (Kept.ofBelow (P := fun _ => False) B4) (fun _ _ h => h)
  have HB4 : Hid (Below w.heap.size w w4) := HB3.out.trans (B4.mono HB3.out.size)
  clear B4
  go_wp2_with fail
  have HTOP := topT w4 hb mb v3 _ _ 2 _ H4.out
  unfold topOfT valT at HTOP
  refine HTOP.mono ?_
  rintro e w5 ⟨rfl, B5⟩
  have H5 : Hid (HeapAtT w5 hb v3 mb 16 #[] 2 [((2 : Int), ((3 : Int), (0 : Int))), ((1 : Int), ((5 : Int), (0 : Int)))]) := H4.out.kept (Kept.ofBelow (P := fun _ => False) B5) (fun _ _ h => h)
  have HB5 : Hid (Below w.heap.size w w5) := HB4.out.trans (B5.mono HB4.out.size)
  clear B5 HTOP
  go_wp2_with fail
  refine (lenT _ hb mb v3 _ _ 2 _ (H5.out.kept (Kept.ofBelow (P := fun _ => False) ((Below.refl _ w5).alloc (Nat.le_refl _) _)) (fun _ _ h => h))).mono ?_
  rintro e w6 ⟨rfl, hW⟩
  have HB6 : Hid (Below w.heap.size w w6) := by rw [hW]; exact HB5.out.alloc HB5.out.size _
  clear hW
  go_wp2_with fail
  go_ret
  exact ⟨rfl, HB6.out⟩
end Go.Proofs.Ytkjjinccnaphpaa
