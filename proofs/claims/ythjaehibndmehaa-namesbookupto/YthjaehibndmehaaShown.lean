/-
  The walk of the statements' head.
-/
import Derived.Test.YthjaehibndmehaaFrom
namespace Go.Proofs.Ythjaehibndmehaa
open Go.RowKit
abbrev g0 : Text → Option Int := fun _ => none
abbrev g1 : Text → Option Int := holdG g0 [98]
abbrev g2 : Text → Option Int := holdG g1 [97]
abbrev g3 : Text → Option Int := dropG g2 [98]
theorem e1 : holdE g0 (⟨#[98]⟩ : ByteArray).data.toList = .returned (.tuple #[.int .i64 1, .int .i64 0]) := by kernel_rfl
theorem e2 : holdE g1 (⟨#[97]⟩ : ByteArray).data.toList = .returned (.tuple #[.int .i64 1, .int .i64 0]) := by kernel_rfl
theorem e3 : holdE g2 (⟨#[45]⟩ : ByteArray).data.toList = .returned (.tuple #[.int .i64 0, .int .i64 50]) := by kernel_rfl
theorem e4 : dropE g2 (⟨#[98]⟩ : ByteArray).data.toList = .returned (.tuple #[.int .i64 0, .bool true]) := by kernel_rfl
theorem n1 : holdN g0 0 (⟨#[98]⟩ : ByteArray).data.toList = 1 := by kernel_rfl
theorem n2 : holdN g1 1 (⟨#[97]⟩ : ByteArray).data.toList = 2 := by kernel_rfl
theorem n3 : holdN g2 2 (⟨#[45]⟩ : ByteArray).data.toList = 2 := by kernel_rfl
theorem q3 : holdG g2 (⟨#[45]⟩ : ByteArray).data.toList = g2 := by
  unfold holdG
  rw [show validB (⟨#[45]⟩ : ByteArray).data.toList = false by kernel_rfl]
  rfl
theorem c2 : held g2 (⟨#[98]⟩ : ByteArray).data.toList = 1 := by kernel_rfl
theorem c3 : held g3 (⟨#[97]⟩ : ByteArray).data.toList = 1 := by kernel_rfl
set_option maxHeartbeats 4000000 in
set_option maxRecDepth 1000000 in
theorem shown_any (w : World) : Calls Try.prog 8 #[] w fun e w' => e = .returned (.bool true) ∧ Below w.heap.size w w' := by
  have hnn := fun w p => b_not_nil w p
  go_enter Try.func8, Try.ntmps8
  go_wp2_with fail
  refine (newF w w (Below.refl _ _)).mono ?_
  rintro e w1 ⟨b, mb, rfl, h1⟩
  have H1 : Hid (From w w1 b mb 0 g0) := h1
  clear h1
  go_wp2_with fail
  refine (holdF H1.out _ (by decide) (by decide) (by decide)).mono ?_
  rintro e w2 ⟨he, h2⟩
  rw [e1] at he
  rw [n1] at h2
  subst he
  have H2 : Hid (From w w2 b mb 1 g1) := h2
  clear h2 H1
  go_wp2_with fail
  refine (holdF H2.out _ (by decide) (by decide) (by decide)).mono ?_
  rintro e w3 ⟨he, h3⟩
  rw [e2] at he
  rw [n2] at h3
  subst he
  have H3 : Hid (From w w3 b mb 2 g2) := h3
  clear h3 H2
  go_wp2_with fail
  refine (holdF H3.out _ (by decide) (by decide) (by decide)).mono ?_
  rintro e w4 ⟨he, h4⟩
  rw [e3] at he
  rw [n3, q3] at h4
  subst he
  have H4 : Hid (From w w4 b mb 2 g2) := h4
  clear h4 H3
  go_wp2_with fail
  refine (len_any _ _ _ _ _ H4.out.q).mono ?_
  rintro e w5 ⟨rfl, hW⟩
  have hW := hW.symm
  subst hW
  go_wp2_with fail
  refine (count_any _ _ _ _ _ _ H4.out.q (by decide)).mono ?_
  rintro e w5 ⟨rfl, hW⟩
  have hW := hW.symm
  subst hW
  rw [c2]
  go_wp2_with fail
  refine (dropF H4.out _ (by decide) (by decide) (by decide)).mono ?_
  rintro e w5 ⟨he, h5⟩
  rw [e4] at he
  subst he
  have H5 : Hid (From w w5 b mb _ g3) := h5
  clear h5 H4
  go_wp2_with fail
  refine (clone_any _ _ _ _ _ H5.out.q).mono ?_
  rintro e w6 ⟨b2, mb2, rfl, h6, k6, _, _⟩
  have H6 : Hid (BookAt w6 b2 mb2 (dropN g2 2 [98]) g3) := h6
  have K6 : Hid (Below w.heap.size w w6) := H5.out.below.trans (k6.mono H5.out.below.size)
  clear h6 k6 H5
  go_wp2_with (first
    | (go_at_call 22
       refine (count_any _ _ _ _ _ _ H6.out (by decide)).mono ?_
       rintro e w7 ⟨rfl, hW⟩
       have hW := hW.symm
       subst hW
       rw [c3])
    | (go_at_call 9
       refine (valid_any _ _).mono ?_
       rintro e w7 ⟨rfl, hW⟩
       have hW := hW.symm
       subst hW
       first
         | rw [show validB (⟨#[45, 97]⟩ : ByteArray).data.toList = false by kernel_rfl]
         | rw [show validB (⟨#[97, 45, 98, 43, 99, 47, 100, 59, 101, 46, 102, 36, 103, 95, 104, 40, 105, 41, 74, 57]⟩ : ByteArray).data.toList = true by kernel_rfl]))
  go_ret
  exact ⟨rfl, K6.out⟩
end Go.Proofs.Ythjaehibndmehaa
