/-
  The walk of the statements' head.
-/
import Derived.Test.YtccpaapbgdpghaaFromS
namespace Go.Proofs.Ytccpaapbgdpghaa
open Go.RowKit
theorem f_not_nil_in (w : World) (d : Nat) (f : FuncId) (caps : Array Value) : (Op.equalIn (d + 1) 54 (.func (.func f) #[] caps) .nilFunc).run Try.prog w = .ok false w := by
  simp [Op.equalIn, run_underlying Try.underlying54]
theorem f_not_nil (w : World) (f : FuncId) (caps : Array Value) : (binOp .neq 54 (.func (.func f) #[] caps) .nilFunc).run Try.prog w = .ok (.bool true) w := by
  simp only [binOp]
  simp [show Op.equal 54 (.func (.func f) #[] caps) .nilFunc = Op.equalIn (9999 + 1) 54 (.func (.func f) #[] caps) .nilFunc from rfl, f_not_nil_in w 9999 f caps]
set_option maxHeartbeats 4000000 in
set_option maxRecDepth 1000000 in
theorem shown_any (w : World) : Calls Try.prog 4 #[] w fun e w' => e = .returned (.bool true) ∧ Below w.heap.size w w' := by
  have hnn := fun w p => q_not_nilS w p
  have hff := fun w f caps => f_not_nil w f caps
  go_enter Try.func4, Try.ntmps4
  go_wp2_with fail
  refine (newFS w w (Below.refl _ _)).mono ?_
  rintro e w1 ⟨rfl, h1, _⟩
  obtain ⟨qb, hqb⟩ : ∃ qb, qb = w.heap.size + 1 := ⟨_, rfl⟩
  obtain ⟨mb, hmb⟩ : ∃ mb, mb = w.heap.size := ⟨_, rfl⟩
  rw [← hqb]
  rw [← hqb, ← hmb] at h1
  have H1 : Hid (FromS w w1 qb mb 0 []) := h1
  clear h1 hqb hmb
  go_wp2_with fail
  refine (joinFS H1.out _ (by decide) (by simp [maxLen]) ⟨_, rfl⟩).mono ?_
  rintro e w2 ⟨rfl, h2, _⟩
  have H2 : Hid (FromS w w2 qb mb 1 [⟨w1.heap.size, 1, .string ⟨#[97]⟩⟩]) := h2
  clear h2 H1
  go_wp2_with fail
  refine (joinFS H2.out _ (by decide) (by simp [maxLen]) ⟨_, rfl⟩).mono ?_
  rintro e w3 ⟨rfl, h3, _⟩
  have H3 : Hid (FromS w w3 qb mb 2 [⟨w1.heap.size, 1, .string ⟨#[97]⟩⟩, ⟨w2.heap.size, 2, .string ⟨#[98]⟩⟩]) := h3
  clear h3 H2
  go_wp2_with fail
  refine (joinFS H3.out _ (by decide) (by simp [maxLen]) ⟨_, rfl⟩).mono ?_
  rintro e w4 ⟨rfl, h4, _⟩
  have H4 : Hid (FromS w w4 qb mb 3 [⟨w1.heap.size, 1, .string ⟨#[97]⟩⟩, ⟨w2.heap.size, 2, .string ⟨#[98]⟩⟩, ⟨w3.heap.size, 3, .string ⟨#[99]⟩⟩]) := h4
  clear h4 H3
  go_wp2_with fail
  have HL := leaveFS H4.out 2 (by decide)
  rw [show getOfS [⟨w1.heap.size, 1, .string ⟨#[97]⟩⟩, ⟨w2.heap.size, 2, .string ⟨#[98]⟩⟩, ⟨w3.heap.size, 3, .string ⟨#[99]⟩⟩] 2 = .tuple #[.string ⟨#[98]⟩, .bool true] from rfl] at HL
  refine HL.mono ?_
  rintro e w5 ⟨rfl, h5, _⟩
  have H5 : Hid (FromS w w5 qb mb 3 [⟨w1.heap.size, 1, .string ⟨#[97]⟩⟩, ⟨w3.heap.size, 3, .string ⟨#[99]⟩⟩]) := h5
  clear h5 H4 HL
  go_wp2_with fail
  have HF := firstFS H5.out
  rw [show firstOfS [⟨w1.heap.size, 1, .string ⟨#[97]⟩⟩, ⟨w3.heap.size, 3, .string ⟨#[99]⟩⟩] = .tuple #[.int .i64 1, .string ⟨#[97]⟩, .bool true] from rfl] at HF
  refine HF.mono ?_
  rintro e w6 ⟨rfl, h6, _⟩
  have H6 : Hid (FromS w w6 qb mb 3 [⟨w1.heap.size, 1, .string ⟨#[97]⟩⟩, ⟨w3.heap.size, 3, .string ⟨#[99]⟩⟩]) := h6
  clear h6 H5 HF
  go_wp2_with fail
  refine (lenS _ _ _ _ _ H6.out.q).mono ?_
  rintro e w7 ⟨rfl, hW⟩
  have hW := hW.symm
  subst hW
  go_wp2_with fail
  refine (allS _ _).mono ?_
  rintro e w8 ⟨rfl, hW⟩
  have HB : Hid (Below w.heap.size w w8) := by
    rw [hW]
    exact H6.out.bel.alloc H6.out.bel.size _
  clear hW
  go_wp2_with fail
  go_ret
  exact ⟨rfl, HB.out⟩
end Go.Proofs.Ytccpaapbgdpghaa
