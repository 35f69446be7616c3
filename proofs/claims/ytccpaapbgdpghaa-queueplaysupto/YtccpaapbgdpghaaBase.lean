/-
  Arguments that are lists of numbers, or of texts, opened.
-/
import Derived.Test.YtccpaapbgdpghaaRows
import Derived.Test.YtccpaapbgdpghaaKit
import Derived.ProofKit
import Derived.OpenShut
import Derived.ChangeSlices
import Derived.SliceStrings
import Derived.Below
namespace Go.Proofs.Ytccpaapbgdpghaa
open Go.ChangeShapes Go.WideShapes Go.ChangeAt Go.RowKit

theorem own : ownKnob Try.prog.godebug = none := by kernel_rfl
theorem laidOut : laidOutB Try.prog = true := by kernel_rfl
theorem int_bounds {n : Int} (h : (Lit.int .i64 n).wf = true) : -9223372036854775808 ≤ n ∧ n ≤ 9223372036854775807 := bounds_i64 h
theorem bulk_lits {H : Type} (k : IntKind) : ∀ (l : List Int), Rows.uptoBulkAll (lits k l : List (DataW H)) = l.length
  | [] => by simp [lits, Rows.uptoBulkAll]
  | x :: r => by
    have ih := bulk_lits (H := H) k r
    simp only [lits, List.map_cons, Rows.uptoBulkAll, Rows.uptoBulk, List.length_cons] at ih ⊢
    omega
end Go.Proofs.Ytccpaapbgdpghaa
