/-
  DERIVED. GIVEN WITH THE SEED: THE CARDS: each row of YtomgnailgddchaaDoorRows.lean that lists a variable, with what it lists TIED to the program's text (the seventh form; the later family's looks); each row that meets fmt, with fmt's text TOLD by the authors' own Lean function (tested against real Go, not proved from fmt's source: count such statements apart). THE CARD IS WHAT COUNTS. Prove the row's statement (the work); the ties are given (YtomgnailgddchaaDoorTie.lean); close each card by the builder's one call (the guide's Derived/Test/ToyasCard.lean, 'card_holds'). Laid BY PROGRAM, IN A SANDBOX (cutbox-door.mjs). By AI agents, Wed Nov 11 2026. No macro, syntax, notation, axiom, sorry.
-/
import Derived.Test.YtomgnailgddchaaDoorRows
import GoSem.ClaimSeven
namespace Go.Proofs.YtomgnailgddchaaDoor
namespace Rows

/-- THE TIED CARD OF 'stintlaw08.AnswersRead'. -/
def answersReadCard : Claim7 := { stood := { row := answersReadRow, standIns := [], harness := (true, "ddfa27b03bf069d25770e633d567a9e5166021b9ddd5807ca0880f3f2f8e1976"), looks := false }, kinds := [], alts := [], laidByText := true, laidKinds := [.data, .data, .data, .data], laidTests := true, laidLooks := .later }
def AnswersReadCardSaid : Prop := Claim7.holds Tryd.pinned (.plain (OpenSpec.ofChange answersReadSpec)) answersReadCard

/-- THE SECOND FORM's CARD OF 'stintlaw08.AnswersRead'. -/
def answersReadUptoCard : Claim7 := { stood := { row := answersReadUptoRow, standIns := [], harness := (true, "ddfa27b03bf069d25770e633d567a9e5166021b9ddd5807ca0880f3f2f8e1976"), looks := false }, kinds := [], alts := [], laidByText := true, laidKinds := [.data, .data, .data, .data], laidTests := true, laidLooks := .later }
def AnswersReadUptoCardSaid : Prop := Claim7.holds Tryd.pinned (.plain (OpenSpec.upto answersReadSpec)) answersReadUptoCard
end Rows
end Go.Proofs.YtomgnailgddchaaDoor
