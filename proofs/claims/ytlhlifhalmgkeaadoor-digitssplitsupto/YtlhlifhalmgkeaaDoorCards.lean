/-
  DERIVED. GIVEN WITH THE SEED: THE CARDS: each row of YtlhlifhalmgkeaaDoorRows.lean that lists a variable, with what it lists TIED to the program's text (the seventh form; the later family's looks); each row that meets fmt, with fmt's text TOLD by the authors' own Lean function (tested against real Go, not proved from fmt's source: count such statements apart). THE CARD IS WHAT COUNTS. Prove the row's statement (the work); the ties are given (YtlhlifhalmgkeaaDoorTie.lean); close each card by the builder's one call (the guide's Derived/Test/ToyasCard.lean, 'card_holds'). Laid BY PROGRAM, IN A SANDBOX (cutbox-door.mjs). By AI agents, Wed Nov 11 2026. No macro, syntax, notation, axiom, sorry.
-/
import Derived.Test.YtlhlifhalmgkeaaDoorRows
import GoSem.ClaimSeven
namespace Go.Proofs.YtlhlifhalmgkeaaDoor
namespace Rows

/-- THE TIED CARD OF 'stintlaw01.DigitsSplits'. -/
def digitsSplitsCard : Claim7 := { stood := { row := digitsSplitsRow, standIns := [], harness := (true, "6c84faef9100275f176d2c9739f040a62923a9cb3a91c74e7ce04d9d2eb50308"), looks := false }, kinds := [], alts := [], laidByText := true, laidKinds := [.data, .data, .data], laidTests := true, laidLooks := .later }
def DigitsSplitsCardSaid : Prop := Claim7.holds Tryd.pinned (.plain (OpenSpec.ofChange digitsSplitsSpec)) digitsSplitsCard

/-- THE SECOND FORM's CARD OF 'stintlaw01.DigitsSplits'. -/
def digitsSplitsUptoCard : Claim7 := { stood := { row := digitsSplitsUptoRow, standIns := [], harness := (true, "6c84faef9100275f176d2c9739f040a62923a9cb3a91c74e7ce04d9d2eb50308"), looks := false }, kinds := [], alts := [], laidByText := true, laidKinds := [.data, .data, .data], laidTests := true, laidLooks := .later }
def DigitsSplitsUptoCardSaid : Prop := Claim7.holds Tryd.pinned (.plain (OpenSpec.upto digitsSplitsSpec)) digitsSplitsUptoCard
end Rows
end Go.Proofs.YtlhlifhalmgkeaaDoor
