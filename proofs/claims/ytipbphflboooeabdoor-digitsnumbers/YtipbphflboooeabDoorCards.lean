/-
  DERIVED. GIVEN WITH THE SEED: THE CARDS: each row of YtipbphflboooeabDoorRows.lean that lists a variable, with what it lists TIED to the program's text (the seventh form; the later family's looks); each row that meets fmt, with fmt's text TOLD by the authors' own Lean function (tested against real Go, not proved from fmt's source: count such statements apart). THE CARD IS WHAT COUNTS. Prove the row's statement (the work); the ties are given (YtipbphflboooeabDoorTie.lean); close each card by the builder's one call (the guide's Derived/Test/ToyasCard.lean, 'card_holds'). Laid BY PROGRAM, IN A SANDBOX (cutbox-door.mjs). By AI agents, Wed Nov 11 2026. No macro, syntax, notation, axiom, sorry.
-/
import Derived.Test.YtipbphflboooeabDoorRows
import GoSem.ClaimSeven
namespace Go.Proofs.YtipbphflboooeabDoor
namespace Rows

/-- THE TIED CARD OF 'stintlaw01.DigitsNumbers'. -/
def digitsNumbersCard : Claim7 := { stood := { row := digitsNumbersRow, standIns := [], harness := (true, "35a33876a0f00fe10d379d9823dca1ce21b2d7a98025c14288fe7c9c32414999"), looks := false }, kinds := [], alts := [], laidByText := true, laidKinds := [.data, .data, .data], laidTests := true, laidLooks := .later }
def DigitsNumbersCardSaid : Prop := Claim7.holds Tryd.pinned (.plain (OpenSpec.ofChange digitsNumbersSpec)) digitsNumbersCard

/-- THE SECOND FORM's CARD OF 'stintlaw01.DigitsNumbers'. -/
def digitsNumbersUptoCard : Claim7 := { stood := { row := digitsNumbersUptoRow, standIns := [], harness := (true, "35a33876a0f00fe10d379d9823dca1ce21b2d7a98025c14288fe7c9c32414999"), looks := false }, kinds := [], alts := [], laidByText := true, laidKinds := [.data, .data, .data], laidTests := true, laidLooks := .later }
def DigitsNumbersUptoCardSaid : Prop := Claim7.holds Tryd.pinned (.plain (OpenSpec.upto digitsNumbersSpec)) digitsNumbersUptoCard
end Rows
end Go.Proofs.YtipbphflboooeabDoor
