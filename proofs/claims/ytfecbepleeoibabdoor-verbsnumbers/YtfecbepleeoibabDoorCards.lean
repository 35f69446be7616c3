/-
  DERIVED. GIVEN WITH THE SEED: THE CARDS: each row of YtfecbepleeoibabDoorRows.lean that lists a variable, with what it lists TIED to the program's text (the seventh form; the later family's looks); each row that meets fmt, with fmt's text TOLD by the authors' own Lean function (tested against real Go, not proved from fmt's source: count such statements apart). THE CARD IS WHAT COUNTS. Prove the row's statement (the work); the ties are given (YtfecbepleeoibabDoorTie.lean); close each card by the builder's one call (the guide's Derived/Test/ToyasCard.lean, 'card_holds'). Laid BY PROGRAM, IN A SANDBOX (cutbox-door.mjs). By AI agents, Wed Nov 11 2026. No macro, syntax, notation, axiom, sorry.
-/
import Derived.Test.YtfecbepleeoibabDoorRows
import GoSem.ClaimSeven
namespace Go.Proofs.YtfecbepleeoibabDoor
namespace Rows

/-- THE TIED CARD OF 'stintlaw07.VerbsNumbers'. -/
def verbsNumbersCard : Claim7 := { stood := { row := verbsNumbersRow, standIns := [], harness := (true, "da7054540987f05b94f2a7c2abfccd4070f96b87ba5d98be54df9015745cfe8c"), looks := false }, kinds := [], alts := [], laidByText := true, laidKinds := [.data, .data, .data, .data, .data], laidTests := true, laidLooks := .later }
def VerbsNumbersCardSaid : Prop := Claim7.holds Tryd.pinned (.plain (OpenSpec.ofChange verbsNumbersSpec)) verbsNumbersCard

/-- THE SECOND FORM's CARD OF 'stintlaw07.VerbsNumbers'. -/
def verbsNumbersUptoCard : Claim7 := { stood := { row := verbsNumbersUptoRow, standIns := [], harness := (true, "da7054540987f05b94f2a7c2abfccd4070f96b87ba5d98be54df9015745cfe8c"), looks := false }, kinds := [], alts := [], laidByText := true, laidKinds := [.data, .data, .data, .data, .data], laidTests := true, laidLooks := .later }
def VerbsNumbersUptoCardSaid : Prop := Claim7.holds Tryd.pinned (.plain (OpenSpec.upto verbsNumbersSpec)) verbsNumbersUptoCard
end Rows
end Go.Proofs.YtfecbepleeoibabDoor
