/-
  DERIVED. GIVEN WITH THE SEED: THE CARDS: each row of YthapbnlcodkalaaDoorRows.lean that lists a variable, with what it lists TIED to the program's text (the seventh form; the later family's looks); each row that meets fmt, with fmt's text TOLD by the authors' own Lean function (tested against real Go, not proved from fmt's source: count such statements apart). THE CARD IS WHAT COUNTS. Prove the row's statement (the work); the ties are given (YthapbnlcodkalaaDoorTie.lean); close each card by the builder's one call (the guide's Derived/Test/ToyasCard.lean, 'card_holds'). Laid BY PROGRAM, IN A SANDBOX (cutbox-door.mjs). By AI agents, Wed Nov 11 2026. No macro, syntax, notation, axiom, sorry.
-/
import Derived.Test.YthapbnlcodkalaaDoorRows
import GoSem.ClaimSeven
namespace Go.Proofs.YthapbnlcodkalaaDoor
namespace Rows

/-- THE TIED CARD OF 'stintlaw13.FiguresJobs'. -/
def figuresJobsCard : Claim7 := { stood := { row := figuresJobsRow, standIns := [], harness := (true, "2f2d4e143606cd414981ec797e6935a6fd9a942f61a5cfef5912135df02ef7a3"), looks := false }, kinds := [], alts := [], laidByText := true, laidKinds := [.data, .data, .data], laidTests := true, laidLooks := .later }
def FiguresJobsCardSaid : Prop := Claim7.holds Tryd.pinned (.plain (OpenSpec.ofChange figuresJobsSpec)) figuresJobsCard

/-- THE TIED CARD OF 'stintlaw13.FiguresTubes'. -/
def figuresTubesCard : Claim7 := { stood := { row := figuresTubesRow, standIns := [], harness := (true, "2f2d4e143606cd414981ec797e6935a6fd9a942f61a5cfef5912135df02ef7a3"), looks := false }, kinds := [], alts := [], laidByText := true, laidKinds := [.data, .data, .data], laidTests := true, laidLooks := .later }
def FiguresTubesCardSaid : Prop := Claim7.holds Tryd.pinned (.plain (OpenSpec.ofChange figuresTubesSpec)) figuresTubesCard

/-- THE TIED CARD OF 'stintlaw13.FiguresShops'. -/
def figuresShopsCard : Claim7 := { stood := { row := figuresShopsRow, standIns := [], harness := (true, "2f2d4e143606cd414981ec797e6935a6fd9a942f61a5cfef5912135df02ef7a3"), looks := false }, kinds := [], alts := [], laidByText := true, laidKinds := [.data, .data, .data, .data], laidTests := true, laidLooks := .later }
def FiguresShopsCardSaid : Prop := Claim7.holds Tryd.pinned (.plain (OpenSpec.ofChange figuresShopsSpec)) figuresShopsCard

/-- THE TIED CARD OF 'stintlaw13.FiguresReads'. -/
def figuresReadsCard : Claim7 := { stood := { row := figuresReadsRow, standIns := [], harness := (true, "2f2d4e143606cd414981ec797e6935a6fd9a942f61a5cfef5912135df02ef7a3"), looks := false }, kinds := [], alts := [], laidByText := true, laidKinds := [.data, .data, .data, .data], laidTests := true, laidLooks := .later }
def FiguresReadsCardSaid : Prop := Claim7.holds Tryd.pinned (.plain (OpenSpec.ofChange figuresReadsSpec)) figuresReadsCard

/-- THE SECOND FORM's CARD OF 'stintlaw13.FiguresJobs'. -/
def figuresJobsUptoCard : Claim7 := { stood := { row := figuresJobsUptoRow, standIns := [], harness := (true, "2f2d4e143606cd414981ec797e6935a6fd9a942f61a5cfef5912135df02ef7a3"), looks := false }, kinds := [], alts := [], laidByText := true, laidKinds := [.data, .data, .data], laidTests := true, laidLooks := .later }
def FiguresJobsUptoCardSaid : Prop := Claim7.holds Tryd.pinned (.plain (OpenSpec.upto figuresJobsSpec)) figuresJobsUptoCard

/-- THE SECOND FORM's CARD OF 'stintlaw13.FiguresTubes'. -/
def figuresTubesUptoCard : Claim7 := { stood := { row := figuresTubesUptoRow, standIns := [], harness := (true, "2f2d4e143606cd414981ec797e6935a6fd9a942f61a5cfef5912135df02ef7a3"), looks := false }, kinds := [], alts := [], laidByText := true, laidKinds := [.data, .data, .data], laidTests := true, laidLooks := .later }
def FiguresTubesUptoCardSaid : Prop := Claim7.holds Tryd.pinned (.plain (OpenSpec.upto figuresTubesSpec)) figuresTubesUptoCard

/-- THE SECOND FORM's CARD OF 'stintlaw13.FiguresShops'. -/
def figuresShopsUptoCard : Claim7 := { stood := { row := figuresShopsUptoRow, standIns := [], harness := (true, "2f2d4e143606cd414981ec797e6935a6fd9a942f61a5cfef5912135df02ef7a3"), looks := false }, kinds := [], alts := [], laidByText := true, laidKinds := [.data, .data, .data, .data], laidTests := true, laidLooks := .later }
def FiguresShopsUptoCardSaid : Prop := Claim7.holds Tryd.pinned (.plain (OpenSpec.upto figuresShopsSpec)) figuresShopsUptoCard

/-- THE SECOND FORM's CARD OF 'stintlaw13.FiguresReads'. -/
def figuresReadsUptoCard : Claim7 := { stood := { row := figuresReadsUptoRow, standIns := [], harness := (true, "2f2d4e143606cd414981ec797e6935a6fd9a942f61a5cfef5912135df02ef7a3"), looks := false }, kinds := [], alts := [], laidByText := true, laidKinds := [.data, .data, .data, .data], laidTests := true, laidLooks := .later }
def FiguresReadsUptoCardSaid : Prop := Claim7.holds Tryd.pinned (.plain (OpenSpec.upto figuresReadsSpec)) figuresReadsUptoCard
end Rows
end Go.Proofs.YthapbnlcodkalaaDoor
