/-
  NARROWER THAN 'FOR EVERY INPUT', by the rows' own cells (each row's printed sentence says how): VerbsNames: laid · VerbsReads: laid · VerbsWrites: laid · VerbsChecks: laid · VerbsBack: laid · VerbsForms: laid.
  DERIVED. THE GIVEN ROWS OF THIS SEAT. 6 by the template 'for every input the law returns true; each argument reads behind the call as it read before'; 0 by the template 'total and deterministic' (their statements: YtfecbepleeoibaaDoorTotals.lean).
  GIVEN WITH THE SEED: the statements are not yours to turn. If you find one false, say at which input.
  Laid BY PROGRAM, IN A SANDBOX (cutbox-rows.mjs): the forced cells as the released guide's own fill.sh prints them over the translation 2bb7419f832ad824… (all of the seat's roots in one cut). By AI agents, Wed Nov 11 2026. No macro, syntax, notation, axiom, sorry.
-/
import Derived.Test.YtfecbepleeoibaaDoorChecked
import GoSem.Claim
import GoSem.ClaimJoined
import GoSem.ClaimMapViews
import Derived.JoinedTies
import Derived.KernelRfl
namespace Go.Proofs.YtfecbepleeoibaaDoor
/- THE CELL 'sum', in the pinned program and in every row, IS THE sha256 OF THE DUMP (.gsa) THAT YtfecbepleeoibaaDoorProg.lean LOADS. Nothing in Lean hashes anything: it is a label: what it is worth is what the hold of that sum in a sandbox is worth. -/
noncomputable def Tryd.pinned : Pinned := { name := "ytfecbepleeoibaadoor", sum := "2bb7419f832ad824b90535a2651568cdeb0cfeef686344ff90d2f8c6e1655817", checked := Tryd.checked }
namespace Rows
def none {H : Type} : Left H := { results := [], args := [] }

/- WHAT THE LISTED PACKAGE-LEVEL VARIABLES READ AS WHEN THE CALL BEGINS. Each datum BY PROGRAM (the guide's laid-datum.mjs) off the statement by which the dump's own 'gosem.cut.vars' lays the variable. In a bare row this is a premise. The card (YtfecbepleeoibaaDoorCards.lean) ties it to the program's text. -/
def laid_math_bits_deBruijn32tab {H : Type} : DataW H := .agg [.lit (.int .u8 0), .lit (.int .u8 1), .lit (.int .u8 28), .lit (.int .u8 2), .lit (.int .u8 29), .lit (.int .u8 14), .lit (.int .u8 24), .lit (.int .u8 3), .lit (.int .u8 30), .lit (.int .u8 22), .lit (.int .u8 20), .lit (.int .u8 15), .lit (.int .u8 25), .lit (.int .u8 17), .lit (.int .u8 4), .lit (.int .u8 8), .lit (.int .u8 31), .lit (.int .u8 27), .lit (.int .u8 13), .lit (.int .u8 23), .lit (.int .u8 21), .lit (.int .u8 19), .lit (.int .u8 16), .lit (.int .u8 7), .lit (.int .u8 26), .lit (.int .u8 12), .lit (.int .u8 18), .lit (.int .u8 6), .lit (.int .u8 11), .lit (.int .u8 5), .lit (.int .u8 10), .lit (.int .u8 9)]
def laid_math_bits_deBruijn64tab {H : Type} : DataW H := .agg [.lit (.int .u8 0), .lit (.int .u8 1), .lit (.int .u8 56), .lit (.int .u8 2), .lit (.int .u8 57), .lit (.int .u8 49), .lit (.int .u8 28), .lit (.int .u8 3), .lit (.int .u8 61), .lit (.int .u8 58), .lit (.int .u8 42), .lit (.int .u8 50), .lit (.int .u8 38), .lit (.int .u8 29), .lit (.int .u8 17), .lit (.int .u8 4), .lit (.int .u8 62), .lit (.int .u8 47), .lit (.int .u8 59), .lit (.int .u8 36), .lit (.int .u8 45), .lit (.int .u8 43), .lit (.int .u8 51), .lit (.int .u8 22), .lit (.int .u8 53), .lit (.int .u8 39), .lit (.int .u8 33), .lit (.int .u8 30), .lit (.int .u8 24), .lit (.int .u8 18), .lit (.int .u8 12), .lit (.int .u8 5), .lit (.int .u8 63), .lit (.int .u8 55), .lit (.int .u8 48), .lit (.int .u8 27), .lit (.int .u8 60), .lit (.int .u8 41), .lit (.int .u8 37), .lit (.int .u8 16), .lit (.int .u8 46), .lit (.int .u8 35), .lit (.int .u8 44), .lit (.int .u8 21), .lit (.int .u8 52), .lit (.int .u8 32), .lit (.int .u8 23), .lit (.int .u8 11), .lit (.int .u8 54), .lit (.int .u8 26), .lit (.int .u8 40), .lit (.int .u8 15), .lit (.int .u8 34), .lit (.int .u8 20), .lit (.int .u8 31), .lit (.int .u8 10), .lit (.int .u8 25), .lit (.int .u8 14), .lit (.int .u8 19), .lit (.int .u8 9), .lit (.int .u8 13), .lit (.int .u8 8), .lit (.int .u8 7), .lit (.int .u8 6)]
def laid_internal_strconv_uint64pow10 {H : Type} : DataW H := .agg [.lit (.int .u64 1), .lit (.int .u64 10), .lit (.int .u64 100), .lit (.int .u64 1000), .lit (.int .u64 10000), .lit (.int .u64 100000), .lit (.int .u64 1000000), .lit (.int .u64 10000000), .lit (.int .u64 100000000), .lit (.int .u64 1000000000), .lit (.int .u64 10000000000), .lit (.int .u64 100000000000), .lit (.int .u64 1000000000000), .lit (.int .u64 10000000000000), .lit (.int .u64 100000000000000), .lit (.int .u64 1000000000000000), .lit (.int .u64 10000000000000000), .lit (.int .u64 100000000000000000), .lit (.int .u64 1000000000000000000), .lit (.int .u64 10000000000000000000)]
def laid_stint_verbs_greatest {H : Type} : DataW H := .agg [.lit (.int .i64 0), .lit (.int .i64 4611686018427387903), .lit (.int .i64 4294967295), .lit (.int .i64 4294967295), .lit (.int .i64 4294967295), .lit (.int .i64 4294967295)]
def laid_stint_verbs_shapes {H : Type} : DataW H := .agg [.agg [.lit (.string []), .agg [.lit (.int .u8 0), .lit (.int .u8 0), .lit (.int .u8 0), .lit (.int .u8 0)]], .agg [.lit (.string [112, 117, 116]), .agg [.lit (.int .u8 2), .lit (.int .u8 3), .lit (.int .u8 4), .lit (.int .u8 5)]], .agg [.lit (.string [117, 115, 101]), .agg [.lit (.int .u8 6), .lit (.int .u8 0), .lit (.int .u8 0), .lit (.int .u8 0)]], .agg [.lit (.string [114, 101, 115, 101, 114, 118, 101]), .agg [.lit (.int .u8 0), .lit (.int .u8 0), .lit (.int .u8 0), .lit (.int .u8 0)]], .agg [.lit (.string [114, 101, 115, 101, 114, 118, 101, 45, 119, 105, 116, 104, 45, 116, 105, 109, 101, 111, 117, 116]), .agg [.lit (.int .u8 5), .lit (.int .u8 0), .lit (.int .u8 0), .lit (.int .u8 0)]], .agg [.lit (.string [114, 101, 115, 101, 114, 118, 101, 45, 106, 111, 98]), .agg [.lit (.int .u8 1), .lit (.int .u8 0), .lit (.int .u8 0), .lit (.int .u8 0)]], .agg [.lit (.string [100, 101, 108, 101, 116, 101]), .agg [.lit (.int .u8 1), .lit (.int .u8 0), .lit (.int .u8 0), .lit (.int .u8 0)]], .agg [.lit (.string [114, 101, 108, 101, 97, 115, 101]), .agg [.lit (.int .u8 1), .lit (.int .u8 2), .lit (.int .u8 3), .lit (.int .u8 0)]], .agg [.lit (.string [98, 117, 114, 121]), .agg [.lit (.int .u8 1), .lit (.int .u8 2), .lit (.int .u8 0), .lit (.int .u8 0)]], .agg [.lit (.string [116, 111, 117, 99, 104]), .agg [.lit (.int .u8 1), .lit (.int .u8 0), .lit (.int .u8 0), .lit (.int .u8 0)]], .agg [.lit (.string [119, 97, 116, 99, 104]), .agg [.lit (.int .u8 6), .lit (.int .u8 0), .lit (.int .u8 0), .lit (.int .u8 0)]], .agg [.lit (.string [105, 103, 110, 111, 114, 101]), .agg [.lit (.int .u8 6), .lit (.int .u8 0), .lit (.int .u8 0), .lit (.int .u8 0)]], .agg [.lit (.string [112, 101, 101, 107]), .agg [.lit (.int .u8 1), .lit (.int .u8 0), .lit (.int .u8 0), .lit (.int .u8 0)]], .agg [.lit (.string [112, 101, 101, 107, 45, 114, 101, 97, 100, 121]), .agg [.lit (.int .u8 0), .lit (.int .u8 0), .lit (.int .u8 0), .lit (.int .u8 0)]], .agg [.lit (.string [112, 101, 101, 107, 45, 100, 101, 108, 97, 121, 101, 100]), .agg [.lit (.int .u8 0), .lit (.int .u8 0), .lit (.int .u8 0), .lit (.int .u8 0)]], .agg [.lit (.string [112, 101, 101, 107, 45, 98, 117, 114, 105, 101, 100]), .agg [.lit (.int .u8 0), .lit (.int .u8 0), .lit (.int .u8 0), .lit (.int .u8 0)]], .agg [.lit (.string [107, 105, 99, 107]), .agg [.lit (.int .u8 5), .lit (.int .u8 0), .lit (.int .u8 0), .lit (.int .u8 0)]], .agg [.lit (.string [107, 105, 99, 107, 45, 106, 111, 98]), .agg [.lit (.int .u8 1), .lit (.int .u8 0), .lit (.int .u8 0), .lit (.int .u8 0)]], .agg [.lit (.string [115, 116, 97, 116, 115, 45, 106, 111, 98]), .agg [.lit (.int .u8 1), .lit (.int .u8 0), .lit (.int .u8 0), .lit (.int .u8 0)]], .agg [.lit (.string [115, 116, 97, 116, 115, 45, 116, 117, 98, 101]), .agg [.lit (.int .u8 6), .lit (.int .u8 0), .lit (.int .u8 0), .lit (.int .u8 0)]], .agg [.lit (.string [115, 116, 97, 116, 115]), .agg [.lit (.int .u8 0), .lit (.int .u8 0), .lit (.int .u8 0), .lit (.int .u8 0)]], .agg [.lit (.string [108, 105, 115, 116, 45, 116, 117, 98, 101, 115]), .agg [.lit (.int .u8 0), .lit (.int .u8 0), .lit (.int .u8 0), .lit (.int .u8 0)]], .agg [.lit (.string [108, 105, 115, 116, 45, 116, 117, 98, 101, 45, 117, 115, 101, 100]), .agg [.lit (.int .u8 0), .lit (.int .u8 0), .lit (.int .u8 0), .lit (.int .u8 0)]], .agg [.lit (.string [108, 105, 115, 116, 45, 116, 117, 98, 101, 115, 45, 119, 97, 116, 99, 104, 101, 100]), .agg [.lit (.int .u8 0), .lit (.int .u8 0), .lit (.int .u8 0), .lit (.int .u8 0)]], .agg [.lit (.string [112, 97, 117, 115, 101, 45, 116, 117, 98, 101]), .agg [.lit (.int .u8 6), .lit (.int .u8 5), .lit (.int .u8 0), .lit (.int .u8 0)]], .agg [.lit (.string [113, 117, 105, 116]), .agg [.lit (.int .u8 0), .lit (.int .u8 0), .lit (.int .u8 0), .lit (.int .u8 0)]]]

/-- 'stintlaw07.VerbsNames': WHATEVER THE INPUT: true; the input reads as it did. -/
def verbsNamesSpec : ChangeSpec := { name := "verbsNames", fn := fun _ => fun
  | [d] => { results := [.lit (.bool true)], args := [d] }
  | _ => none }
def verbsNamesRow : OpenClaim := { program := "ytfecbepleeoibaadoor", sum := "2bb7419f832ad824b90535a2651568cdeb0cfeef686344ff90d2f8c6e1655817", func := "stint/stintlaw07.VerbsNames", spec := "verbsNames", inPlace := ["internal/bytealg.IndexByteString", "internal/bytealg.IndexString", "internal/bytealg.CountString", "internal/abi.NoEscape", "internal/bytealg.MakeNoZero"], named := ["internal/bytealg.MaxLen", "stint/verbs.shapes", "stint/verbs.greatest", "internal/strconv.uint64pow10", "math/bits.deBruijn32tab", "math/bits.deBruijn64tab"], apart := false, laid := [("math/bits.deBruijn32tab", laid_math_bits_deBruijn32tab), ("math/bits.deBruijn64tab", laid_math_bits_deBruijn64tab), ("internal/strconv.uint64pow10", laid_internal_strconv_uint64pow10), ("stint/verbs.greatest", laid_stint_verbs_greatest), ("stint/verbs.shapes", laid_stint_verbs_shapes)] }
def VerbsNamesSaid : Prop := verbsNamesRow.holds Tryd.pinned (OpenSpec.ofChange verbsNamesSpec)

/-- ITS FALSE NEIGHBOUR: 'it returns false'. Refute it at one input. -/
def verbsNamesWrong : ChangeSpec := { name := "verbsNames", fn := fun _ => fun
  | [d] => { results := [.lit (.bool false)], args := [d] }
  | _ => none }
def VerbsNamesWrongFalsely : Prop := verbsNamesRow.holds Tryd.pinned (OpenSpec.ofChange verbsNamesWrong)

/-- 'stintlaw07.VerbsReads': WHATEVER THE INPUT: true; the input reads as it did. -/
def verbsReadsSpec : ChangeSpec := { name := "verbsReads", fn := fun _ => fun
  | [d1, d2] => { results := [.lit (.bool true)], args := [d1, d2] }
  | _ => none }
def verbsReadsRow : OpenClaim := { program := "ytfecbepleeoibaadoor", sum := "2bb7419f832ad824b90535a2651568cdeb0cfeef686344ff90d2f8c6e1655817", func := "stint/stintlaw07.VerbsReads", spec := "verbsReads", inPlace := ["internal/bytealg.IndexByteString", "internal/bytealg.IndexString", "internal/bytealg.CountString", "internal/abi.NoEscape", "internal/bytealg.MakeNoZero"], named := ["internal/bytealg.MaxLen", "stint/verbs.shapes", "stint/verbs.greatest", "internal/strconv.uint64pow10", "math/bits.deBruijn32tab", "math/bits.deBruijn64tab"], apart := false, laid := [("math/bits.deBruijn32tab", laid_math_bits_deBruijn32tab), ("math/bits.deBruijn64tab", laid_math_bits_deBruijn64tab), ("internal/strconv.uint64pow10", laid_internal_strconv_uint64pow10), ("stint/verbs.greatest", laid_stint_verbs_greatest), ("stint/verbs.shapes", laid_stint_verbs_shapes)] }
def VerbsReadsSaid : Prop := verbsReadsRow.holds Tryd.pinned (OpenSpec.ofChange verbsReadsSpec)

/-- ITS FALSE NEIGHBOUR: 'it returns false'. Refute it at one input. -/
def verbsReadsWrong : ChangeSpec := { name := "verbsReads", fn := fun _ => fun
  | [d1, d2] => { results := [.lit (.bool false)], args := [d1, d2] }
  | _ => none }
def VerbsReadsWrongFalsely : Prop := verbsReadsRow.holds Tryd.pinned (OpenSpec.ofChange verbsReadsWrong)

/-- 'stintlaw07.VerbsWrites': WHATEVER THE INPUT: true; the input reads as it did. -/
def verbsWritesSpec : ChangeSpec := { name := "verbsWrites", fn := fun _ => fun
  | [d] => { results := [.lit (.bool true)], args := [d] }
  | _ => none }
def verbsWritesRow : OpenClaim := { program := "ytfecbepleeoibaadoor", sum := "2bb7419f832ad824b90535a2651568cdeb0cfeef686344ff90d2f8c6e1655817", func := "stint/stintlaw07.VerbsWrites", spec := "verbsWrites", inPlace := ["internal/bytealg.IndexByteString", "internal/bytealg.IndexString", "internal/bytealg.CountString", "internal/abi.NoEscape", "internal/bytealg.MakeNoZero"], named := ["internal/bytealg.MaxLen", "stint/verbs.shapes", "stint/verbs.greatest", "internal/strconv.uint64pow10", "math/bits.deBruijn32tab", "math/bits.deBruijn64tab"], apart := false, laid := [("math/bits.deBruijn32tab", laid_math_bits_deBruijn32tab), ("math/bits.deBruijn64tab", laid_math_bits_deBruijn64tab), ("internal/strconv.uint64pow10", laid_internal_strconv_uint64pow10), ("stint/verbs.greatest", laid_stint_verbs_greatest), ("stint/verbs.shapes", laid_stint_verbs_shapes)] }
def VerbsWritesSaid : Prop := verbsWritesRow.holds Tryd.pinned (OpenSpec.ofChange verbsWritesSpec)

/-- ITS FALSE NEIGHBOUR: 'it returns false'. Refute it at one input. -/
def verbsWritesWrong : ChangeSpec := { name := "verbsWrites", fn := fun _ => fun
  | [d] => { results := [.lit (.bool false)], args := [d] }
  | _ => none }
def VerbsWritesWrongFalsely : Prop := verbsWritesRow.holds Tryd.pinned (OpenSpec.ofChange verbsWritesWrong)

/-- 'stintlaw07.VerbsChecks': WHATEVER THE INPUT: true; the input reads as it did. -/
def verbsChecksSpec : ChangeSpec := { name := "verbsChecks", fn := fun _ => fun
  | [d] => { results := [.lit (.bool true)], args := [d] }
  | _ => none }
def verbsChecksRow : OpenClaim := { program := "ytfecbepleeoibaadoor", sum := "2bb7419f832ad824b90535a2651568cdeb0cfeef686344ff90d2f8c6e1655817", func := "stint/stintlaw07.VerbsChecks", spec := "verbsChecks", inPlace := ["internal/bytealg.IndexByteString", "internal/bytealg.IndexString", "internal/bytealg.CountString", "internal/abi.NoEscape", "internal/bytealg.MakeNoZero"], named := ["internal/bytealg.MaxLen", "stint/verbs.shapes", "stint/verbs.greatest", "internal/strconv.uint64pow10", "math/bits.deBruijn32tab", "math/bits.deBruijn64tab"], apart := false, laid := [("math/bits.deBruijn32tab", laid_math_bits_deBruijn32tab), ("math/bits.deBruijn64tab", laid_math_bits_deBruijn64tab), ("internal/strconv.uint64pow10", laid_internal_strconv_uint64pow10), ("stint/verbs.greatest", laid_stint_verbs_greatest), ("stint/verbs.shapes", laid_stint_verbs_shapes)] }
def VerbsChecksSaid : Prop := verbsChecksRow.holds Tryd.pinned (OpenSpec.ofChange verbsChecksSpec)

/-- ITS FALSE NEIGHBOUR: 'it returns false'. Refute it at one input. -/
def verbsChecksWrong : ChangeSpec := { name := "verbsChecks", fn := fun _ => fun
  | [d] => { results := [.lit (.bool false)], args := [d] }
  | _ => none }
def VerbsChecksWrongFalsely : Prop := verbsChecksRow.holds Tryd.pinned (OpenSpec.ofChange verbsChecksWrong)

/-- 'stintlaw07.VerbsBack': WHATEVER THE INPUT: true; the input reads as it did. -/
def verbsBackSpec : ChangeSpec := { name := "verbsBack", fn := fun _ => fun
  | [d] => { results := [.lit (.bool true)], args := [d] }
  | _ => none }
def verbsBackRow : OpenClaim := { program := "ytfecbepleeoibaadoor", sum := "2bb7419f832ad824b90535a2651568cdeb0cfeef686344ff90d2f8c6e1655817", func := "stint/stintlaw07.VerbsBack", spec := "verbsBack", inPlace := ["internal/bytealg.IndexByteString", "internal/bytealg.IndexString", "internal/bytealg.CountString", "internal/abi.NoEscape", "internal/bytealg.MakeNoZero"], named := ["internal/bytealg.MaxLen", "stint/verbs.shapes", "stint/verbs.greatest", "internal/strconv.uint64pow10", "math/bits.deBruijn32tab", "math/bits.deBruijn64tab"], apart := false, laid := [("math/bits.deBruijn32tab", laid_math_bits_deBruijn32tab), ("math/bits.deBruijn64tab", laid_math_bits_deBruijn64tab), ("internal/strconv.uint64pow10", laid_internal_strconv_uint64pow10), ("stint/verbs.greatest", laid_stint_verbs_greatest), ("stint/verbs.shapes", laid_stint_verbs_shapes)] }
def VerbsBackSaid : Prop := verbsBackRow.holds Tryd.pinned (OpenSpec.ofChange verbsBackSpec)

/-- ITS FALSE NEIGHBOUR: 'it returns false'. Refute it at one input. -/
def verbsBackWrong : ChangeSpec := { name := "verbsBack", fn := fun _ => fun
  | [d] => { results := [.lit (.bool false)], args := [d] }
  | _ => none }
def VerbsBackWrongFalsely : Prop := verbsBackRow.holds Tryd.pinned (OpenSpec.ofChange verbsBackWrong)

/-- 'stintlaw07.VerbsForms': WHATEVER THE INPUT: true; the input reads as it did. -/
def verbsFormsSpec : ChangeSpec := { name := "verbsForms", fn := fun _ => fun
  | [d] => { results := [.lit (.bool true)], args := [d] }
  | _ => none }
def verbsFormsRow : OpenClaim := { program := "ytfecbepleeoibaadoor", sum := "2bb7419f832ad824b90535a2651568cdeb0cfeef686344ff90d2f8c6e1655817", func := "stint/stintlaw07.VerbsForms", spec := "verbsForms", inPlace := ["internal/bytealg.IndexByteString", "internal/bytealg.IndexString", "internal/bytealg.CountString", "internal/abi.NoEscape", "internal/bytealg.MakeNoZero"], named := ["internal/bytealg.MaxLen", "stint/verbs.shapes", "stint/verbs.greatest", "internal/strconv.uint64pow10", "math/bits.deBruijn32tab", "math/bits.deBruijn64tab"], apart := false, laid := [("math/bits.deBruijn32tab", laid_math_bits_deBruijn32tab), ("math/bits.deBruijn64tab", laid_math_bits_deBruijn64tab), ("internal/strconv.uint64pow10", laid_internal_strconv_uint64pow10), ("stint/verbs.greatest", laid_stint_verbs_greatest), ("stint/verbs.shapes", laid_stint_verbs_shapes)] }
def VerbsFormsSaid : Prop := verbsFormsRow.holds Tryd.pinned (OpenSpec.ofChange verbsFormsSpec)

/-- ITS FALSE NEIGHBOUR: 'it returns false'. Refute it at one input. -/
def verbsFormsWrong : ChangeSpec := { name := "verbsForms", fn := fun _ => fun
  | [d] => { results := [.lit (.bool false)], args := [d] }
  | _ => none }
def VerbsFormsWrongFalsely : Prop := verbsFormsRow.holds Tryd.pinned (OpenSpec.ofChange verbsFormsWrong)

/- THE SECOND FORM. 'bulk': how many values and letters a reading holds, each counted each time it is reached (what is shared counts as often as it is met; a slice's spare places count too). A statement '..UptoSaid' is the law's where the arguments, and the package variables that the reading takes, are together of bulk at most 1048576: NARROWER than '..Said'. Prove '..Said' where nothing that the law and all that it calls make is longer than what came in: it says more and counts as full. Else prove '..UptoSaid'. A law counts once. -/
mutual
def uptoBulk {H : Type} : DataW H → Nat
  | .lit (.string bytes) => bytes.length + 1
  | .lit _ => 1
  | .nil => 1
  | .ptr d => uptoBulk d + 1
  | .slice elems spare => uptoBulkAll elems + uptoBulkAll spare + 1
  | .agg parts => uptoBulkAll parts + 1
  | .iface _ d => uptoBulk d + 1
  | .map entries => uptoBulkEntries entries + 1
  | .held _ => 1
def uptoBulkAll {H : Type} : List (DataW H) → Nat
  | [] => 0
  | d :: r => uptoBulk d + uptoBulkAll r
def uptoBulkEntries {H : Type} : List (Lit × DataW H) → Nat
  | [] => 0
  | x :: r => uptoBulkEntry x + uptoBulkEntries r
def uptoBulkEntry {H : Type} : Lit × DataW H → Nat
  | (.string bytes, d) => bytes.length + uptoBulk d + 1
  | (_, d) => uptoBulk d + 1
 end
def uptoSmall : (H : Type) → List (DataW H) → Bool := fun _ ds => decide (uptoBulkAll ds ≤ 1048576)
def OpenSpec.upto (s : _root_.Go.ChangeSpec) : _root_.Go.OpenSpec := { _root_.Go.OpenSpec.ofChange s with cond := some uptoSmall }

/-- 'stintlaw07.VerbsNames', WHERE WHAT IT READS IS OF BULK AT MOST 1048576: true; the input reads as it did. -/
def verbsNamesUptoRow : OpenClaim := { program := "ytfecbepleeoibaadoor", sum := "2bb7419f832ad824b90535a2651568cdeb0cfeef686344ff90d2f8c6e1655817", func := "stint/stintlaw07.VerbsNames", spec := "verbsNames", inPlace := ["internal/bytealg.IndexByteString", "internal/bytealg.IndexString", "internal/bytealg.CountString", "internal/abi.NoEscape", "internal/bytealg.MakeNoZero"], named := ["internal/bytealg.MaxLen", "stint/verbs.shapes", "stint/verbs.greatest", "internal/strconv.uint64pow10", "math/bits.deBruijn32tab", "math/bits.deBruijn64tab"], apart := false, laid := [("math/bits.deBruijn32tab", laid_math_bits_deBruijn32tab), ("math/bits.deBruijn64tab", laid_math_bits_deBruijn64tab), ("internal/strconv.uint64pow10", laid_internal_strconv_uint64pow10), ("stint/verbs.greatest", laid_stint_verbs_greatest), ("stint/verbs.shapes", laid_stint_verbs_shapes)], narrowed := true }
def VerbsNamesUptoSaid : Prop := verbsNamesUptoRow.holds Tryd.pinned (OpenSpec.upto verbsNamesSpec)

/-- 'stintlaw07.VerbsReads', WHERE WHAT IT READS IS OF BULK AT MOST 1048576: true; the input reads as it did. -/
def verbsReadsUptoRow : OpenClaim := { program := "ytfecbepleeoibaadoor", sum := "2bb7419f832ad824b90535a2651568cdeb0cfeef686344ff90d2f8c6e1655817", func := "stint/stintlaw07.VerbsReads", spec := "verbsReads", inPlace := ["internal/bytealg.IndexByteString", "internal/bytealg.IndexString", "internal/bytealg.CountString", "internal/abi.NoEscape", "internal/bytealg.MakeNoZero"], named := ["internal/bytealg.MaxLen", "stint/verbs.shapes", "stint/verbs.greatest", "internal/strconv.uint64pow10", "math/bits.deBruijn32tab", "math/bits.deBruijn64tab"], apart := false, laid := [("math/bits.deBruijn32tab", laid_math_bits_deBruijn32tab), ("math/bits.deBruijn64tab", laid_math_bits_deBruijn64tab), ("internal/strconv.uint64pow10", laid_internal_strconv_uint64pow10), ("stint/verbs.greatest", laid_stint_verbs_greatest), ("stint/verbs.shapes", laid_stint_verbs_shapes)], narrowed := true }
def VerbsReadsUptoSaid : Prop := verbsReadsUptoRow.holds Tryd.pinned (OpenSpec.upto verbsReadsSpec)

/-- 'stintlaw07.VerbsWrites', WHERE WHAT IT READS IS OF BULK AT MOST 1048576: true; the input reads as it did. -/
def verbsWritesUptoRow : OpenClaim := { program := "ytfecbepleeoibaadoor", sum := "2bb7419f832ad824b90535a2651568cdeb0cfeef686344ff90d2f8c6e1655817", func := "stint/stintlaw07.VerbsWrites", spec := "verbsWrites", inPlace := ["internal/bytealg.IndexByteString", "internal/bytealg.IndexString", "internal/bytealg.CountString", "internal/abi.NoEscape", "internal/bytealg.MakeNoZero"], named := ["internal/bytealg.MaxLen", "stint/verbs.shapes", "stint/verbs.greatest", "internal/strconv.uint64pow10", "math/bits.deBruijn32tab", "math/bits.deBruijn64tab"], apart := false, laid := [("math/bits.deBruijn32tab", laid_math_bits_deBruijn32tab), ("math/bits.deBruijn64tab", laid_math_bits_deBruijn64tab), ("internal/strconv.uint64pow10", laid_internal_strconv_uint64pow10), ("stint/verbs.greatest", laid_stint_verbs_greatest), ("stint/verbs.shapes", laid_stint_verbs_shapes)], narrowed := true }
def VerbsWritesUptoSaid : Prop := verbsWritesUptoRow.holds Tryd.pinned (OpenSpec.upto verbsWritesSpec)

/-- 'stintlaw07.VerbsChecks', WHERE WHAT IT READS IS OF BULK AT MOST 1048576: true; the input reads as it did. -/
def verbsChecksUptoRow : OpenClaim := { program := "ytfecbepleeoibaadoor", sum := "2bb7419f832ad824b90535a2651568cdeb0cfeef686344ff90d2f8c6e1655817", func := "stint/stintlaw07.VerbsChecks", spec := "verbsChecks", inPlace := ["internal/bytealg.IndexByteString", "internal/bytealg.IndexString", "internal/bytealg.CountString", "internal/abi.NoEscape", "internal/bytealg.MakeNoZero"], named := ["internal/bytealg.MaxLen", "stint/verbs.shapes", "stint/verbs.greatest", "internal/strconv.uint64pow10", "math/bits.deBruijn32tab", "math/bits.deBruijn64tab"], apart := false, laid := [("math/bits.deBruijn32tab", laid_math_bits_deBruijn32tab), ("math/bits.deBruijn64tab", laid_math_bits_deBruijn64tab), ("internal/strconv.uint64pow10", laid_internal_strconv_uint64pow10), ("stint/verbs.greatest", laid_stint_verbs_greatest), ("stint/verbs.shapes", laid_stint_verbs_shapes)], narrowed := true }
def VerbsChecksUptoSaid : Prop := verbsChecksUptoRow.holds Tryd.pinned (OpenSpec.upto verbsChecksSpec)

/-- 'stintlaw07.VerbsBack', WHERE WHAT IT READS IS OF BULK AT MOST 1048576: true; the input reads as it did. -/
def verbsBackUptoRow : OpenClaim := { program := "ytfecbepleeoibaadoor", sum := "2bb7419f832ad824b90535a2651568cdeb0cfeef686344ff90d2f8c6e1655817", func := "stint/stintlaw07.VerbsBack", spec := "verbsBack", inPlace := ["internal/bytealg.IndexByteString", "internal/bytealg.IndexString", "internal/bytealg.CountString", "internal/abi.NoEscape", "internal/bytealg.MakeNoZero"], named := ["internal/bytealg.MaxLen", "stint/verbs.shapes", "stint/verbs.greatest", "internal/strconv.uint64pow10", "math/bits.deBruijn32tab", "math/bits.deBruijn64tab"], apart := false, laid := [("math/bits.deBruijn32tab", laid_math_bits_deBruijn32tab), ("math/bits.deBruijn64tab", laid_math_bits_deBruijn64tab), ("internal/strconv.uint64pow10", laid_internal_strconv_uint64pow10), ("stint/verbs.greatest", laid_stint_verbs_greatest), ("stint/verbs.shapes", laid_stint_verbs_shapes)], narrowed := true }
def VerbsBackUptoSaid : Prop := verbsBackUptoRow.holds Tryd.pinned (OpenSpec.upto verbsBackSpec)

/-- 'stintlaw07.VerbsForms', WHERE WHAT IT READS IS OF BULK AT MOST 1048576: true; the input reads as it did. -/
def verbsFormsUptoRow : OpenClaim := { program := "ytfecbepleeoibaadoor", sum := "2bb7419f832ad824b90535a2651568cdeb0cfeef686344ff90d2f8c6e1655817", func := "stint/stintlaw07.VerbsForms", spec := "verbsForms", inPlace := ["internal/bytealg.IndexByteString", "internal/bytealg.IndexString", "internal/bytealg.CountString", "internal/abi.NoEscape", "internal/bytealg.MakeNoZero"], named := ["internal/bytealg.MaxLen", "stint/verbs.shapes", "stint/verbs.greatest", "internal/strconv.uint64pow10", "math/bits.deBruijn32tab", "math/bits.deBruijn64tab"], apart := false, laid := [("math/bits.deBruijn32tab", laid_math_bits_deBruijn32tab), ("math/bits.deBruijn64tab", laid_math_bits_deBruijn64tab), ("internal/strconv.uint64pow10", laid_internal_strconv_uint64pow10), ("stint/verbs.greatest", laid_stint_verbs_greatest), ("stint/verbs.shapes", laid_stint_verbs_shapes)], narrowed := true }
def VerbsFormsUptoSaid : Prop := verbsFormsUptoRow.holds Tryd.pinned (OpenSpec.upto verbsFormsSpec)

end Rows
end Go.Proofs.YtfecbepleeoibaaDoor
