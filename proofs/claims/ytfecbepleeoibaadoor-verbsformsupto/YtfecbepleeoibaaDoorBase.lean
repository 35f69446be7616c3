/-
  What the rows' lists give; a world for the witnesses.
-/
import Derived.Test.YtfecbepleeoibaaDoorCards
import Derived.Test.YtfecbepleeoibaaDoorTie
import Derived.Test.YtfecbepleeoibaaDoorShown
import Derived.ProofKit
import Derived.OpenShut
import Derived.Deep.DeepHandedRow
import Derived.Lib.LaidTab
import Derived.Lib.LaidU8
namespace Go.Proofs.YtfecbepleeoibaaDoor
open Go.ChangeShapes Go.WideShapes Go.ChangeAt Go.RowKit

theorem own : ownKnob Tryd.prog.godebug = none := by kernel_rfl
theorem cellsU64 : Tryd.prog.cellsOf 91 = 1 := by kernel_rfl
theorem cellsPow : Tryd.prog.cellsOf 100 = 20 := by kernel_rfl
theorem gPowType : (Tryd.prog.globals[3]?).map (·.type) = some 100 := by kernel_rfl
theorem powData : (Rows.laid_internal_strconv_uint64pow10 : DataW Unit) = Lib.tabData .u64 Lib.pow10Tab := by kernel_rfl
theorem gGreat : Tryd.prog.globalNamed "stint/verbs.greatest" = some 1 := by kernel_rfl
theorem gGreatType : (Tryd.prog.globals[1]?).map (·.type) = some 58 := by kernel_rfl
theorem cellsInt : Tryd.prog.cellsOf 3 = 1 := by kernel_rfl
theorem cellsNums : Tryd.prog.cellsOf 58 = 6 := by kernel_rfl
theorem greatData : (Rows.laid_stint_verbs_greatest : DataW Unit) = Lib.tabData .i64 ((List.range 6).map great) := by kernel_rfl
theorem gShapes : Tryd.prog.globalNamed "stint/verbs.shapes" = some 0 := by kernel_rfl
theorem gShapesType : (Tryd.prog.globals[0]?).map (·.type) = some 47 := by kernel_rfl
theorem cellsShape : Tryd.prog.cellsOf 46 = 5 := by kernel_rfl
theorem cellsText : Tryd.prog.cellsOf 9 = 1 := by kernel_rfl
theorem cellsField : Tryd.prog.cellsOf 43 = 1 := by kernel_rfl
theorem cellsFields : Tryd.prog.cellsOf 44 = 4 := by kernel_rfl
def shapeData (k : Nat) : DataW Unit := .agg [.lit (.string (verbOf k)), Lib.tabData .u8 ((List.range 4).map fun j => (fldOf k j : Int))]
theorem shapesData : (Rows.laid_stint_verbs_shapes : DataW Unit) = .agg ((List.range 26).map shapeData) := by kernel_rfl

/-- The list that every row of this seat bears. -/
def laid5 : List (String × DataW Unit) := [("math/bits.deBruijn32tab", Rows.laid_math_bits_deBruijn32tab), ("math/bits.deBruijn64tab", Rows.laid_math_bits_deBruijn64tab), ("internal/strconv.uint64pow10", Rows.laid_internal_strconv_uint64pow10), ("stint/verbs.greatest", Rows.laid_stint_verbs_greatest), ("stint/verbs.shapes", Rows.laid_stint_verbs_shapes)]

theorem shape_cells {W : World} {cs : List Value} {fuel : Nat} {p : List MemPlace} (k : Nat) (hk : k < 26) (h : DataW.trod (fun _ => ()) Tryd.prog W 0 (fun _ => true) false fuel 47 cs = some (Rows.laid_stint_verbs_shapes, p)) :
    cs[k * 5]? = some (.string ⟨(verbOf k).toArray⟩) ∧ ∀ j, j < 4 → cs[k * 5 + 1 + j]? = some (.int .u8 (fldOf k j : Int)) := by
  rw [shapesData] at h
  obtain ⟨fuel', d, q, hd, hh⟩ := Lib.array_elem Tryd.underlying47 h k hk
  rw [List.getElem?_map, List.getElem?_range hk] at hd
  obtain rfl := Option.some.inj hd
  rw [cellsShape] at hh
  obtain ⟨xs, n, rfl, hx, _, hlen, hfs⟩ := DataW.trod_struct Tryd.underlying46 hh
  have hx1 : xs.map (·.1) = [.lit (.string (verbOf k)), Lib.tabData .u8 ((List.range 4).map fun j => (fldOf k j : Int))] := by
    have := congrArg Prod.fst hx
    simpa [shapeData] using this.symm
  obtain ⟨y0, e0⟩ : ∃ y, xs[0]? = some y := ⟨_, List.getElem?_eq_getElem (by rw [hlen]; decide)⟩
  obtain ⟨y1, e1⟩ : ∃ y, xs[1]? = some y := ⟨_, List.getElem?_eq_getElem (by rw [hlen]; decide)⟩
  have d0 : y0.1 = .lit (.string (verbOf k)) := by
    have := congrArg (·[0]?) hx1
    simpa [e0] using this
  have d1 : y1.1 = Lib.tabData .u8 ((List.range 4).map fun j => (fldOf k j : Int)) := by
    have := congrArg (·[1]?) hx1
    simpa [e1] using this
  have t0 := (hfs 0 _ rfl).trans e0
  have t1 := (hfs 1 _ rfl).trans e1
  change DataW.trod _ _ _ _ _ _ n 9 ((((cs.drop (k * 5)).take 5).drop 0).take (Tryd.prog.cellsOf 9)) = _ at t0
  change DataW.trod _ _ _ _ _ _ n 44 ((((cs.drop (k * 5)).take 5).drop 1).take (Tryd.prog.cellsOf 44)) = _ at t1
  rw [cellsText] at t0
  rw [cellsFields] at t1
  constructor
  · obtain ⟨s, hs, hy, _⟩ := DataW.trod_string Tryd.underlying9 t0
    rw [hy] at d0
    have es : s.data.toList = verbOf k := by simpa using d0
    have := congrArg (·[0]?) hs
    simp only [List.getElem?_take, List.getElem?_drop, List.getElem?_cons_zero] at this
    rw [← es]
    simpa using this
  · intro j hj
    obtain ⟨y1a, y1b⟩ := y1
    simp only at d1
    subst d1
    have hc := Lib.cells_of_tab Tryd.underlying44 Tryd.underlying43 cellsField cellsFields t1
    have := congrArg (·[j]?) hc
    simp only [List.getElem?_take, List.getElem?_drop, List.getElem?_map, List.getElem?_range hj, Option.map_some] at this
    rw [if_pos (by omega), if_pos (by omega)] at this
    rw [show k * 5 + 1 + j = k * 5 + (1 + j) by omega]
    exact this

theorem tabs_of {W : World} (h : laidMetH Tryd.prog laid5 W) (hS : W.ShapedOpen Tryd.prog) : Tabs W := by
  have h : laidMet Tryd.prog laid5 W := h
  have r3 := Lib.laidMet.reads h (n := "internal/strconv.uint64pow10") (d := Rows.laid_internal_strconv_uint64pow10) (by simp [laid5])
  have r4 := Lib.laidMet.reads h (n := "stint/verbs.greatest") (d := Rows.laid_stint_verbs_greatest) (by simp [laid5])
  have r5 := Lib.laidMet.reads h (n := "stint/verbs.shapes") (d := Rows.laid_stint_verbs_shapes) (by simp [laid5])
  obtain ⟨g, t, cs, fuel, p, hg, ht, hvar, hd⟩ := r5
  obtain rfl := Option.some.inj (gShapes.symm.trans hg)
  obtain rfl := Option.some.inj (gShapesType.symm.trans ht)
  refine ⟨fun k hk => ?_, fun k j hk hj => ?_, fun f hf => ?_, Tryd.laysM145.s1_3 W hS, ?_⟩
  · rw [World.var?_cell hg hvar, ← Array.getElem?_toList]
    exact (shape_cells k hk hd).1
  · rw [World.var?_cell hg hvar, ← Array.getElem?_toList]
    exact (shape_cells k hk hd).2 j hj
  · obtain ⟨g, t, cs, fuel, p, hg, ht, hvar, hd⟩ := r4
    obtain rfl := Option.some.inj (gGreat.symm.trans hg)
    obtain rfl := Option.some.inj (gGreatType.symm.trans ht)
    rw [greatData] at hd
    rw [World.var?_cell hg hvar, ← Array.getElem?_toList, Lib.cells_of_tab Tryd.underlying58 Tryd.underlying3 cellsInt cellsNums hd]
    simp [hf]
  · obtain ⟨g, t, cs, fuel, p, hg, ht, hvar, hd⟩ := r3
    obtain rfl := Option.some.inj (gPow.symm.trans hg)
    obtain rfl := Option.some.inj (gPowType.symm.trans ht)
    rw [powData] at hd
    unfold Lib.TabIs
    rw [hvar, ← Lib.cells_of_tab Tryd.underlying100 Tryd.underlying91 cellsU64 cellsPow hd]

theorem int_bounds {n : Int} (h : (Lit.int .i64 n).wf = true) : -9223372036854775808 ≤ n ∧ n ≤ 9223372036854775807 := bounds_i64 h

/-- What lies in a variable of the list when the program has started. -/
def lay (cs : Array Value) : Obj → Obj
  | .cells _ t frozen => .cells cs t frozen
  | o => o
def nums (k : IntKind) (l : List (DataW Unit)) : Array Value := (l.map fun | .lit (.int _ n) => Value.int k n | _ => Value.bool false).toArray
def parts : DataW Unit → List (DataW Unit)
  | .agg l => l
  | _ => []
def shapesA : Array Value := ((List.range 26).flatMap fun k => Value.string ⟨(verbOf k).toArray⟩ :: (List.range 4).map fun j => Value.int .u8 (fldOf k j : Int)).toArray
end Go.Proofs.YtfecbepleeoibaaDoor
