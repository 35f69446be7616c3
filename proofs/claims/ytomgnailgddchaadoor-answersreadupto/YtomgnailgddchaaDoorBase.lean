/-
  What the rows' lists give; a world for the witnesses.
-/
import Derived.Test.YtomgnailgddchaaDoorCards
import Derived.Test.YtomgnailgddchaaDoorTie
import Derived.Test.YtomgnailgddchaaDoorNumber
import Derived.ProofKit
import Derived.OpenShut
import Derived.Deep.DeepHandedRow
import Derived.Lib.LaidTab
import Derived.Lib.LaidU8
namespace Go.Proofs.YtomgnailgddchaaDoor
open Go.ChangeShapes Go.WideShapes Go.ChangeAt Go.RowKit

theorem own : ownKnob Tryd.prog.godebug = none := by kernel_rfl
theorem cellsU64 : Tryd.prog.cellsOf 112 = 1 := by kernel_rfl
theorem cellsPow : Tryd.prog.cellsOf 119 = 20 := by kernel_rfl
theorem gPowType : (Tryd.prog.globals[2]?).map (·.type) = some 119 := by kernel_rfl
theorem powData : (Rows.laid_internal_strconv_uint64pow10 : DataW Unit) = Lib.tabData .u64 Lib.pow10Tab := by kernel_rfl
theorem gForms : Tryd.prog.globalNamed "stint/answers.forms" = some 0 := by kernel_rfl
theorem gFormsType : (Tryd.prog.globals[0]?).map (·.type) = some 68 := by kernel_rfl
theorem gBits : Tryd.prog.globalNamed "math/bits.deBruijn64tab" = some 4 := by kernel_rfl
theorem cellsInt : Tryd.prog.cellsOf 3 = 1 := by kernel_rfl
theorem cellsBool : Tryd.prog.cellsOf 4 = 1 := by kernel_rfl
theorem cellsForm : Tryd.prog.cellsOf 67 = 5 := by kernel_rfl
theorem cellsText : Tryd.prog.cellsOf 9 = 1 := by kernel_rfl
def formData (k : Nat) : DataW Unit := .agg [.lit (.string (wordOf k)), .lit (.int .i64 (idOf k)), .lit (.int .i64 (nuOf k)), .lit (.int .i64 (boOf k)), .lit (.bool (tuOf k))]
theorem formsData : (Rows.laid_stint_answers_forms : DataW Unit) = .agg ((List.range 24).map formData) := by kernel_rfl

/-- The list that every row of this seat bears. -/
def laid4 : List (String × DataW Unit) := [("math/bits.deBruijn32tab", Rows.laid_math_bits_deBruijn32tab), ("math/bits.deBruijn64tab", Rows.laid_math_bits_deBruijn64tab), ("internal/strconv.uint64pow10", Rows.laid_internal_strconv_uint64pow10), ("stint/answers.forms", Rows.laid_stint_answers_forms)]

theorem form_cells {W : World} {cs : List Value} {fuel : Nat} {p : List MemPlace} (k : Nat) (hk : k < 24) (h : DataW.trod (fun _ => ()) Tryd.prog W 0 (fun _ => true) false fuel 68 cs = some (Rows.laid_stint_answers_forms, p)) :
    cs[k * 5]? = some (.string ⟨(wordOf k).toArray⟩) ∧ cs[k * 5 + 1]? = some (.int .i64 (idOf k)) ∧ cs[k * 5 + 2]? = some (.int .i64 (nuOf k)) ∧ cs[k * 5 + 3]? = some (.int .i64 (boOf k)) ∧ cs[k * 5 + 4]? = some (.bool (tuOf k)) := by
  rw [formsData] at h
  obtain ⟨fuel', d, q, hd, hh⟩ := Lib.array_elem Tryd.underlying68 h k hk
  rw [List.getElem?_map, List.getElem?_range hk] at hd
  obtain rfl := Option.some.inj hd
  rw [cellsForm] at hh
  obtain ⟨xs, n, rfl, hx, _, hlen, hfs⟩ := DataW.trod_struct Tryd.underlying67 hh
  have hx1 : xs.map (·.1) = [.lit (.string (wordOf k)), .lit (.int .i64 (idOf k)), .lit (.int .i64 (nuOf k)), .lit (.int .i64 (boOf k)), .lit (.bool (tuOf k))] := by
    have := congrArg Prod.fst hx
    simpa [formData] using this.symm
  have ex : ∀ j, j < 5 → ∃ y, xs[j]? = some y := fun j hj => ⟨_, List.getElem?_eq_getElem (by rw [hlen]; exact hj)⟩
  obtain ⟨y0, e0⟩ := ex 0 (by decide)
  obtain ⟨y1, e1⟩ := ex 1 (by decide)
  obtain ⟨y2, e2⟩ := ex 2 (by decide)
  obtain ⟨y3, e3⟩ := ex 3 (by decide)
  obtain ⟨y4, e4⟩ := ex 4 (by decide)
  have d0 : y0.1 = .lit (.string (wordOf k)) := by have := congrArg (·[0]?) hx1; simpa [e0] using this
  have d1 : y1.1 = .lit (.int .i64 (idOf k)) := by have := congrArg (·[1]?) hx1; simpa [e1] using this
  have d2 : y2.1 = .lit (.int .i64 (nuOf k)) := by have := congrArg (·[2]?) hx1; simpa [e2] using this
  have d3 : y3.1 = .lit (.int .i64 (boOf k)) := by have := congrArg (·[3]?) hx1; simpa [e3] using this
  have d4 : y4.1 = .lit (.bool (tuOf k)) := by have := congrArg (·[4]?) hx1; simpa [e4] using this
  have t0 := (hfs 0 _ rfl).trans e0
  have t1 := (hfs 1 _ rfl).trans e1
  have t2 := (hfs 2 _ rfl).trans e2
  have t3 := (hfs 3 _ rfl).trans e3
  have t4 := (hfs 4 _ rfl).trans e4
  change DataW.trod _ _ _ _ _ _ n 9 ((((cs.drop (k * 5)).take 5).drop 0).take (Tryd.prog.cellsOf 9)) = _ at t0
  change DataW.trod _ _ _ _ _ _ n 3 ((((cs.drop (k * 5)).take 5).drop 1).take (Tryd.prog.cellsOf 3)) = _ at t1
  change DataW.trod _ _ _ _ _ _ n 3 ((((cs.drop (k * 5)).take 5).drop 2).take (Tryd.prog.cellsOf 3)) = _ at t2
  change DataW.trod _ _ _ _ _ _ n 3 ((((cs.drop (k * 5)).take 5).drop 3).take (Tryd.prog.cellsOf 3)) = _ at t3
  change DataW.trod _ _ _ _ _ _ n 4 ((((cs.drop (k * 5)).take 5).drop 4).take (Tryd.prog.cellsOf 4)) = _ at t4
  rw [cellsText] at t0
  rw [cellsInt] at t1 t2 t3
  rw [cellsBool] at t4
  have cut : ∀ (j : Nat) (v : Value), j < 5 → (((cs.drop (k * 5)).take 5).drop j).take 1 = [v] → cs[k * 5 + j]? = some v := by
    intro j v hj hs
    have := congrArg (·[0]?) hs
    simp only [List.getElem?_take, List.getElem?_drop, List.getElem?_cons_zero] at this
    simpa [hj] using this
  refine ⟨?_, ?_, ?_, ?_, ?_⟩
  · obtain ⟨s, hs, hy, _⟩ := DataW.trod_string Tryd.underlying9 t0
    rw [hy] at d0
    have es : s.data.toList = wordOf k := by simpa using d0
    rw [← es]
    simpa using cut 0 _ (by decide) hs
  · obtain ⟨n', hs, hy, _⟩ := DataW.trod_int Tryd.underlying3 t1
    rw [hy] at d1
    have es : n' = idOf k := by simpa using d1
    rw [← es]
    exact cut 1 _ (by decide) hs
  · obtain ⟨n', hs, hy, _⟩ := DataW.trod_int Tryd.underlying3 t2
    rw [hy] at d2
    have es : n' = nuOf k := by simpa using d2
    rw [← es]
    exact cut 2 _ (by decide) hs
  · obtain ⟨n', hs, hy, _⟩ := DataW.trod_int Tryd.underlying3 t3
    rw [hy] at d3
    have es : n' = boOf k := by simpa using d3
    rw [← es]
    exact cut 3 _ (by decide) hs
  · obtain ⟨n', hs, hy⟩ := DataW.trod_bool Tryd.underlying4 t4
    have hy' := congrArg Prod.fst hy
    simp only at hy'
    rw [hy'] at d4
    have es : n' = tuOf k := by simpa using d4
    rw [← es]
    exact cut 4 _ (by decide) hs

theorem tabs_of {W : World} (h : laidMetH Tryd.prog laid4 W) : Tabs W ∧ 5 ≤ W.heap.size := by
  have h : laidMet Tryd.prog laid4 W := h
  have r2 := Lib.laidMet.reads h (n := "math/bits.deBruijn64tab") (d := Rows.laid_math_bits_deBruijn64tab) (by simp [laid4])
  have r3 := Lib.laidMet.reads h (n := "internal/strconv.uint64pow10") (d := Rows.laid_internal_strconv_uint64pow10) (by simp [laid4])
  have r4 := Lib.laidMet.reads h (n := "stint/answers.forms") (d := Rows.laid_stint_answers_forms) (by simp [laid4])
  obtain ⟨g, t, cs, fuel, p, hg, ht, hvar, hd⟩ := r4
  obtain rfl := Option.some.inj (gForms.symm.trans hg)
  obtain rfl := Option.some.inj (gFormsType.symm.trans ht)
  have cell : ∀ j, W.cell? ⟨0, j, none⟩ = cs.toList[j]? := fun j => by rw [World.var?_cell hg hvar, ← Array.getElem?_toList]
  refine ⟨⟨fun k hk => (cell _).trans (form_cells k hk hd).1, fun k hk => (cell _).trans (form_cells k hk hd).2.1, fun k hk => (cell _).trans (form_cells k hk hd).2.2.1, fun k hk => (cell _).trans (form_cells k hk hd).2.2.2.1, fun k hk => (cell _).trans (form_cells k hk hd).2.2.2.2, ?_⟩, ?_⟩
  · obtain ⟨g, t, cs, fuel, p, hg, ht, hvar, hd⟩ := r3
    obtain rfl := Option.some.inj (gPow.symm.trans hg)
    obtain rfl := Option.some.inj (gPowType.symm.trans ht)
    rw [powData] at hd
    unfold PowAt Lib.TabIs
    rw [hvar, ← Lib.cells_of_tab Tryd.underlying119 Tryd.underlying112 cellsU64 cellsPow hd]
  · obtain ⟨g, t, cs, fuel, p, hg, ht, hvar, hd⟩ := r2
    obtain rfl := Option.some.inj (gBits.symm.trans hg)
    unfold World.var? at hvar
    simp only [gBits, Option.bind_some] at hvar
    rcases hx : W.heap[4]? with _ | o
    · simp [hx] at hvar
    · exact (Array.getElem?_eq_some_iff.1 hx).1

theorem int_bounds {n : Int} (h : (Lit.int .i64 n).wf = true) : -9223372036854775808 ≤ n ∧ n ≤ 9223372036854775807 := bounds_i64 h

/-- What lies in a variable of the list when the program has started. -/
def lay (cs : Array Value) : Obj → Obj
  | .cells _ t frozen => .cells cs t frozen
  | o => o
def numsV (k : IntKind) (l : List (DataW Unit)) : Array Value := (l.map fun | .lit (.int _ n) => Value.int k n | _ => Value.bool false).toArray
def parts : DataW Unit → List (DataW Unit)
  | .agg l => l
  | _ => []
def formsA : Array Value := ((List.range 24).flatMap fun k => [Value.string ⟨(wordOf k).toArray⟩, .int .i64 (idOf k), .int .i64 (nuOf k), .int .i64 (boOf k), .bool (tuOf k)]).toArray
end Go.Proofs.YtomgnailgddchaaDoor
