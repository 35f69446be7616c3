/-
  The whole as an argument, opened; what the rows' lists give of the verbs.
-/
import Derived.Test.YthapbnlcodkalaaDoorBaseFig
import Derived.Test.YthapbnlcodkalaaDoorShopKit
import Derived.Lib.LaidU8
namespace Go.Proofs.YthapbnlcodkalaaDoor
open Go.ChangeShapes Go.WideShapes Go.ChangeAt Go.RowKit

def fldT : List (List Nat) := [[0, 0, 0, 0], [2, 3, 4, 5], [6, 0, 0, 0], [0, 0, 0, 0], [5, 0, 0, 0], [1, 0, 0, 0], [1, 0, 0, 0], [1, 2, 3, 0], [1, 2, 0, 0], [1, 0, 0, 0], [6, 0, 0, 0], [6, 0, 0, 0], [1, 0, 0, 0], [0, 0, 0, 0], [0, 0, 0, 0], [0, 0, 0, 0], [5, 0, 0, 0], [1, 0, 0, 0], [1, 0, 0, 0], [6, 0, 0, 0], [0, 0, 0, 0], [0, 0, 0, 0], [0, 0, 0, 0], [0, 0, 0, 0], [6, 5, 0, 0], [0, 0, 0, 0]]
def fldOf (k j : Nat) : Nat := (fldT.getD k []).getD j 0
theorem cellsShape : Tryd.prog.cellsOf 80 = 5 := by kernel_rfl
theorem cellsText : Tryd.prog.cellsOf 9 = 1 := by kernel_rfl
def shapeData (k : Nat) : DataW Unit := .agg [.lit (.string (verbOf k)), Lib.tabData .u8 ((List.range 4).map fun j => (fldOf k j : Int))]
theorem shapesData : (Rows.laid_stint_verbs_shapes : DataW Unit) = .agg ((List.range 26).map shapeData) := by kernel_rfl
theorem gShapes : Tryd.prog.globalNamed "stint/verbs.shapes" = some 0 := by kernel_rfl
theorem gShapesType : (Tryd.prog.globals[0]?).map (·.type) = some 81 := by kernel_rfl
def laid4 : List (String × DataW Unit) := [("math/bits.deBruijn32tab", Rows.laid_math_bits_deBruijn32tab), ("math/bits.deBruijn64tab", Rows.laid_math_bits_deBruijn64tab), ("internal/strconv.uint64pow10", Rows.laid_internal_strconv_uint64pow10), ("stint/verbs.shapes", Rows.laid_stint_verbs_shapes)]
theorem shape_cells {W : World} {cs : List Value} {fuel : Nat} {p : List MemPlace} (k : Nat) (hk : k < 26) (h : DataW.trod (fun _ => ()) Tryd.prog W 0 (fun _ => true) false fuel 81 cs = some (Rows.laid_stint_verbs_shapes, p)) :
    cs[k * 5]? = some (.string ⟨(verbOf k).toArray⟩) := by
  rw [shapesData] at h
  obtain ⟨fuel', d, q, hd, hh⟩ := Lib.array_elem Tryd.underlying81 h k hk
  rw [List.getElem?_map, List.getElem?_range hk] at hd
  obtain rfl := Option.some.inj hd
  rw [cellsShape] at hh
  obtain ⟨xs, n, rfl, hx, _, hlen, hfs⟩ := DataW.trod_struct Tryd.underlying80 hh
  have hx1 : xs.map (·.1) = [.lit (.string (verbOf k)), Lib.tabData .u8 ((List.range 4).map fun j => (fldOf k j : Int))] := by
    have := congrArg Prod.fst hx
    simpa [shapeData] using this.symm
  obtain ⟨y0, e0⟩ : ∃ y, xs[0]? = some y := ⟨_, List.getElem?_eq_getElem (by rw [hlen]; decide)⟩
  have d0 : y0.1 = .lit (.string (verbOf k)) := by
    have := congrArg (·[0]?) hx1
    simpa [e0] using this
  have t0 := (hfs 0 _ rfl).trans e0
  change DataW.trod _ _ _ _ _ _ n 9 ((((cs.drop (k * 5)).take 5).drop 0).take (Tryd.prog.cellsOf 9)) = _ at t0
  rw [cellsText] at t0
  obtain ⟨s, hs, hy, _⟩ := DataW.trod_string Tryd.underlying9 t0
  rw [hy] at d0
  have es : s.data.toList = verbOf k := by simpa using d0
  have := congrArg (·[0]?) hs
  simp only [List.getElem?_take, List.getElem?_drop, List.getElem?_cons_zero] at this
  rw [← es]
  simpa using this
theorem tables {W : World} (h : laidMetH Tryd.prog laid4 W) : PowAt W ∧ VTab W := by
  have h : laidMet Tryd.prog laid4 W := h
  obtain ⟨ps, ⟨_, _, _, _, _, _, _, _, _, _, ⟨_, _, _, _, _, _, _, _, _, _, ⟨g', t', cs, fuel, p, q, hg', ht', hvar, hd, ⟨g2, t2, cs2, fuel2, p2, q2, hg2, ht2, hvar2, hd2, _, _⟩, _⟩, _⟩, _⟩, _⟩ := h
  constructor
  · obtain rfl := Option.some.inj (gPow.symm.trans hg')
    obtain rfl := Option.some.inj (gPowType.symm.trans ht')
    rw [powData] at hd
    unfold PowAt Lib.TabIs
    rw [hvar, ← Lib.cells_of_tab Tryd.underlying96 Tryd.underlying89 cellsU64 cellsPow hd]
  · intro k hk
    obtain rfl := Option.some.inj (gShapes.symm.trans hg2)
    obtain rfl := Option.some.inj (gShapesType.symm.trans ht2)
    rw [World.var?_cell hg2 hvar2, ← Array.getElem?_toList]
    exact shape_cells k hk hd2
theorem int_cell {H : Type} {enc : TypeId × Value → H} {W : World} {n q : Nat} {l : List Value} {y : DataW H × List MemPlace} (h : DataW.trod enc Tryd.prog W 0 (fun _ => true) true n 3 ((l.drop q).take 1) = some y) : ∃ m, l[q]? = some (.int .i64 m) ∧ I64 m := by
  obtain ⟨m, hc, _, hw⟩ := DataW.trod_int Tryd.underlying3 h
  refine ⟨m, ?_, int_bounds hw⟩
  have := congrArg (·[0]?) hc
  simpa [List.getElem?_take, List.getElem?_drop] using this
def shapesA : Array Value := ((List.range 26).flatMap fun k => Value.string ⟨(verbOf k).toArray⟩ :: (List.range 4).map fun j => Value.int .u8 (fldOf k j : Int)).toArray
def shop0A : Array Value := (List.replicate 48 (Value.int .i64 0) ++ [Value.bool false]).toArray
def shop0D {H : Type} : DataW H := .agg ([.lit (.int .i64 0), .lit (.int .i64 0), .agg (List.replicate 5 (.lit (.int .i64 0))), .agg (List.replicate 26 (.lit (.int .i64 0)))] ++ List.replicate 15 (.lit (.int .i64 0)) ++ [.lit (.bool false)])
def numOf : Option Value → Int
  | some (.int _ m) => m
  | _ => 0
set_option maxRecDepth 100000 in
theorem open_shop {H : Type} {enc : TypeId × Value → H} {W : World} {base : Nat} {v : Value} {d : DataW H} {p : List MemPlace} (hv : Value.okWide Tryd.prog W .any base 43 v) (h : DataW.Trod enc Tryd.prog W 0 (fun _ => true) true 43 v d p) :
    ∃ s : Sp, v = .agg s.cells ∧ s.ok := by
  obtain ⟨cs, rfl, hsz⟩ := okWide_struct Tryd.underlying43 hv
  obtain ⟨fuel, hf⟩ := h
  obtain ⟨xs, n, _, hx, hl, hlen, hfs⟩ := DataW.trod_struct Tryd.underlying43 hf
  have hz : Tryd.prog.cellsOf 43 = 49 := by kernel_rfl
  rw [hz] at hl
  obtain ⟨l⟩ := cs
  have hl : l.length = 49 := hl
  have z3 : Tryd.prog.cellsOf 3 = 1 := by kernel_rfl
  have z4 : Tryd.prog.cellsOf 4 = 1 := by kernel_rfl
  have z36 : Tryd.prog.cellsOf 36 = 5 := by kernel_rfl
  have z41 : Tryd.prog.cellsOf 41 = 26 := by kernel_rfl
  have each : ∀ (i : Nat), i < 20 → ∃ y, xs[i]? = some y := fun i hi => ⟨_, List.getElem?_eq_getElem (by rw [hlen]; exact hi)⟩
  have g0 : ∃ m, l[0]? = some (.int .i64 m) ∧ I64 m := by
    obtain ⟨y, e⟩ := each 0 (by decide)
    have t := (hfs 0 _ rfl).trans e
    change DataW.trod enc Tryd.prog W 0 (fun _ => true) true n 3 ((l.drop 0).take (Tryd.prog.cellsOf 3)) = _ at t
    rw [z3] at t
    exact int_cell t
  have g1 : ∃ m, l[1]? = some (.int .i64 m) ∧ I64 m := by
    obtain ⟨y, e⟩ := each 1 (by decide)
    have t := (hfs 1 _ rfl).trans e
    change DataW.trod enc Tryd.prog W 0 (fun _ => true) true n 3 ((l.drop 1).take (Tryd.prog.cellsOf 3)) = _ at t
    rw [z3] at t
    exact int_cell t
  have g33 : ∃ m, l[33]? = some (.int .i64 m) ∧ I64 m := by
    obtain ⟨y, e⟩ := each 4 (by decide)
    have t := (hfs 4 _ rfl).trans e
    change DataW.trod enc Tryd.prog W 0 (fun _ => true) true n 3 ((l.drop 33).take (Tryd.prog.cellsOf 3)) = _ at t
    rw [z3] at t
    exact int_cell t
  have g34 : ∃ m, l[34]? = some (.int .i64 m) ∧ I64 m := by
    obtain ⟨y, e⟩ := each 5 (by decide)
    have t := (hfs 5 _ rfl).trans e
    change DataW.trod enc Tryd.prog W 0 (fun _ => true) true n 3 ((l.drop 34).take (Tryd.prog.cellsOf 3)) = _ at t
    rw [z3] at t
    exact int_cell t
  have g35 : ∃ m, l[35]? = some (.int .i64 m) ∧ I64 m := by
    obtain ⟨y, e⟩ := each 6 (by decide)
    have t := (hfs 6 _ rfl).trans e
    change DataW.trod enc Tryd.prog W 0 (fun _ => true) true n 3 ((l.drop 35).take (Tryd.prog.cellsOf 3)) = _ at t
    rw [z3] at t
    exact int_cell t
  have g36 : ∃ m, l[36]? = some (.int .i64 m) ∧ I64 m := by
    obtain ⟨y, e⟩ := each 7 (by decide)
    have t := (hfs 7 _ rfl).trans e
    change DataW.trod enc Tryd.prog W 0 (fun _ => true) true n 3 ((l.drop 36).take (Tryd.prog.cellsOf 3)) = _ at t
    rw [z3] at t
    exact int_cell t
  have g37 : ∃ m, l[37]? = some (.int .i64 m) ∧ I64 m := by
    obtain ⟨y, e⟩ := each 8 (by decide)
    have t := (hfs 8 _ rfl).trans e
    change DataW.trod enc Tryd.prog W 0 (fun _ => true) true n 3 ((l.drop 37).take (Tryd.prog.cellsOf 3)) = _ at t
    rw [z3] at t
    exact int_cell t
  have g38 : ∃ m, l[38]? = some (.int .i64 m) ∧ I64 m := by
    obtain ⟨y, e⟩ := each 9 (by decide)
    have t := (hfs 9 _ rfl).trans e
    change DataW.trod enc Tryd.prog W 0 (fun _ => true) true n 3 ((l.drop 38).take (Tryd.prog.cellsOf 3)) = _ at t
    rw [z3] at t
    exact int_cell t
  have g39 : ∃ m, l[39]? = some (.int .i64 m) ∧ I64 m := by
    obtain ⟨y, e⟩ := each 10 (by decide)
    have t := (hfs 10 _ rfl).trans e
    change DataW.trod enc Tryd.prog W 0 (fun _ => true) true n 3 ((l.drop 39).take (Tryd.prog.cellsOf 3)) = _ at t
    rw [z3] at t
    exact int_cell t
  have g40 : ∃ m, l[40]? = some (.int .i64 m) ∧ I64 m := by
    obtain ⟨y, e⟩ := each 11 (by decide)
    have t := (hfs 11 _ rfl).trans e
    change DataW.trod enc Tryd.prog W 0 (fun _ => true) true n 3 ((l.drop 40).take (Tryd.prog.cellsOf 3)) = _ at t
    rw [z3] at t
    exact int_cell t
  have g41 : ∃ m, l[41]? = some (.int .i64 m) ∧ I64 m := by
    obtain ⟨y, e⟩ := each 12 (by decide)
    have t := (hfs 12 _ rfl).trans e
    change DataW.trod enc Tryd.prog W 0 (fun _ => true) true n 3 ((l.drop 41).take (Tryd.prog.cellsOf 3)) = _ at t
    rw [z3] at t
    exact int_cell t
  have g42 : ∃ m, l[42]? = some (.int .i64 m) ∧ I64 m := by
    obtain ⟨y, e⟩ := each 13 (by decide)
    have t := (hfs 13 _ rfl).trans e
    change DataW.trod enc Tryd.prog W 0 (fun _ => true) true n 3 ((l.drop 42).take (Tryd.prog.cellsOf 3)) = _ at t
    rw [z3] at t
    exact int_cell t
  have g43 : ∃ m, l[43]? = some (.int .i64 m) ∧ I64 m := by
    obtain ⟨y, e⟩ := each 14 (by decide)
    have t := (hfs 14 _ rfl).trans e
    change DataW.trod enc Tryd.prog W 0 (fun _ => true) true n 3 ((l.drop 43).take (Tryd.prog.cellsOf 3)) = _ at t
    rw [z3] at t
    exact int_cell t
  have g44 : ∃ m, l[44]? = some (.int .i64 m) ∧ I64 m := by
    obtain ⟨y, e⟩ := each 15 (by decide)
    have t := (hfs 15 _ rfl).trans e
    change DataW.trod enc Tryd.prog W 0 (fun _ => true) true n 3 ((l.drop 44).take (Tryd.prog.cellsOf 3)) = _ at t
    rw [z3] at t
    exact int_cell t
  have g45 : ∃ m, l[45]? = some (.int .i64 m) ∧ I64 m := by
    obtain ⟨y, e⟩ := each 16 (by decide)
    have t := (hfs 16 _ rfl).trans e
    change DataW.trod enc Tryd.prog W 0 (fun _ => true) true n 3 ((l.drop 45).take (Tryd.prog.cellsOf 3)) = _ at t
    rw [z3] at t
    exact int_cell t
  have g46 : ∃ m, l[46]? = some (.int .i64 m) ∧ I64 m := by
    obtain ⟨y, e⟩ := each 17 (by decide)
    have t := (hfs 17 _ rfl).trans e
    change DataW.trod enc Tryd.prog W 0 (fun _ => true) true n 3 ((l.drop 46).take (Tryd.prog.cellsOf 3)) = _ at t
    rw [z3] at t
    exact int_cell t
  have g47 : ∃ m, l[47]? = some (.int .i64 m) ∧ I64 m := by
    obtain ⟨y, e⟩ := each 18 (by decide)
    have t := (hfs 18 _ rfl).trans e
    change DataW.trod enc Tryd.prog W 0 (fun _ => true) true n 3 ((l.drop 47).take (Tryd.prog.cellsOf 3)) = _ at t
    rw [z3] at t
    exact int_cell t
  have gs : ∀ i, i < 5 → ∃ m, l[2 + i]? = some (.int .i64 m) ∧ I64 m := by
    obtain ⟨y, e⟩ := each 2 (by decide)
    have t := (hfs 2 _ rfl).trans e
    change DataW.trod enc Tryd.prog W 0 (fun _ => true) true n 36 ((l.drop 2).take (Tryd.prog.cellsOf 36)) = _ at t
    rw [z36] at t
    obtain ⟨ks, q, _, _, _, hlenk, hfk⟩ := DataW.trod_struct Tryd.underlying36 t
    have eachk : ∀ (i : Nat), i < 5 → ∃ y, ks[i]? = some y := fun i hi => ⟨_, List.getElem?_eq_getElem (by rw [hlenk]; exact hi)⟩
    have lift : ∀ i, i < 5 → (∃ m, ((l.drop 2).take 5)[i]? = some (.int .i64 m) ∧ I64 m) → ∃ m, l[2 + i]? = some (.int .i64 m) ∧ I64 m := fun i hi ⟨m, hm, hb⟩ => ⟨m, by rw [List.getElem?_take_of_lt hi, List.getElem?_drop] at hm; exact hm, hb⟩
    have r0 : ∃ m, ((l.drop 2).take 5)[0]? = some (.int .i64 m) ∧ I64 m := by
      obtain ⟨y, e⟩ := eachk 0 (by decide)
      have t := (hfk 0 _ rfl).trans e
      change DataW.trod enc Tryd.prog W 0 (fun _ => true) true q 3 ((((l.drop 2).take 5).drop 0).take (Tryd.prog.cellsOf 3)) = _ at t
      rw [z3] at t
      exact int_cell t
    have r1 : ∃ m, ((l.drop 2).take 5)[1]? = some (.int .i64 m) ∧ I64 m := by
      obtain ⟨y, e⟩ := eachk 1 (by decide)
      have t := (hfk 1 _ rfl).trans e
      change DataW.trod enc Tryd.prog W 0 (fun _ => true) true q 3 ((((l.drop 2).take 5).drop 1).take (Tryd.prog.cellsOf 3)) = _ at t
      rw [z3] at t
      exact int_cell t
    have r2 : ∃ m, ((l.drop 2).take 5)[2]? = some (.int .i64 m) ∧ I64 m := by
      obtain ⟨y, e⟩ := eachk 2 (by decide)
      have t := (hfk 2 _ rfl).trans e
      change DataW.trod enc Tryd.prog W 0 (fun _ => true) true q 3 ((((l.drop 2).take 5).drop 2).take (Tryd.prog.cellsOf 3)) = _ at t
      rw [z3] at t
      exact int_cell t
    have r3 : ∃ m, ((l.drop 2).take 5)[3]? = some (.int .i64 m) ∧ I64 m := by
      obtain ⟨y, e⟩ := eachk 3 (by decide)
      have t := (hfk 3 _ rfl).trans e
      change DataW.trod enc Tryd.prog W 0 (fun _ => true) true q 3 ((((l.drop 2).take 5).drop 3).take (Tryd.prog.cellsOf 3)) = _ at t
      rw [z3] at t
      exact int_cell t
    have r4 : ∃ m, ((l.drop 2).take 5)[4]? = some (.int .i64 m) ∧ I64 m := by
      obtain ⟨y, e⟩ := eachk 4 (by decide)
      have t := (hfk 4 _ rfl).trans e
      change DataW.trod enc Tryd.prog W 0 (fun _ => true) true q 3 ((((l.drop 2).take 5).drop 4).take (Tryd.prog.cellsOf 3)) = _ at t
      rw [z3] at t
      exact int_cell t
    intro i hi
    refine lift i hi ?_
    rcases (show i = 0 ∨ i = 1 ∨ i = 2 ∨ i = 3 ∨ i = 4 by omega) with rfl | rfl | rfl | rfl | rfl
    · exact r0
    · exact r1
    · exact r2
    · exact r3
    · exact r4
  have ga : ∀ i, i < 26 → ∃ m, l[7 + i]? = some (.int .i64 m) ∧ I64 m := by
    obtain ⟨y, e⟩ := each 3 (by decide)
    have t := (hfs 3 _ rfl).trans e
    change DataW.trod enc Tryd.prog W 0 (fun _ => true) true n 41 ((l.drop 7).take (Tryd.prog.cellsOf 41)) = _ at t
    rw [z41] at t
    obtain ⟨ks, q, _, _, _, hlenk, hfk⟩ := DataW.trod_array Tryd.underlying41 t
    intro i hi
    obtain ⟨y, e⟩ : ∃ y, ks[i]? = some y := ⟨_, List.getElem?_eq_getElem (by rw [hlenk]; exact hi)⟩
    have t := (hfk i hi).trans e
    rw [z3, Nat.mul_one] at t
    obtain ⟨m, hm, hb⟩ := int_cell t
    exact ⟨m, by rw [List.getElem?_take_of_lt hi, List.getElem?_drop] at hm; exact hm, hb⟩
  have gb : ∃ b, l[48]? = some (.bool b) := by
    obtain ⟨y, e⟩ := each 19 (by decide)
    have t := (hfs 19 _ rfl).trans e
    change DataW.trod enc Tryd.prog W 0 (fun _ => true) true n 4 ((l.drop 48).take (Tryd.prog.cellsOf 4)) = _ at t
    rw [z4] at t
    obtain ⟨b, hc, _⟩ := DataW.trod_bool Tryd.underlying4 t
    refine ⟨b, ?_⟩
    have := congrArg (·[0]?) hc
    simpa [List.getElem?_take, List.getElem?_drop] using this
  have g : ∀ k, k < 48 → ∃ m, l[k]? = some (.int .i64 m) ∧ I64 m := by
    intro k hk
    by_cases h2 : k < 2
    · rcases (show k = 0 ∨ k = 1 by omega) with rfl | rfl
      · exact g0
      · exact g1
    by_cases h7 : k < 7
    · obtain ⟨i, rfl⟩ : ∃ i, k = 2 + i := ⟨k - 2, by omega⟩
      exact gs i (by omega)
    by_cases h33 : k < 33
    · obtain ⟨i, rfl⟩ : ∃ i, k = 7 + i := ⟨k - 7, by omega⟩
      exact ga i (by omega)
    rcases (show k = 33 ∨ k = 34 ∨ k = 35 ∨ k = 36 ∨ k = 37 ∨ k = 38 ∨ k = 39 ∨ k = 40 ∨ k = 41 ∨ k = 42 ∨ k = 43 ∨ k = 44 ∨ k = 45 ∨ k = 46 ∨ k = 47 by omega) with rfl | rfl | rfl | rfl | rfl | rfl | rfl | rfl | rfl | rfl | rfl | rfl | rfl | rfl | rfl
    · exact g33
    · exact g34
    · exact g35
    · exact g36
    · exact g37
    · exact g38
    · exact g39
    · exact g40
    · exact g41
    · exact g42
    · exact g43
    · exact g44
    · exact g45
    · exact g46
    · exact g47
  obtain ⟨b, hb⟩ := gb
  refine ⟨⟨fun k => numOf l[k]?, b⟩, ?_, fun k hk => ?_⟩
  · congr 1
    apply Array.ext'
    apply List.ext_getElem?
    intro k
    show l[k]? = (((List.range 48).map fun k => Value.int .i64 (numOf l[k]?)) ++ [Value.bool b])[k]?
    by_cases hk : k < 48
    · obtain ⟨m, hm, _⟩ := g k hk
      rw [List.getElem?_append_left (by simpa using hk), List.getElem?_map, List.getElem?_range hk, hm]
      simp [hm, numOf]
    · rw [List.getElem?_append_right (by simp; omega)]
      by_cases h48 : k = 48
      · subst h48
        simp [hb]
      · rw [List.getElem?_eq_none (by omega), List.getElem?_eq_none (by simp; omega)]
  · obtain ⟨m, hm, hi⟩ := g k hk
    show I64 (numOf l[k]?)
    rw [hm]
    exact hi
end Go.Proofs.YthapbnlcodkalaaDoor
