/-
  What the rows' lists give; a world for the witnesses.
-/
import Derived.Test.YteaccpolmmkclaaDoorCards
import Derived.Test.YteaccpolmmkclaaDoorTie
import Derived.Test.YteaccpolmmkclaaDoorPanA
import Derived.Test.YteaccpolmmkclaaDoorShelf
import Derived.ProofKit
import Derived.OpenShut
import Derived.Deep.DeepHandedRow
import Derived.Lib.LaidTab
import Derived.Lib.LaidU8
namespace Go.Proofs.YteaccpolmmkclaaDoor
open Go.ChangeShapes Go.WideShapes Go.ChangeAt Go.RowKit

theorem own : ownKnob Tryd.prog.godebug = none := by kernel_rfl
theorem cellsU64 : Tryd.prog.cellsOf 115 = 1 := by kernel_rfl
theorem cellsPow : Tryd.prog.cellsOf 121 = 20 := by kernel_rfl
theorem gPowType : (Tryd.prog.globals[3]?).map (·.type) = some 121 := by kernel_rfl
theorem powData : (Rows.laid_internal_strconv_uint64pow10 : DataW Unit) = Lib.tabData .u64 Lib.pow10Tab := by kernel_rfl
theorem gForms : Tryd.prog.globalNamed "stint/script.forms" = some 0 := by kernel_rfl
theorem gFormsType : (Tryd.prog.globals[0]?).map (·.type) = some 88 := by kernel_rfl
theorem gLetters : Tryd.prog.globalNamed "stint/script.letters" = some 1 := by kernel_rfl
theorem gLettersType : (Tryd.prog.globals[1]?).map (·.type) = some 97 := by kernel_rfl
theorem cellsForm : Tryd.prog.cellsOf 87 = 5 := by kernel_rfl
theorem cellsForms : Tryd.prog.cellsOf 88 = 40 := by kernel_rfl
theorem cellsLetter : Tryd.prog.cellsOf 96 = 2 := by kernel_rfl
theorem cellsLetters : Tryd.prog.cellsOf 97 = 8 := by kernel_rfl
theorem cellsText : Tryd.prog.cellsOf 9 = 1 := by kernel_rfl
theorem cellsBool : Tryd.prog.cellsOf 4 = 1 := by kernel_rfl
theorem cellsU8 : Tryd.prog.cellsOf 5 = 1 := by kernel_rfl
def formD (k : Nat) (j : Nat) : Bool := match formP (k : Int) with | none => false | some (a, b, c, d) => match j with | 0 => a | 1 => b | 2 => c | _ => d
def formData (k : Nat) : DataW Unit := .agg [.lit (.string (wordP k)), .lit (.bool (formD k 0)), .lit (.bool (formD k 1)), .lit (.bool (formD k 2)), .lit (.bool (formD k 3))]
theorem formsData : (Rows.laid_stint_script_forms : DataW Unit) = .agg ((List.range 8).map formData) := by kernel_rfl
def letL (k : Nat) : Int := match k with | 0 => 115 | 1 => 114 | 2 => 110 | _ => 92
def letR (k : Nat) : Int := match k with | 0 => 32 | 1 => 13 | 2 => 10 | _ => 92
def letterData (k : Nat) : DataW Unit := .agg [.lit (.int .u8 (letL k)), .lit (.int .u8 (letR k))]
theorem lettersData : (Rows.laid_stint_script_letters : DataW Unit) = .agg ((List.range 4).map letterData) := by kernel_rfl
/-- The list that every row of this seat bears. -/
def laid5 : List (String × DataW Unit) := [("math/bits.deBruijn32tab", Rows.laid_math_bits_deBruijn32tab), ("math/bits.deBruijn64tab", Rows.laid_math_bits_deBruijn64tab), ("internal/strconv.uint64pow10", Rows.laid_internal_strconv_uint64pow10), ("stint/script.letters", Rows.laid_stint_script_letters), ("stint/script.forms", Rows.laid_stint_script_forms)]
theorem array_len {W : World} {cs : List Value} {fuel n : Nat} {t e : TypeId} {d : DataW Unit} {p : List MemPlace} (ht : Tryd.prog.underlying t = some (.array n e)) (h : DataW.trod (fun _ => ()) Tryd.prog W 0 (fun _ => true) false fuel t cs = some (d, p)) : cs.length = Tryd.prog.cellsOf t := by
  cases fuel with
  | zero => simp [DataW.trod] at h
  | succ fuel =>
    simp only [DataW.trod, ht] at h
    split at h
    · rename_i hl
      first | exact hl | exact hl.1 | (simp at hl; omega)
    · cases h
theorem form_cells {W : World} {cs : List Value} {fuel : Nat} {p : List MemPlace} (k : Nat) (hk : k < 8) (h : DataW.trod (fun _ => ()) Tryd.prog W 0 (fun _ => true) false fuel 88 cs = some (Rows.laid_stint_script_forms, p)) :
    cs[k * 5]? = some (.string ⟨(wordP k).toArray⟩) ∧ ∀ j, j < 4 → cs[k * 5 + 1 + j]? = some (.bool (formD k j)) := by
  rw [formsData] at h
  obtain ⟨fuel', d, q, hd, hh⟩ := Lib.array_elem Tryd.underlying88 h k hk
  rw [List.getElem?_map, List.getElem?_range hk] at hd
  obtain rfl := Option.some.inj hd
  rw [cellsForm] at hh
  obtain ⟨xs, n, rfl, hx, _, hlen, hfs⟩ := DataW.trod_struct Tryd.underlying87 hh
  have hx1 : xs.map (·.1) = [.lit (.string (wordP k)), .lit (.bool (formD k 0)), .lit (.bool (formD k 1)), .lit (.bool (formD k 2)), .lit (.bool (formD k 3))] := by
    have := congrArg Prod.fst hx
    simpa [formData] using this.symm
  obtain ⟨y0, e0⟩ : ∃ y, xs[0]? = some y := ⟨_, List.getElem?_eq_getElem (by rw [hlen]; decide)⟩
  have d0 : y0.1 = .lit (.string (wordP k)) := by
    have := congrArg (·[0]?) hx1
    simpa [e0] using this
  have t0 := (hfs 0 _ rfl).trans e0
  change DataW.trod _ _ _ _ _ _ n 9 ((((cs.drop (k * 5)).take 5).drop 0).take (Tryd.prog.cellsOf 9)) = _ at t0
  rw [cellsText] at t0
  constructor
  · obtain ⟨s, hs, hy, _⟩ := DataW.trod_string Tryd.underlying9 t0
    rw [hy] at d0
    have es : s.data.toList = wordP k := by simpa using d0
    have := congrArg (·[0]?) hs
    simp only [List.getElem?_take, List.getElem?_drop, List.getElem?_cons_zero] at this
    rw [← es]
    simpa using this
  · intro j hj
    obtain ⟨y1, e1⟩ : ∃ y, xs[j + 1]? = some y := ⟨_, List.getElem?_eq_getElem (by rw [hlen]; show j + 1 < 5; omega)⟩
    have d1 : y1.1 = .lit (.bool (formD k j)) := by
      have := congrArg (·[j + 1]?) hx1
      rw [List.getElem?_map, e1] at this
      rcases (show j = 0 ∨ j = 1 ∨ j = 2 ∨ j = 3 by omega) with rfl | rfl | rfl | rfl <;> simpa using this
    have t1 : DataW.trod (fun _ => ()) Tryd.prog W 0 (fun _ => true) false n 4 ((((cs.drop (k * 5)).take 5).drop (j + 1)).take (Tryd.prog.cellsOf 4)) = some y1 := by
      rcases (show j = 0 ∨ j = 1 ∨ j = 2 ∨ j = 3 by omega) with rfl | rfl | rfl | rfl
      · exact (hfs 1 _ rfl).trans e1
      · exact (hfs 2 _ rfl).trans e1
      · exact (hfs 3 _ rfl).trans e1
      · exact (hfs 4 _ rfl).trans e1
    rw [cellsBool] at t1
    obtain ⟨b, hs, hy⟩ := DataW.trod_bool Tryd.underlying4 t1
    rw [hy] at d1
    have es : b = formD k j := by simpa using d1
    have := congrArg (·[0]?) hs
    simp only [List.getElem?_take, List.getElem?_drop, List.getElem?_cons_zero] at this
    rw [if_pos (by omega), if_pos (by omega)] at this
    rw [← es, show k * 5 + 1 + j = k * 5 + (j + 1 + 0) by omega]
    exact this
theorem letter_cells {W : World} {cs : List Value} {fuel : Nat} {p : List MemPlace} (k : Nat) (hk : k < 4) (h : DataW.trod (fun _ => ()) Tryd.prog W 0 (fun _ => true) false fuel 97 cs = some (Rows.laid_stint_script_letters, p)) :
    cs[k * 2]? = some (.int .u8 (letL k)) ∧ cs[k * 2 + 1]? = some (.int .u8 (letR k)) := by
  rw [lettersData] at h
  obtain ⟨fuel', d, q, hd, hh⟩ := Lib.array_elem Tryd.underlying97 h k hk
  rw [List.getElem?_map, List.getElem?_range hk] at hd
  obtain rfl := Option.some.inj hd
  rw [cellsLetter] at hh
  obtain ⟨xs, n, rfl, hx, _, hlen, hfs⟩ := DataW.trod_struct Tryd.underlying96 hh
  have hx1 : xs.map (·.1) = [.lit (.int .u8 (letL k)), .lit (.int .u8 (letR k))] := by
    have := congrArg Prod.fst hx
    simpa [letterData] using this.symm
  obtain ⟨y0, e0⟩ : ∃ y, xs[0]? = some y := ⟨_, List.getElem?_eq_getElem (by rw [hlen]; decide)⟩
  obtain ⟨y1, e1⟩ : ∃ y, xs[1]? = some y := ⟨_, List.getElem?_eq_getElem (by rw [hlen]; decide)⟩
  have d0 : y0.1 = .lit (.int .u8 (letL k)) := by
    have := congrArg (·[0]?) hx1
    simpa [e0] using this
  have d1 : y1.1 = .lit (.int .u8 (letR k)) := by
    have := congrArg (·[1]?) hx1
    simpa [e1] using this
  have t0 : DataW.trod (fun _ => ()) Tryd.prog W 0 (fun _ => true) false n 5 ((((cs.drop (k * 2)).take 2).drop 0).take (Tryd.prog.cellsOf 5)) = some y0 := (hfs 0 _ rfl).trans e0
  have t1 : DataW.trod (fun _ => ()) Tryd.prog W 0 (fun _ => true) false n 5 ((((cs.drop (k * 2)).take 2).drop 1).take (Tryd.prog.cellsOf 5)) = some y1 := (hfs 1 _ rfl).trans e1
  rw [cellsU8] at t0 t1
  constructor
  · obtain ⟨z, hs, hy, _⟩ := DataW.trod_int Tryd.underlying5 t0
    rw [hy] at d0
    have es : z = letL k := by simpa using d0
    have := congrArg (·[0]?) hs
    simp only [List.getElem?_take, List.getElem?_drop, List.getElem?_cons_zero] at this
    rw [← es]
    simpa using this
  · obtain ⟨z, hs, hy, _⟩ := DataW.trod_int Tryd.underlying5 t1
    rw [hy] at d1
    have es : z = letR k := by simpa using d1
    have := congrArg (·[0]?) hs
    simp only [List.getElem?_take, List.getElem?_drop, List.getElem?_cons_zero] at this
    rw [← es]
    simpa using this
theorem var_block {W : World} {name : String} {g : Nat} {cs : Array Value} (hg : Tryd.prog.globalNamed name = some g) (h : W.var? Tryd.prog name = some cs) : ∃ t fz, W.heap[g]? = some (.cells cs t fz) := by
  unfold World.var? at h
  rw [hg] at h
  simp only [Option.bind_some] at h
  split at h
  · rename_i c t fz hc
    cases h
    exact ⟨t, fz, hc⟩
  · cases h
theorem forms_all {W : World} {cs : Array Value} {fuel : Nat} {p : List MemPlace} (h : DataW.trod (fun _ => ()) Tryd.prog W 0 (fun _ => true) false fuel 88 cs.toList = some (Rows.laid_stint_script_forms, p)) : cs = formsA := by
  have hl := array_len Tryd.underlying88 h
  rw [cellsForms] at hl
  apply Array.ext'
  apply List.ext_getElem?
  intro i
  by_cases hi : i < 40
  · obtain ⟨k, j, hk, hj, rfl⟩ : ∃ k j, k < 8 ∧ j < 5 ∧ i = k * 5 + j := ⟨i / 5, i % 5, by omega, by omega, by omega⟩
    have hf := form_cells k hk h
    rcases (show j = 0 ∨ j = 1 ∨ j = 2 ∨ j = 3 ∨ j = 4 by omega) with rfl | rfl | rfl | rfl | rfl
    · rw [Nat.add_zero, hf.1]
      rcases (show k = 0 ∨ k = 1 ∨ k = 2 ∨ k = 3 ∨ k = 4 ∨ k = 5 ∨ k = 6 ∨ k = 7 by omega) with rfl | rfl | rfl | rfl | rfl | rfl | rfl | rfl <;> rfl
    · rw [show k * 5 + 1 = k * 5 + 1 + 0 by omega, hf.2 0 (by omega)]
      rcases (show k = 0 ∨ k = 1 ∨ k = 2 ∨ k = 3 ∨ k = 4 ∨ k = 5 ∨ k = 6 ∨ k = 7 by omega) with rfl | rfl | rfl | rfl | rfl | rfl | rfl | rfl <;> rfl
    · rw [show k * 5 + 2 = k * 5 + 1 + 1 by omega, hf.2 1 (by omega)]
      rcases (show k = 0 ∨ k = 1 ∨ k = 2 ∨ k = 3 ∨ k = 4 ∨ k = 5 ∨ k = 6 ∨ k = 7 by omega) with rfl | rfl | rfl | rfl | rfl | rfl | rfl | rfl <;> rfl
    · rw [show k * 5 + 3 = k * 5 + 1 + 2 by omega, hf.2 2 (by omega)]
      rcases (show k = 0 ∨ k = 1 ∨ k = 2 ∨ k = 3 ∨ k = 4 ∨ k = 5 ∨ k = 6 ∨ k = 7 by omega) with rfl | rfl | rfl | rfl | rfl | rfl | rfl | rfl <;> rfl
    · rw [show k * 5 + 4 = k * 5 + 1 + 3 by omega, hf.2 3 (by omega)]
      rcases (show k = 0 ∨ k = 1 ∨ k = 2 ∨ k = 3 ∨ k = 4 ∨ k = 5 ∨ k = 6 ∨ k = 7 by omega) with rfl | rfl | rfl | rfl | rfl | rfl | rfl | rfl <;> rfl
  · rw [List.getElem?_eq_none (by omega), List.getElem?_eq_none (by show 40 ≤ i; omega)]
theorem letters_all {W : World} {cs : Array Value} {fuel : Nat} {p : List MemPlace} (h : DataW.trod (fun _ => ()) Tryd.prog W 0 (fun _ => true) false fuel 97 cs.toList = some (Rows.laid_stint_script_letters, p)) : cs = lettersA := by
  have hl := array_len Tryd.underlying97 h
  rw [cellsLetters] at hl
  apply Array.ext'
  apply List.ext_getElem?
  intro i
  by_cases hi : i < 8
  · obtain ⟨k, j, hk, hj, rfl⟩ : ∃ k j, k < 4 ∧ j < 2 ∧ i = k * 2 + j := ⟨i / 2, i % 2, by omega, by omega, by omega⟩
    have hf := letter_cells k hk h
    rcases (show j = 0 ∨ j = 1 by omega) with rfl | rfl
    · rw [Nat.add_zero, hf.1]
      rcases (show k = 0 ∨ k = 1 ∨ k = 2 ∨ k = 3 by omega) with rfl | rfl | rfl | rfl <;> rfl
    · rw [hf.2]
      rcases (show k = 0 ∨ k = 1 ∨ k = 2 ∨ k = 3 by omega) with rfl | rfl | rfl | rfl <;> rfl
  · rw [List.getElem?_eq_none (by omega), List.getElem?_eq_none (by show 8 ≤ i; omega)]
theorem tabs_of {W : World} (h : laidMetH Tryd.prog laid5 W) (hS : W.ShapedOpen Tryd.prog) : Tabs W := by
  have h : laidMet Tryd.prog laid5 W := h
  have r3 := Lib.laidMet.reads h (n := "internal/strconv.uint64pow10") (d := Rows.laid_internal_strconv_uint64pow10) (by simp [laid5])
  have r4 := Lib.laidMet.reads h (n := "stint/script.letters") (d := Rows.laid_stint_script_letters) (by simp [laid5])
  have r5 := Lib.laidMet.reads h (n := "stint/script.forms") (d := Rows.laid_stint_script_forms) (by simp [laid5])
  refine ⟨?_, ?_, Tryd.laysM145.s1_3 W hS, ?_⟩
  · obtain ⟨g, t, cs, fuel, p, hg, ht, hvar, hd⟩ := r5
    obtain rfl := Option.some.inj (gForms.symm.trans hg)
    obtain rfl := Option.some.inj (gFormsType.symm.trans ht)
    obtain ⟨t, fz, hb⟩ := var_block hg hvar
    rw [forms_all hd] at hb
    exact ⟨t, fz, hb⟩
  · obtain ⟨g, t, cs, fuel, p, hg, ht, hvar, hd⟩ := r4
    obtain rfl := Option.some.inj (gLetters.symm.trans hg)
    obtain rfl := Option.some.inj (gLettersType.symm.trans ht)
    obtain ⟨t, fz, hb⟩ := var_block hg hvar
    rw [letters_all hd] at hb
    exact ⟨t, fz, hb⟩
  · obtain ⟨g, t, cs, fuel, p, hg, ht, hvar, hd⟩ := r3
    obtain rfl := Option.some.inj (gPow.symm.trans hg)
    obtain rfl := Option.some.inj (gPowType.symm.trans ht)
    rw [powData] at hd
    unfold Lib.TabIs
    rw [hvar, ← Lib.cells_of_tab Tryd.underlying121 Tryd.underlying115 cellsU64 cellsPow hd]
theorem gBits : Tryd.prog.globalNamed "math/bits.deBruijn64tab" = some 5 := by kernel_rfl
theorem six_of {W : World} (h : laidMetH Tryd.prog laid5 W) : 6 ≤ W.heap.size := by
  have h : laidMet Tryd.prog laid5 W := h
  have r := Lib.laidMet.reads h (n := "math/bits.deBruijn64tab") (d := Rows.laid_math_bits_deBruijn64tab) (by simp [laid5])
  obtain ⟨g, t, cs, fuel, p, hg, ht, hvar, hd⟩ := r
  obtain rfl := Option.some.inj (gBits.symm.trans hg)
  obtain ⟨t, fz, hb⟩ := var_block hg hvar
  exact (Array.getElem?_eq_some_iff.1 hb).1
theorem int_bounds {n : Int} (h : (Lit.int .i64 n).wf = true) : -9223372036854775808 ≤ n ∧ n ≤ 9223372036854775807 := bounds_i64 h
/-- What lies in a variable of the list when the program has started. -/
def lay (cs : Array Value) : Obj → Obj
  | .cells _ t frozen => .cells cs t frozen
  | o => o
def nums (k : IntKind) (l : List (DataW Unit)) : Array Value := (l.map fun | .lit (.int _ n) => Value.int k n | _ => Value.bool false).toArray
def parts : DataW Unit → List (DataW Unit)
  | .agg l => l
  | _ => []
end Go.Proofs.YteaccpolmmkclaaDoor
