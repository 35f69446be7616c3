/-
  The walk of 'shown', the document's examples.
-/
import Derived.Test.YtlhlifhalmgkeaaDoorParse
import Derived.Test.YtlhlifhalmgkeaaDoorSplit
import Derived.Test.YtlhlifhalmgkeaaDoorJoin
import Derived.Test.YtlhlifhalmgkeaaDoorPrint
import Derived.Deep.QuietTactic
import Derived.BigQuiet
namespace Go.Proofs.YtlhlifhalmgkeaaDoor
open Go.RowKit

theorem ex1 : parseV (⟨#[48, 48, 55]⟩ : ByteArray).data.toList 7 = 7 ∧ parseB (⟨#[48, 48, 55]⟩ : ByteArray).data.toList 7 = true := by decide
theorem ex2 : parseV (⟨#[52, 50]⟩ : ByteArray).data.toList 41 = 0 ∧ parseB (⟨#[52, 50]⟩ : ByteArray).data.toList 41 = false := by decide
theorem ex3 : splitL (⟨#[112, 117, 116, 32, 49, 32, 50]⟩ : ByteArray).data.toList = some [[112, 117, 116], [49], [50]] := by decide
theorem ex4 : joinV ([⟨#[112, 117, 116]⟩, ⟨#[49]⟩].map (fun (b : ByteArray) => b.data.toList)) = [112, 117, 116, 32, 49] ∧ joinB ([⟨#[112, 117, 116]⟩, ⟨#[49]⟩].map (fun (b : ByteArray) => b.data.toList)) = true := by decide
theorem ex5 : printL 120 = [49, 50, 48] := by
  rw [printL, if_neg (by decide), show (120 : Int) = ((120 : Nat) : Int) from rfl, Lib.itoa_nonneg, dec_big (by decide), dec_big (by decide), dec_small (by decide)]
  rfl
theorem ex6 : wordB (⟨#[97]⟩ : ByteArray).data.toList = true := by decide
theorem ex3_ws (ws : List ByteArray) (h : some [[112, 117, 116], [49], [50]] = some (ws.map (·.data.toList))) : ws = [⟨#[112, 117, 116]⟩, ⟨#[49]⟩, ⟨#[50]⟩] := by
  have h := Option.some.inj h
  match ws, h with
  | [], h => cases h
  | [_], h => simp at h
  | [_, _], h => simp at h
  | _ :: _ :: _ :: _ :: _, h => simp at h
  | [a, b, c], h =>
    simp only [List.map_cons, List.map_nil, List.cons.injEq, and_true] at h
    obtain ⟨h1, h2, h3⟩ := h
    have e : ∀ (x : ByteArray) (l : List UInt8), l = x.data.toList → x = ⟨l.toArray⟩ := fun x l hx => by rw [hx]
    rw [e a _ h1, e b _ h2, e c _ h3]

set_option maxHeartbeats 1000000 in
set_option maxRecDepth 1000000 in
theorem shown_any (w : World) (htab : Lib.TabIs Tryd.prog w "internal/strconv.uint64pow10" .u64 Lib.pow10Tab) :
    Calls Tryd.prog 4 #[] w fun e w' => e = .returned (.bool true) ∧ Below w.heap.size w w' := by
  have HT : Hid (Lib.TabIs Tryd.prog w "internal/strconv.uint64pow10" .u64 Lib.pow10Tab) := htab
  clear htab
  go_enter Tryd.func4, Tryd.ntmps4
  go_wp2_with fail
  refine (parse_any _ _ _ (by decide) (by decide)).mono ?_
  rintro e w1 ⟨rfl, p1, rfl⟩
  rw [ex1.1, ex1.2]
  go_wp2_with fail
  refine (parse_any _ _ _ (by decide) (by decide)).mono ?_
  rintro e w1 ⟨rfl, p2, rfl⟩
  rw [ex2.1, ex2.2]
  go_wp2_with fail
  refine (split_any _ _ (by decide)).mono ?_
  rintro e w3 ⟨hb3, ⟨hn, _⟩ | ⟨ws, g, cap, hw, rfl, hg, hown⟩⟩
  · rw [ex3] at hn; cases hn
  rw [ex3] at hw
  obtain rfl := ex3_ws ws hw
  clear hw
  have hs3 := hb3.size
  have c0 : w3.cell? ⟨g, 0, none⟩ = some (.string ⟨#[112, 117, 116]⟩) := hown.cellAt 0 (by decide)
  have c2 : w3.cell? ⟨g, 2, none⟩ = some (.string ⟨#[50]⟩) := hown.cellAt 2 (by decide)
  have hg3 : g < w3.heap.size := (hown.lt g rfl).2
  have B3 : Below w.heap.size w w3 := (((Below.refl _ w).alloc (Nat.le_refl _) _).alloc (by simp) _).trans (hb3.mono (by simp [World.iter]; omega))
  clear hown hg
  go_wp2_with fail
  refine (join_any w3.heap.size 0 2 [⟨#[112, 117, 116]⟩, ⟨#[49]⟩] _ (by
    intro j x hj
    simp only [World.cell?_alloc_at, Nat.zero_add]
    match j, hj with
    | 0, hj => simp at hj; subst hj; simp
    | 1, hj => simp at hj; subst hj; simp
    | (j + 2), hj => simp at hj) (by simp) (by decide) (by decide) (by decide)).mono ?_
  rintro e w4 ⟨rfl, hb4⟩
  rw [ex4.1, ex4.2]
  have hs4 := hb4.size
  simp only [World.size_alloc] at hs4
  have d0 : w4.cell? ⟨g, 0, none⟩ = some (.string ⟨#[112, 117, 116]⟩) := cell_later hb4 (cell_later ((Below.refl _ w3).alloc (Nat.le_refl _) _) c0)
  have d2 : w4.cell? ⟨g, 2, none⟩ = some (.string ⟨#[50]⟩) := cell_later hb4 (cell_later ((Below.refl _ w3).alloc (Nat.le_refl _) _) c2)
  have B4 : Below w.heap.size w w4 := (B3.alloc B3.size _).trans (hb4.mono (by have := B3.size; simp; omega))
  have T4 := tab_below B4 HT.out
  have HT4 : Hid (Lib.TabIs Tryd.prog w4 "internal/strconv.uint64pow10" .u64 Lib.pow10Tab) := T4
  have hg4 : g < w4.heap.size := by omega
  clear T4 c0 c2 hb3 hs3 hb4 hs4 B3 HT
  go_wp2_with fail
  refine (print_any _ _ (by decide) (by decide) HT4.out).mono ?_
  rintro e w5 ⟨rfl, hb5⟩
  rw [ex5]
  have f0 := cell_later hb5 d0
  have f2 := cell_later hb5 d2
  have B5 : Below w.heap.size w w5 := B4.trans (hb5.mono B4.size)
  clear HT4 d0 d2 B4 hb5 hg4 hg3
  go_wp2_with fail
  refine (word_any _ _).mono ?_
  rintro e w6 ⟨rfl, p6, rfl⟩
  rw [ex6]
  have g0 := cell_later ((Below.refl _ w5).alloc (Nat.le_refl _) (.stringIter ⟨#[97]⟩ p6)) f0
  have g2 := cell_later ((Below.refl _ w5).alloc (Nat.le_refl _) (.stringIter ⟨#[97]⟩ p6)) f2
  change (w5.iter ⟨#[97]⟩ p6).cell? _ = _ at g0 g2
  clear f0 f2
  go_wp2
  go_ret
  exact ⟨rfl, B5.alloc B5.size _⟩
end Go.Proofs.YtlhlifhalmgkeaaDoor
