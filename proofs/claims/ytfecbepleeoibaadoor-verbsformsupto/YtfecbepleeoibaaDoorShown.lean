/-
  The walk of 'shown', the document's examples.
-/
import Derived.Test.YtfecbepleeoibaaDoorParseV
import Derived.Test.YtfecbepleeoibaaDoorPrintV
import Derived.Test.YtfecbepleeoibaaDoorCheckV
namespace Go.Proofs.YtfecbepleeoibaaDoor
open Go.RowKit Go.Lib

theorem ex1 : parseC (⟨#[112, 117, 116, 32, 48, 32, 49, 48, 32, 54, 48, 32, 53]⟩ : ByteArray).data.toList = ⟨1, 0, 0, 10, 60, 5, []⟩ ∧ parseE (⟨#[112, 117, 116, 32, 48, 32, 49, 48, 32, 54, 48, 32, 53]⟩ : ByteArray).data.toList = 0 := ⟨by kernel_rfl, by kernel_rfl⟩
theorem ex2 : parseC (⟨#[114, 101, 115, 101, 114, 118, 101, 88]⟩ : ByteArray).data.toList = zeroC ∧ parseE (⟨#[114, 101, 115, 101, 114, 118, 101, 88]⟩ : ByteArray).data.toList = 70 := ⟨by kernel_rfl, by kernel_rfl⟩
theorem ex3 : parseC (⟨#[112, 117, 116, 32, 32, 48, 32, 48, 32, 49, 32, 49]⟩ : ByteArray).data.toList = zeroC ∧ parseE (⟨#[112, 117, 116, 32, 32, 48, 32, 48, 32, 49, 32, 49]⟩ : ByteArray).data.toList = 71 := ⟨by kernel_rfl, by kernel_rfl⟩
theorem ex4b : printB ⟨24, 0, 0, 0, 0, 7, [97]⟩ 0 = true := by kernel_rfl
theorem ex4p : printL 7 = [55] := by
  rw [printL, if_neg (by decide), show (7 : Int) = ((7 : Nat) : Int) from rfl, Lib.itoa_nonneg, Lib.decDigits_one (by decide)]
  rfl
theorem ex4 : printS ⟨24, 0, 0, 0, 0, 7, [97]⟩ 0 = [112, 97, 117, 115, 101, 45, 116, 117, 98, 101, 32, 97, 32, 55] ∧ printE ⟨24, 0, 0, 0, 0, 7, [97]⟩ 0 = 0 := by
  have hw : wordsOf ⟨24, 0, 0, 0, 0, 7, [97]⟩ = [verbOf 24, [97], printL 7] := rfl
  rw [printS, printE, if_pos ex4b, if_pos ex4b, hw, ex4p]
  exact ⟨by kernel_rfl, rfl⟩
theorem ex5 : nameL 17 = [107, 105, 99, 107, 45, 106, 111, 98] := by decide
theorem ex6 : checkE ⟨1, 0, 0, 10, 60, 5, []⟩ 0 = 72 := by kernel_rfl

set_option maxHeartbeats 2000000 in
set_option maxRecDepth 1000000 in
theorem shown_any (w : World) (T : Tabs w) :
    Calls Tryd.prog 9 #[] w fun e w' => e = .returned (.bool true) ∧ Below w.heap.size w w' := by
  have HT := hide T
  clear T
  go_enter Tryd.func9, Tryd.ntmps9
  go_wp2_with fail
  refine (parseV_any _ _ HT.out (by decide)).mono ?_
  rintro e w1 ⟨rfl, B1⟩
  rw [ex1.1, ex1.2, show cmdV ⟨1, 0, 0, 10, 60, 5, []⟩ (.slice none 0 0) = .agg #[.int .i64 1, .int .i64 0, .int .i64 0, .int .i64 10, .int .i64 60, .int .i64 5, .string ⟨#[]⟩, .slice none 0 0] from rfl]
  have HT1 := hide (HT.out.below B1)
  have HB1 := hide B1
  clear B1
  go_wp2_with fail
  obtain ⟨w2, hw2⟩ : ∃ w2, w2 = w1.alloc (.cells #[.int .i64 1, .int .i64 0, .int .i64 0, .int .i64 10, .int .i64 60, .int .i64 5, .string ⟨#[]⟩, .slice none 0 0] 27) := ⟨_, rfl⟩
  rw [← hw2]
  have HG2 : Hid (w2.heap[w1.heap.size]? = some (.cells #[.int .i64 1, .int .i64 0, .int .i64 0, .int .i64 10, .int .i64 60, .int .i64 5, .string ⟨#[]⟩, .slice none 0 0] 27 (0, 0))) := by show w2.heap[w1.heap.size]? = _; rw [hw2]; exact heap_alloc_new _ _
  have HB2 : Hid (Below w.heap.size w w2) := by show Below _ _ _; rw [hw2]; exact HB1.out.alloc HB1.out.size _
  have HT2 : Hid (Tabs w2) := by show Tabs w2; rw [hw2]; exact HT1.out.alloc _
  clear hw2
  refine (parseV_any _ _ HT2.out (by decide)).mono ?_
  rintro e w3 ⟨rfl, B3⟩
  rw [ex2.1, ex2.2, show cmdV zeroC (.slice none 0 0) = .agg #[.int .i64 0, .int .i64 0, .int .i64 0, .int .i64 0, .int .i64 0, .int .i64 0, .string ⟨#[]⟩, .slice none 0 0] from rfl]
  have HT3 := hide (HT2.out.below B3)
  have HG3 := hide ((B3.block _ (Array.getElem?_eq_some_iff.1 HG2.out).1).trans HG2.out)
  have HB3 : Hid (Below w.heap.size w w3) := HB2.out.trans (B3.mono HB2.out.size)
  clear B3 HG2
  go_wp2_with fail
  obtain ⟨w4, hw4⟩ : ∃ w4, w4 = w3.alloc (.cells #[.int .i64 0, .int .i64 0, .int .i64 0, .int .i64 0, .int .i64 0, .int .i64 0, .string ⟨#[]⟩, .slice none 0 0] 27) := ⟨_, rfl⟩
  rw [← hw4]
  have HG4 : Hid (w4.heap[w1.heap.size]? = some (.cells #[.int .i64 1, .int .i64 0, .int .i64 0, .int .i64 10, .int .i64 60, .int .i64 5, .string ⟨#[]⟩, .slice none 0 0] 27 (0, 0))) := by show w4.heap[w1.heap.size]? = _; rw [hw4]; exact alloc_heap HG3.out
  have HB4 : Hid (Below w.heap.size w w4) := by show Below _ _ _; rw [hw4]; exact HB3.out.alloc HB3.out.size _
  have HT4 : Hid (Tabs w4) := by show Tabs w4; rw [hw4]; exact HT3.out.alloc _
  clear hw4
  refine (parseV_any _ _ HT4.out (by decide)).mono ?_
  rintro e w5 ⟨rfl, B5⟩
  rw [ex3.1, ex3.2, show cmdV zeroC (.slice none 0 0) = .agg #[.int .i64 0, .int .i64 0, .int .i64 0, .int .i64 0, .int .i64 0, .int .i64 0, .string ⟨#[]⟩, .slice none 0 0] from rfl]
  have HT5 := hide (HT4.out.below B5)
  have HG5 := hide ((B5.block _ (Array.getElem?_eq_some_iff.1 HG4.out).1).trans HG4.out)
  have HB5 : Hid (Below w.heap.size w w5) := HB4.out.trans (B5.mono HB4.out.size)
  clear B5 HG4 HG3
  go_wp2_with fail
  obtain ⟨w6, hw6⟩ : ∃ w6, w6 = w5.alloc (.cells #[.int .i64 0, .int .i64 0, .int .i64 0, .int .i64 0, .int .i64 0, .int .i64 0, .string ⟨#[]⟩, .slice none 0 0] 27) := ⟨_, rfl⟩
  rw [← hw6]
  have HG6 : Hid (w6.heap[w1.heap.size]? = some (.cells #[.int .i64 1, .int .i64 0, .int .i64 0, .int .i64 10, .int .i64 60, .int .i64 5, .string ⟨#[]⟩, .slice none 0 0] 27 (0, 0))) := by show w6.heap[w1.heap.size]? = _; rw [hw6]; exact alloc_heap HG5.out
  have HB6 : Hid (Below w.heap.size w w6) := by show Below _ _ _; rw [hw6]; exact HB5.out.alloc HB5.out.size _
  have HT6 : Hid (Tabs w6) := by show Tabs w6; rw [hw6]; exact HT5.out.alloc _
  clear hw6
  have hpr := printV_any ⟨24, 0, 0, 0, 0, 7, [97]⟩ none 0 0 w6 HT6.out
  rw [ex4.1, ex4.2] at hpr
  refine hpr.mono ?_
  clear hpr
  rintro e w7 ⟨rfl, B7⟩
  have HT7 := hide (HT6.out.below B7)
  have HG7 := hide ((B7.block _ (Array.getElem?_eq_some_iff.1 HG6.out).1).trans HG6.out)
  have HB7 : Hid (Below w.heap.size w w7) := HB6.out.trans (B7.mono HB6.out.size)
  clear B7 HG6 HG5
  have g0 : w7.cell? ⟨w1.heap.size, 0, none⟩ = some (.int .i64 1) := cells_at HG7.out rfl
  have g1 : w7.cell? ⟨w1.heap.size, 1, none⟩ = some (.int .i64 0) := cells_at HG7.out rfl
  have g2 : w7.cell? ⟨w1.heap.size, 2, none⟩ = some (.int .i64 0) := cells_at HG7.out rfl
  have g3 : w7.cell? ⟨w1.heap.size, 3, none⟩ = some (.int .i64 10) := cells_at HG7.out rfl
  have g4 : w7.cell? ⟨w1.heap.size, 4, none⟩ = some (.int .i64 60) := cells_at HG7.out rfl
  have g5 : w7.cell? ⟨w1.heap.size, 5, none⟩ = some (.int .i64 5) := cells_at HG7.out rfl
  have g6 : w7.cell? ⟨w1.heap.size, 6, none⟩ = some (.string ⟨#[]⟩) := cells_at HG7.out rfl
  have g7 : w7.cell? ⟨w1.heap.size, 7, none⟩ = some (.slice none 0 0) := cells_at HG7.out rfl
  have hck := check_any ⟨1, 0, 0, 10, 60, 5, []⟩ none 0 0 w7 HT7.out
  rw [ex6] at hck
  have HCK := hide hck
  clear hck
  go_wp2_with (first
    | (go_at_call 10; refine (name_any _ _ HT7.out).mono ?_; rintro e w8 ⟨rfl, hw8⟩; have hw8 := hw8; subst hw8; rw [ex5])
    | (go_at_call 19; refine HCK.out.mono ?_; rintro e w9 ⟨rfl, B9⟩; have HB9 : Hid (Below w.heap.size w w9) := HB7.out.trans (B9.mono HB7.out.size); clear B9))
  go_ret
  exact ⟨rfl, HB9.out⟩
end Go.Proofs.YtfecbepleeoibaaDoor
