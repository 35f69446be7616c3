/-
  What the package's variables hold that layer 19 reads.
-/
import Derived.Test.YteecmbpabkndlaaDoorPow
import Derived.Test.YteecmbpabkndlaaDoorPan
namespace Go.Proofs.YteecmbpabkndlaaDoor
open Go.RowKit

def formC (s : ByteArray) (a b c d : Bool) : List Value := [.string s, .bool a, .bool b, .bool c, .bool d]
/-- The forms' cells. -/
def formsA : Array Value := #[.string ⟨#[]⟩, .bool false, .bool false, .bool false, .bool false, .string ⟨#[111, 112, 101, 110]⟩, .bool true, .bool false, .bool false, .bool false, .string ⟨#[102, 101, 101, 100]⟩, .bool true, .bool true, .bool true, .bool false, .string ⟨#[104, 97, 110, 103]⟩, .bool true, .bool false, .bool true, .bool false,
  .string ⟨#[116, 105, 99, 107]⟩, .bool false, .bool false, .bool true, .bool false, .string ⟨#[100, 114, 97, 105, 110]⟩, .bool false, .bool false, .bool false, .bool false, .string ⟨#[99, 114, 97, 115, 104]⟩, .bool false, .bool false, .bool false, .bool true, .string ⟨#[115, 116, 97, 114, 116]⟩, .bool false, .bool false, .bool true, .bool false]
def lettersA : Array Value := #[.int .u8 115, .int .u8 32, .int .u8 114, .int .u8 13, .int .u8 110, .int .u8 10, .int .u8 92, .int .u8 92]
structure Tabs (w : World) : Prop where
  forms : ∃ t fz, w.heap[0]? = some (.cells formsA t fz)
  letters : ∃ t fz, w.heap[1]? = some (.cells lettersA t fz)
  max : ∃ m, w.cell? ⟨2, 0, none⟩ = some (.int .i64 m)
  pow : Lib.TabIs Tryd.prog w "internal/strconv.uint64pow10" .u64 Lib.pow10Tab
theorem Tabs.lt {w : World} (h : Tabs w) : 0 < w.heap.size ∧ 1 < w.heap.size ∧ 2 < w.heap.size := by
  obtain ⟨⟨_, _, h1⟩, ⟨_, _, h2⟩, ⟨m, h3⟩, _⟩ := h
  exact ⟨(Array.getElem?_eq_some_iff.1 h1).1, (Array.getElem?_eq_some_iff.1 h2).1, cell_lt h3⟩
theorem Tabs.below {w w' : World} (h : Tabs w) (hb : Below w.heap.size w w') : Tabs w' := by
  have hl := h.lt
  obtain ⟨⟨t1, f1, h1⟩, ⟨t2, f2, h2⟩, ⟨m, h3⟩, h4⟩ := h
  exact ⟨⟨t1, f1, (hb.block _ hl.1).trans h1⟩, ⟨t2, f2, (hb.block _ hl.2.1).trans h2⟩, ⟨m, (hb.cell (p := ⟨2, 0, none⟩) hl.2.2).trans h3⟩, tab_below hb h4⟩
theorem Tabs.keptB {w w' : World} (h : Tabs w) (hb : Below 6 w w') : Tabs w' := by
  obtain ⟨⟨t1, f1, h1⟩, ⟨t2, f2, h2⟩, ⟨m, h3⟩, h4⟩ := h
  exact ⟨⟨t1, f1, (hb.block _ (by decide)).trans h1⟩, ⟨t2, f2, (hb.block _ (by decide)).trans h2⟩, ⟨m, (hb.cell (p := ⟨2, 0, none⟩) (by decide)).trans h3⟩, var?_below hb gPow (by decide) h4⟩
end Go.Proofs.YteecmbpabkndlaaDoor
