/-
  What the package's variables hold that layer 7 reads.
-/
import Derived.Test.YtfecbepleeoibaaDoorPow
import Derived.Test.YtfecbepleeoibaaDoorPlainVerbs
namespace Go.Proofs.YtfecbepleeoibaaDoor
open Go.RowKit

theorem cell_block {w : World} {p : Addr} {v : Value} (h : w.cell? p = some v) : p.block < w.heap.size := by
  unfold World.cell? at h
  split at h
  · rename_i hb
    exact (Array.getElem?_eq_some_iff.1 hb).1
  · cases h

structure Tabs (w : World) : Prop where
  verb : ∀ k, k < 26 → w.cell? ⟨0, k * 5, none⟩ = some (.string ⟨(verbOf k).toArray⟩)
  fld : ∀ k j, k < 26 → j < 4 → w.cell? ⟨0, k * 5 + 1 + j, none⟩ = some (.int .u8 (fldOf k j))
  great : ∀ f, f < 6 → w.cell? ⟨1, f, none⟩ = some (.int .i64 (great f))
  max : ∃ m, w.cell? ⟨2, 0, none⟩ = some (.int .i64 m)
  pow : Lib.TabIs Tryd.prog w "internal/strconv.uint64pow10" .u64 Lib.pow10Tab

theorem Tabs.lt {w : World} (h : Tabs w) : 0 < w.heap.size ∧ 1 < w.heap.size ∧ 2 < w.heap.size :=
  ⟨cell_block (h.verb 0 (by decide)), cell_block (h.great 0 (by decide)), cell_block h.max.choose_spec⟩
theorem Tabs.below {w w' : World} (h : Tabs w) (hb : Below w.heap.size w w') : Tabs w' where
  verb k hk := (hb.cell (p := ⟨0, k * 5, none⟩) h.lt.1).trans (h.verb k hk)
  fld k j hk hj := (hb.cell (p := ⟨0, k * 5 + 1 + j, none⟩) h.lt.1).trans (h.fld k j hk hj)
  great f hf := (hb.cell (p := ⟨1, f, none⟩) h.lt.2.1).trans (h.great f hf)
  max := h.max.elim fun m hm => ⟨m, (hb.cell (p := ⟨2, 0, none⟩) h.lt.2.2).trans hm⟩
  pow := tab_below hb h.pow
theorem Tabs.alloc {w : World} (h : Tabs w) (o : Obj) : Tabs (w.alloc o) := h.below ((Below.refl _ w).alloc (Nat.le_refl _) o)
theorem Tabs.drew {w : World} (h : Tabs w) : Tabs w.drew := h.below (Below.refl _ w).drew
end Go.Proofs.YtfecbepleeoibaaDoor
