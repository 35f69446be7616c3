/-
  Layer 13: bytes made and copied; a struct stored into a new block.
-/
import Derived.Test.YthapbnlcodkalaaDoorBkKit
import Derived.Test.YthapbnlcodkalaaDoorShown
import Derived.Test.YthapbnlcodkalaaDoorHand
import Derived.Deep.OwnRows
import Derived.Deep.WholeRow
import Derived.Laws.CopyOwn
namespace Go.Proofs.YthapbnlcodkalaaDoor
open Go.RowKit Go.Sort

theorem info_byte1 : (Tryd.prog.info? 5).map (fun i => (i.zero, i.size, i.bytes)) = some (some (.int .u8 0), 1, 1) := by kernel_rfl
theorem made_row (w : World) (n : Nat) : ByteRow (w.alloc (.cells (madeCells #[.int .u8 0] n) 5)) 5 w.heap.size (List.replicate n 0) := by
  refine (heap_alloc_new w _).trans ?_
  congr 2
  apply Array.ext'
  simp [madeCells, u8s, Nat.mod_one, List.map_const']
theorem IsBytes.source {w : World} {a : Option Addr} {c : Nat} {l : List UInt8} (h : IsBytes w a c l) (hn : 0 < l.length) : ∃ ad, a = some ad ∧ ∀ j v, (u8s l)[j]? = some v → w.cell? (ad.add j) = some v := by
  rcases h.2.2 with h0 | ⟨b, o, ha, _, hc⟩
  · rw [h0] at hn; cases hn
  · refine ⟨_, ha, fun j v hv => ?_⟩
    rw [u8s_get] at hv
    cases hx : l[j]? with
    | none => rw [hx] at hv; cases hv
    | some x =>
      rw [hx] at hv
      have := hc j x hx
      simp only [Option.map_some, Option.some.injEq] at hv
      rw [← hv]
      cases j with
      | zero => simpa [Addr.add] using this
      | succ j => simpa [Addr.add] using this
theorem lent3 (l : List UInt8) (n : Nat) (hn : l.length = n) : splice (List.replicate (n + 3) 0) 0 l = l ++ [0, 0, 0] := by
  unfold splice
  simp [hn]
theorem job_one (j : Jb) (a : Option Addr) (n c : Nat) : (j.cells (.slice a n c)).all (·.oneCell') = true := by
  simp [Jb.cells, Value.oneCell']
theorem store_newJ {P : Program} {ops : Array Oper} {rest : List Oper} {o : Oper} {a : Act} {W : World} {Q : Exit → Act → World → Prop} (hgd : o.guard = none) (ty : TypeId) (x y : Operand) (ho : o.op = .store ty x y)
    (cells : Array Value) (hx : a.eval x = .pointer (some ⟨W.heap.size, 0, none⟩)) (hy : a.eval y = .agg cells) (t : TypeId) (old : Array Value) (hi : (P.info? ty).map (·.size) = some cells.size)
    (hold : old.size = cells.size) (h1 : cells.all (·.oneCell') = true) (h : wpList P ops Q rest (a.put o.dst undef) (W.alloc (.cells cells t))) : wpList P ops Q (o :: rest) a (W.alloc (.cells old t)) := by
  refine wpList_store_row hgd ty x y ho W.heap.size cells hx hy t old (heap_alloc_last W _) hi hold h1 ?_
  rw [World.setRow_alloc_new]
  exact h
end Go.Proofs.YthapbnlcodkalaaDoor
