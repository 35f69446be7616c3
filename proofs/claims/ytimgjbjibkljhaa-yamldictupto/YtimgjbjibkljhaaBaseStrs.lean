/-
  An argument that is a list of texts, opened.
-/
import Derived.Test.YtimgjbjibkljhaaBase
import Derived.Test.YtimgjbjibkljhaaListW
import Derived.SliceStrings
namespace Go.Proofs.Ytimgjbjibkljhaa
open Go.ChangeShapes Go.WideShapes Go.ChangeAt Go.RowKit

theorem cellsStr : Try.prog.cellsOf 9 = 1 := by kernel_rfl

theorem bulk_strs {H : Type} : ∀ (l : List ByteArray), l.length + (l.map ByteArray.size).sum ≤ Rows.uptoBulkAll (strs l : List (DataW H))
  | [] => by simp [strs, Rows.uptoBulkAll]
  | x :: r => by
    have ih := bulk_strs (H := H) r
    have hx : x.data.toList.length = x.size := by simp
    simp only [strs, List.map_cons, Rows.uptoBulkAll, Rows.uptoBulk, List.length_cons, List.sum_cons] at ih ⊢
    omega

theorem open_strs {H : Type} {enc : TypeId × Value → H} {W : World} {a : Option Addr} {len cap fuel : Nat} {d : DataW H} {p : List MemPlace}
    (hf : DataW.trod enc Try.prog W 0 (fun _ => true) true fuel 22 (Value.slice a len cap).cells.toList = some (d, p)) :
    ∃ ss, (IsStrs W a cap ss ∧ ss.length = len ∧ ∀ x ∈ ss, x.size ≤ maxLen) ∧ (ss.length + (ss.map ByteArray.size).sum ≤ Rows.uptoBulk d) := by
  rcases open_strings Try.underlying22 Try.underlying9 cellsStr hf with ⟨hcs, hx⟩ | ⟨x, l, c, ss, hcs, _, hl, hm, hz, hx, hcell, hws⟩
  · simp [Value.cells] at hcs
    obtain ⟨rfl, rfl, rfl⟩ := hcs
    exact ⟨[], ⟨⟨by simp, by simp, .inl rfl⟩, rfl, fun x h => by cases h⟩, by simp⟩
  · simp [Value.cells] at hcs
    obtain ⟨rfl, rfl, rfl⟩ := hcs
    simp only [if_true] at hz
    have htl : (ss.take len).length = len := by simp; omega
    simp only [Prod.mk.injEq] at hx
    refine ⟨ss.take len, ⟨⟨by omega, by omega, ?_⟩, htl, fun y hy => hws y (List.mem_of_mem_take hy)⟩, ?_⟩
    · by_cases h0 : len = 0
      · left; subst h0; simp
      · right
        obtain ⟨b, o, spot⟩ := x
        have hc := hcell 0 (by omega)
        have hspot : spot = none := by simpa [Addr.add] using World.cell?_spot hc
        subst hspot
        refine ⟨b, o, rfl, ?_, fun j y hj => ?_⟩
        · have := World.block_lt_of_cell? _ _ hc
          simpa [Addr.add] using this
        · have hjl : j < len := by have := (List.getElem?_eq_some_iff.1 hj).1; omega
          have := hcell j (by omega)
          rw [List.getElem?_take_of_lt hjl] at hj
          have e : ss.getD j ByteArray.empty = y := by simp [List.getD, hj]
          rw [e] at this
          cases j with
          | zero => simpa [Addr.add] using this
          | succ j => simpa [Addr.add] using this
    · rw [hx.1]
      have h1 := bulk_strs (H := H) (ss.take len)
      simp only [Rows.uptoBulk]
      omega
theorem linesL_length : ∀ ts : List ByteArray, (linesL (ts.map tx)).length = 3 * ts.length + (ts.map ByteArray.size).sum
  | [] => by simp [linesL]
  | x :: r => by
    have ih := linesL_length r
    have hx : x.data.toList.length = x.size := by simp
    simp [linesL, lineL] at ih ⊢
    omega
theorem listL_length (ts : List ByteArray) : (listL (ts.map tx)).length = 4 + 3 * ts.length + (ts.map ByteArray.size).sum := by
  unfold listL
  rw [List.length_append, linesL_length]
  have : headL.length = 4 := by decide
  omega
end Go.Proofs.Ytimgjbjibkljhaa
