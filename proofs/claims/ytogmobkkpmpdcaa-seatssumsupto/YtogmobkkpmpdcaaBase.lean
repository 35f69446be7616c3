/-
  Arguments that are lists of numbers, or of texts, opened.
-/
import Derived.Test.YtogmobkkpmpdcaaRows
import Derived.Test.YtogmobkkpmpdcaaKit
import Derived.ProofKit
import Derived.OpenShut
import Derived.ChangeSlices
import Derived.SliceStrings
import Derived.Below
namespace Go.Proofs.Ytogmobkkpmpdcaa
open Go.ChangeShapes Go.WideShapes Go.ChangeAt Go.RowKit

theorem own : ownKnob Try.prog.godebug = none := by kernel_rfl
theorem laidOut : laidOutB Try.prog = true := by kernel_rfl
theorem int_bounds {n : Int} (h : (Lit.int .i64 n).wf = true) : -9223372036854775808 ≤ n ∧ n ≤ 9223372036854775807 := bounds_i64 h
theorem cellsStr : Try.prog.cellsOf 9 = 1 := by kernel_rfl

/-- The slice at 'a', of capacity c, has the numbers l. -/
def IsInts (w : World) (a : Option Addr) (c : Nat) (l : List Int) : Prop :=
  l.length ≤ c ∧ c ≤ maxLen ∧ (∀ x ∈ l, (Lit.int .i64 x).wf = true) ∧ (l = [] ∨ ∃ b o, a = some ⟨b, o, none⟩ ∧ b < w.heap.size ∧ ∀ (j : Nat) x, l[j]? = some x → w.cell? ⟨b, o + j, none⟩ = some (.int .i64 x))
/-- The slice at 'a', of capacity c, has the texts ss. -/
def IsStrs (w : World) (a : Option Addr) (c : Nat) (ss : List ByteArray) : Prop :=
  ss.length ≤ c ∧ ss.length ≤ maxLen ∧ (∀ x ∈ ss, x.size ≤ maxLen) ∧ (ss = [] ∨ ∃ b o, a = some ⟨b, o, none⟩ ∧ b < w.heap.size ∧ ∀ (j : Nat) x, ss[j]? = some x → w.cell? ⟨b, o + j, none⟩ = some (.string x))

theorem bulk_lits {H : Type} (k : IntKind) : ∀ (l : List Int), Rows.uptoBulkAll (lits k l : List (DataW H)) = l.length
  | [] => by simp [lits, Rows.uptoBulkAll]
  | x :: r => by
    have ih := bulk_lits (H := H) k r
    simp only [lits, List.map_cons, Rows.uptoBulkAll, Rows.uptoBulk, List.length_cons] at ih ⊢
    omega
theorem bulk_strs {H : Type} : ∀ (l : List ByteArray), l.length + (l.map ByteArray.size).sum ≤ Rows.uptoBulkAll (strs l : List (DataW H))
  | [] => by simp [strs, Rows.uptoBulkAll]
  | x :: r => by
    have ih := bulk_strs (H := H) r
    have hx : x.data.toList.length = x.size := by simp
    simp only [strs, List.map_cons, Rows.uptoBulkAll, Rows.uptoBulk, List.length_cons, List.sum_cons] at ih ⊢
    omega

theorem open_nums {H : Type} {enc : TypeId × Value → H} {W : World} {a : Option Addr} {len cap fuel : Nat} {d : DataW H} {p : List MemPlace}
    (hf : DataW.trod enc Try.prog W 0 (fun _ => true) true fuel 29 (Value.slice a len cap).cells.toList = some (d, p)) :
    ∃ l : List Int, l.length = len ∧ (IsInts W a cap l ∧ (a = none → cap = 0)) ∧ l.length + 1 ≤ Rows.uptoBulk d := by
  rcases open_ints Try.underlying29 Try.underlying3 (by kernel_rfl) hf with ⟨hcs, hx⟩ | ⟨x, l, c, zs, hcs, _, hl, hm, hz, hx, hcell, hws⟩
  · simp [Value.cells] at hcs
    obtain ⟨rfl, rfl, rfl⟩ := hcs
    simp only [Prod.mk.injEq] at hx
    exact ⟨[], rfl, ⟨⟨by simp, by simp [maxLen], (fun x h => by cases h), .inl rfl⟩, fun _ => rfl⟩, by rw [hx.1]; simp [Rows.uptoBulk]⟩
  · simp [Value.cells] at hcs
    obtain ⟨rfl, rfl, rfl⟩ := hcs
    simp only [if_true] at hz
    simp only [Prod.mk.injEq] at hx
    have htl : (zs.take len).length = len := by simp; omega
    refine ⟨zs.take len, htl, ⟨⟨by omega, hm, fun y hy => hws y (List.mem_of_mem_take hy), ?_⟩, fun h => by cases h⟩, ?_⟩
    · by_cases h0 : len = 0
      · left; subst h0; simp
      · right
        obtain ⟨b, o, spot⟩ := x
        have hc := hcell 0 (by omega)
        have hspot : spot = none := by simpa [Addr.add] using World.cell?_spot hc
        subst hspot
        refine ⟨b, o, rfl, ?_, fun j y hj => ?_⟩
        · have := World.block_lt_of_cell? _ _ hc
          simpa [Addr.add] using this
        · have hjl : j < len := by have := (List.getElem?_eq_some_iff.1 hj).1; omega
          have := hcell j (by omega)
          rw [List.getElem?_take_of_lt hjl] at hj
          have e : zs.getD j 0 = y := by simp [List.getD, hj]
          rw [e] at this
          cases j with
          | zero => simpa [Addr.add] using this
          | succ j => simpa [Addr.add] using this
    · rw [hx.1, htl]
      simp only [Rows.uptoBulk, bulk_lits]
      simp
      omega

theorem open_strs {H : Type} {enc : TypeId × Value → H} {W : World} {a : Option Addr} {len cap fuel : Nat} {d : DataW H} {p : List MemPlace}
    (hf : DataW.trod enc Try.prog W 0 (fun _ => true) true fuel 31 (Value.slice a len cap).cells.toList = some (d, p)) :
    ∃ ss : List ByteArray, ss.length = len ∧ (IsStrs W a cap ss ∧ (a = none → cap = 0)) ∧ ss.length + 1 ≤ Rows.uptoBulk d := by
  rcases open_strings Try.underlying31 Try.underlying9 cellsStr hf with ⟨hcs, hx⟩ | ⟨x, l, c, ss, hcs, _, hl, hm, hz, hx, hcell, hws⟩
  · simp [Value.cells] at hcs
    obtain ⟨rfl, rfl, rfl⟩ := hcs
    simp only [Prod.mk.injEq] at hx
    exact ⟨[], rfl, ⟨⟨by simp, by simp, (fun x h => by cases h), .inl rfl⟩, fun _ => rfl⟩, by rw [hx.1]; simp [Rows.uptoBulk]⟩
  · simp [Value.cells] at hcs
    obtain ⟨rfl, rfl, rfl⟩ := hcs
    simp only [if_true] at hz
    have htl : (ss.take len).length = len := by simp; omega
    simp only [Prod.mk.injEq] at hx
    refine ⟨ss.take len, htl, ⟨⟨by omega, by omega, fun y hy => hws y (List.mem_of_mem_take hy), ?_⟩, fun h => by cases h⟩, ?_⟩
    · by_cases h0 : len = 0
      · left; subst h0; simp
      · right
        obtain ⟨b, o, spot⟩ := x
        have hc := hcell 0 (by omega)
        have hspot : spot = none := by simpa [Addr.add] using World.cell?_spot hc
        subst hspot
        refine ⟨b, o, rfl, ?_, fun j y hj => ?_⟩
        · have := World.block_lt_of_cell? _ _ hc
          simpa [Addr.add] using this
        · have hjl : j < len := by have := (List.getElem?_eq_some_iff.1 hj).1; omega
          have := hcell j (by omega)
          rw [List.getElem?_take_of_lt hjl] at hj
          have e : ss.getD j ByteArray.empty = y := by simp [List.getD, hj]
          rw [e] at this
          cases j with
          | zero => simpa [Addr.add] using this
          | succ j => simpa [Addr.add] using this
    · rw [hx.1]
      have h1 := bulk_strs (H := H) (ss.take len)
      simp only [Rows.uptoBulk]
      omega
end Go.Proofs.Ytogmobkkpmpdcaa
