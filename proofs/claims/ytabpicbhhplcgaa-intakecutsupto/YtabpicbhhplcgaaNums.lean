/-
  An argument that is a list of numbers, opened.
-/
import Derived.Test.YtabpicbhhplcgaaBase
namespace Go.Proofs.Ytabpicbhhplcgaa
open Go.ChangeShapes Go.WideShapes Go.ChangeAt Go.RowKit

/-- The slice at 'a', of capacity c, has the numbers l. -/
def IsInts (w : World) (a : Option Addr) (c : Nat) (l : List Int) : Prop :=
  l.length ≤ c ∧ c ≤ maxLen ∧ (∀ x ∈ l, (Lit.int .i64 x).wf = true) ∧ (l = [] ∨ ∃ b o, a = some ⟨b, o, none⟩ ∧ b < w.heap.size ∧ ∀ (j : Nat) x, l[j]? = some x → w.cell? ⟨b, o + j, none⟩ = some (.int .i64 x))

theorem open_nums {H : Type} {enc : TypeId × Value → H} {W : World} {a : Option Addr} {len cap fuel : Nat} {d : DataW H} {p : List MemPlace}
    (hf : DataW.trod enc Try.prog W 0 (fun _ => true) true fuel 42 (Value.slice a len cap).cells.toList = some (d, p)) :
    ∃ l : List Int, l.length = len ∧ (IsInts W a cap l ∧ (a = none → cap = 0)) ∧ l.length + 1 ≤ Rows.uptoBulk d := by
  rcases open_ints Try.underlying42 Try.underlying3 (by kernel_rfl) hf with ⟨hcs, hx⟩ | ⟨x, l, c, zs, hcs, _, hl, hm, hz, hx, hcell, hws⟩
  · simp [Value.cells] at hcs
    obtain ⟨rfl, rfl, rfl⟩ := hcs
    simp only [Prod.mk.injEq] at hx
    exact ⟨[], rfl, ⟨⟨by simp, by simp [maxLen], (fun x h => by cases h), .inl rfl⟩, fun _ => rfl⟩, by rw [hx.1]; simp [Rows.uptoBulk]⟩
  · simp [Value.cells] at hcs
    obtain ⟨rfl, rfl, rfl⟩ := hcs
    simp only [if_true] at hz
    simp only [Prod.mk.injEq] at hx
    have htl : (zs.take len).length = len := by simp; omega
    refine ⟨zs.take len, htl, ⟨⟨by omega, hm, fun y hy => hws y (List.mem_of_mem_take hy), ?_⟩, fun h => by cases h⟩, ?_⟩
    · by_cases h0 : len = 0
      · left; subst h0; simp
      · right
        obtain ⟨b, o, spot⟩ := x
        have hc := hcell 0 (by omega)
        have hspot : spot = none := by simpa [Addr.add] using World.cell?_spot hc
        subst hspot
        refine ⟨b, o, rfl, ?_, fun j y hj => ?_⟩
        · have := World.block_lt_of_cell? _ _ hc
          simpa [Addr.add] using this
        · have hjl : j < len := by have := (List.getElem?_eq_some_iff.1 hj).1; omega
          have := hcell j (by omega)
          rw [List.getElem?_take_of_lt hjl] at hj
          have e : zs.getD j 0 = y := by simp [List.getD, hj]
          rw [e] at this
          cases j with
          | zero => simpa [Addr.add] using this
          | succ j => simpa [Addr.add] using this
    · rw [hx.1, htl]
      simp only [Rows.uptoBulk, bulk_lits]
      simp
      omega
end Go.Proofs.Ytabpicbhhplcgaa
