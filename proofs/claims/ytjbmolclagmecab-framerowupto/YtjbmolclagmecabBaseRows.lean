/-
  An argument that is a list of lists of bytes, opened.
-/
import Derived.Test.YtjbmolclagmecabBase
import Derived.Test.YtjbmolclagmecabBRows
import Derived.Deep.Slices
namespace Go.Proofs.Ytjbmolclagmecab
open Go.ChangeShapes Go.WideShapes Go.ChangeAt Go.RowKit

theorem open_bytes1 {H : Type} {enc : TypeId × Value → H} {W : World} {v : Value} {fuel : Nat} {d : DataW H} {p : List MemPlace}
    (hf : DataW.trod enc Try.prog W 0 (fun _ => true) true fuel 22 [v] = some (d, p)) :
    ∃ y : List UInt8, ∃ a c, v = .slice a y.length c ∧ IsBytes W a c y ∧ (a = none → c = 0) ∧ y.length + 1 ≤ Rows.uptoBulk d := by
  have hv : ∃ a n c, v = .slice a n c := by
    rcases open_ints Try.underlying22 Try.underlying5 (by kernel_rfl) hf with ⟨hcs, _⟩ | ⟨x, l, c, zs, hcs, _⟩
    · exact ⟨none, 0, 0, by simpa using hcs⟩
    · exact ⟨some x, l, c, by simpa using hcs⟩
  obtain ⟨a, n, c, rfl⟩ := hv
  obtain ⟨l, rfl, h, hb⟩ := open_bytes (a := a) (len := n) (cap := c) hf
  exact ⟨l, a, c, rfl, h.1, h.2, hb⟩

theorem bulk_rows {H : Type} (D : Nat → DataW H) (y : Nat → List UInt8) : ∀ (l : List Nat), (∀ i ∈ l, (y i).length + 1 ≤ Rows.uptoBulk (D i)) → tot (l.map y) ≤ 9 * Rows.uptoBulkAll (l.map D)
  | [], _ => by simp [tot]
  | i :: l, h => by
    have ih := bulk_rows D y l (fun j hj => h j (List.mem_cons_of_mem _ hj))
    have hi := h i List.mem_cons_self
    simp only [tot, List.map_cons, List.sum_cons, Rows.uptoBulkAll] at ih ⊢
    omega

theorem open_rows {H : Type} {enc : TypeId × Value → H} {W : World} {a : Option Addr} {len cap fuel : Nat} {d : DataW H} {p : List MemPlace}
    (hf : DataW.trod enc Try.prog W 0 (fun _ => true) true fuel 31 (Value.slice a len cap).cells.toList = some (d, p)) :
    ∃ ls : List (List UInt8), ls.length = len ∧ IsRows W a cap ls ∧ tot ls + 9 ≤ 9 * Rows.uptoBulk d := by
  rcases Deep.open_slice1 Try.underlying31 (by kernel_rfl) hf with ⟨hcs, hx⟩ | ⟨x, l, c, m, n, V, D, Pl, hcs, _, hl, hm, hmm, hx, hcell⟩
  · simp [Value.cells] at hcs
    obtain ⟨rfl, rfl, rfl⟩ := hcs
    simp only [Prod.mk.injEq] at hx
    exact ⟨[], rfl, ⟨by simp, by simp [maxLen], .inl rfl⟩, by rw [hx.1]; simp [Rows.uptoBulk, tot]⟩
  · simp [Value.cells] at hcs
    obtain ⟨rfl, rfl, rfl⟩ := hcs
    simp only [if_true] at hmm
    subst hmm
    simp only [Prod.mk.injEq] at hx
    obtain ⟨y, hy⟩ := Deep.choose_lt (α := List UInt8) (p := fun i y => ∃ a c, V i = .slice a y.length c ∧ IsBytes W a c y ∧ (a = none → c = 0) ∧ y.length + 1 ≤ Rows.uptoBulk (D i)) (fun i hi => open_bytes1 (hcell i hi).2)
    refine ⟨(List.range len).map y, by simp, ⟨by simpa using hl, hm, ?_⟩, ?_⟩
    · by_cases h0 : len = 0
      · left; subst h0; simp
      · right
        obtain ⟨b, o, spot⟩ := x
        have hc := (hcell 0 (by omega)).1
        have hspot : spot = none := by simpa [Addr.add] using World.cell?_spot hc
        subst hspot
        refine ⟨b, o, rfl, ?_, fun j l hj => ?_⟩
        · have := World.block_lt_of_cell? _ _ hc
          simpa [Addr.add] using this
        · have hjl : j < len := by have := (List.getElem?_eq_some_iff.1 hj).1; simpa using this
          rw [List.getElem?_map, List.getElem?_range hjl] at hj
          simp only [Option.map_some, Option.some.injEq] at hj
          subst hj
          obtain ⟨a', c', hV, his, h0', _⟩ := hy j (by omega)
          have := (hcell j (by omega)).1
          rw [hV] at this
          refine ⟨a', c', ?_, his, h0'⟩
          cases j with
          | zero => simpa [Addr.add] using this
          | succ j => simpa [Addr.add] using this
    · have := bulk_rows D y (List.range len) (fun i hi => by
        obtain ⟨_, _, _, _, _, h⟩ := hy i (by have := List.mem_range.1 hi; omega)
        exact h)
      rw [hx.1]
      simp only [Rows.uptoBulk]
      omega
end Go.Proofs.Ytjbmolclagmecab
