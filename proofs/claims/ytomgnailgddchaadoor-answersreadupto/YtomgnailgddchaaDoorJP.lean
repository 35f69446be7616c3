/-
  Ints, BaseScr.
-/
import Derived.Test.YtomgnailgddchaaDoorJA
import Derived.Test.YtomgnailgddchaaDoorBase
import Derived.Test.YtomgnailgddchaaDoorReadA
import Derived.ChangeSlices
import Derived.Below
import Derived.Lib.SmallJoins
namespace Go.Proofs.YtomgnailgddchaaDoor
open Go.RowKit

/-- The slice at 'a', of capacity c, has the numbers l. -/
def IsInts (w : World) (a : Option Addr) (c : Nat) (l : List Int) : Prop :=
  l.length ≤ c ∧ c ≤ maxLen ∧ (∀ x ∈ l, -9223372036854775808 ≤ x ∧ x ≤ 9223372036854775807) ∧ (l = [] ∨ ∃ b o, a = some ⟨b, o, none⟩ ∧ b < w.heap.size ∧ ∀ (j : Nat) x, l[j]? = some x → w.cell? ⟨b, o + j, none⟩ = some (.int .i64 x))
theorem IsInts.cell {w : World} {a : Option Addr} {c : Nat} {l : List Int} (h : IsInts w a c l) {j : Nat} {x : Int} (hx : l[j]? = some x) : ∃ b o, a = some ⟨b, o, none⟩ ∧ w.cell? ⟨b, o + j, none⟩ = some (.int .i64 x) := by
  rcases h.2.2.2 with rfl | ⟨b, o, ha, _, hc⟩
  · simp at hx
  · exact ⟨b, o, ha, hc j x hx⟩
theorem IsInts.block {w w' : World} {a : Option Addr} {c : Nat} {l : List Int} (h : IsInts w a c l) (hs : w.heap.size ≤ w'.heap.size) (hb : ∀ b o, a = some ⟨b, o, none⟩ → b < w.heap.size → l ≠ [] → w'.heap[b]? = w.heap[b]?) : IsInts w' a c l := by
  obtain ⟨h1, h2, h3, h4⟩ := h
  refine ⟨h1, h2, h3, ?_⟩
  by_cases hl : l = []
  · exact .inl hl
  rcases h4 with h | ⟨b, o, ha, hbk, hc⟩
  · exact .inl h
  · exact .inr ⟨b, o, ha, by omega, fun j x hj => (World.cell?_of_block (hb b o ha hbk hl)).trans (hc j x hj)⟩
theorem IsInts.below {w w' : World} {a : Option Addr} {c : Nat} {l : List Int} (h : IsInts w a c l) (hb : Below w.heap.size w w') : IsInts w' a c l := h.block hb.size (fun b _ _ hlt _ => hb.block b hlt)
end Go.Proofs.YtomgnailgddchaaDoor

namespace Go.Proofs.YtomgnailgddchaaDoor
open Go.ChangeShapes Go.WideShapes Go.ChangeAt Go.RowKit

theorem laidOut : laidOutB Tryd.prog = true := by kernel_rfl
theorem bulk_lits {H : Type} (k : IntKind) : ∀ (l : List Int), Rows.uptoBulkAll (lits k l : List (DataW H)) = l.length
  | [] => by simp [lits, Rows.uptoBulkAll]
  | x :: r => by
    have ih := bulk_lits (H := H) k r
    simp only [lits, List.map_cons, Rows.uptoBulkAll, Rows.uptoBulk, List.length_cons] at ih ⊢
    omega

theorem byte_of {n : Int} (h : (Lit.int .u8 n).wf = true) : ((UInt8.ofNat n.toNat).toNat : Int) = n := by
  have hx : 0 ≤ n ∧ n ≤ 255 := by simpa [Lit.wf, IntKind.min, IntKind.max, IntKind.signed, IntKind.bits] using h
  rw [UInt8.toNat_ofNat']
  omega

theorem open_bytes {H : Type} {enc : TypeId × Value → H} {W : World} {a : Option Addr} {len cap fuel : Nat} {d : DataW H} {p : List MemPlace}
    (hf : DataW.trod enc Tryd.prog W 0 (fun _ => true) true fuel 34 (Value.slice a len cap).cells.toList = some (d, p)) :
    ∃ l : List UInt8, l.length = len ∧ (IsBytes W a cap l ∧ (a = none → cap = 0)) ∧ l.length + 1 ≤ Rows.uptoBulk d := by
  rcases open_ints Tryd.underlying34 Tryd.underlying5 (by kernel_rfl) hf with ⟨hcs, hx⟩ | ⟨x, l, c, zs, hcs, _, hl, hm, hz, hx, hcell, hws⟩
  · simp [Value.cells] at hcs
    obtain ⟨rfl, rfl, rfl⟩ := hcs
    simp only [Prod.mk.injEq] at hx
    exact ⟨[], rfl, ⟨⟨by simp, by simp [maxLen], .inl rfl⟩, fun _ => rfl⟩, by rw [hx.1]; simp [Rows.uptoBulk]⟩
  · simp [Value.cells] at hcs
    obtain ⟨rfl, rfl, rfl⟩ := hcs
    simp only [if_true] at hz
    simp only [Prod.mk.injEq] at hx
    have htl : ((zs.take len).map fun n => UInt8.ofNat n.toNat).length = len := by simp; omega
    refine ⟨(zs.take len).map fun n => UInt8.ofNat n.toNat, htl, ⟨⟨by omega, hm, ?_⟩, fun h => by cases h⟩, ?_⟩
    · by_cases h0 : len = 0
      · left; subst h0; simp
      · right
        obtain ⟨b, o, spot⟩ := x
        have hc := hcell 0 (by omega)
        have hspot : spot = none := by simpa [Addr.add] using World.cell?_spot hc
        subst hspot
        refine ⟨b, o, rfl, ?_, fun j y hj => ?_⟩
        · have := World.block_lt_of_cell? _ _ hc
          simpa [Addr.add] using this
        · have hjl : j < len := by have := (List.getElem?_eq_some_iff.1 hj).1; omega
          have hjz : j < zs.length := by omega
          have := hcell j hjz
          rw [List.getElem?_map, List.getElem?_take_of_lt hjl, List.getElem?_eq_getElem hjz] at hj
          simp only [Option.map_some, Option.some.injEq] at hj
          have e : zs.getD j 0 = (y.toNat : Int) := by
            rw [← hj, byte_of (hws _ (List.getElem_mem hjz))]
            simp [List.getD, List.getElem?_eq_getElem hjz]
          rw [e] at this
          cases j with
          | zero => simpa [Addr.add] using this
          | succ j => simpa [Addr.add] using this
    · rw [hx.1, htl]
      simp only [Rows.uptoBulk, bulk_lits]
      simp
      omega
end Go.Proofs.YtomgnailgddchaaDoor
