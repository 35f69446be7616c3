/-
  Bytes in memory.
-/
import Derived.Test.YtonfdmbcbfpgdaaProg
import Derived.WalkKit
import Derived.WalkSpells
import Derived.WalkLawsBesides
import Derived.WalkSmall
import Derived.Laws.CopyOwn
import Derived.Lib.OthersKept
namespace Go.Proofs.Ytonfdmbcbfpgdaa
open Go.RowKit

/-- The slice at 'a', of capacity c, has the bytes l. -/
def IsBytes (w : World) (a : Option Addr) (c : Nat) (l : List UInt8) : Prop :=
  l.length ≤ c ∧ c ≤ maxLen ∧ (l = [] ∨ ∃ b o, a = some ⟨b, o, none⟩ ∧ b < w.heap.size ∧ ∀ (j : Nat) x, l[j]? = some x → w.cell? ⟨b, o + j, none⟩ = some (.int .u8 (x.toNat : Int)))

theorem IsBytes.below {w w' : World} {a : Option Addr} {c : Nat} {l : List UInt8} (h : IsBytes w a c l) (hb : Below w.heap.size w w') : IsBytes w' a c l := by
  obtain ⟨h1, h2, h3⟩ := h
  refine ⟨h1, h2, ?_⟩
  rcases h3 with h | ⟨b, o, ha, hbk, hc⟩
  · exact .inl h
  · exact .inr ⟨b, o, ha, Nat.lt_of_lt_of_le hbk hb.size, fun j x hj => (hb.cell (p := ⟨b, o + j, none⟩) hbk).trans (hc j x hj)⟩

/-- The cells of bytes. -/
def u8s (l : List UInt8) : List Value := l.map fun b => Value.int .u8 (b.toNat : Int)
theorem u8s_length (l : List UInt8) : (u8s l).length = l.length := by simp [u8s]
theorem u8s_get (l : List UInt8) (j : Nat) : (u8s l)[j]? = l[j]?.map fun b => Value.int .u8 (b.toNat : Int) := by simp [u8s]
theorem u8s_one (l : List UInt8) : ∀ v ∈ u8s l, v.oneCell' = true := by
  intro v hv; simp [u8s] at hv; obtain ⟨x, _, rfl⟩ := hv; rfl
theorem u8s_splice (l m : List UInt8) (o : Nat) : splice (u8s l) o (u8s m) = u8s (splice l o m) := by simp [splice, u8s, List.map_append]

/-- A block has just the bytes bs, and may be written. -/
def ByteRow (w : World) (t : TypeId) (g : Nat) (bs : List UInt8) : Prop := w.heap[g]? = some (.cells (u8s bs).toArray t (0, 0))

theorem ByteRow.lt {w : World} {t : TypeId} {g : Nat} {bs : List UInt8} (h : ByteRow w t g bs) : g < w.heap.size := by
  have h : w.heap[g]? = _ := h
  exact (Array.getElem?_eq_some_iff.1 h).1
theorem ByteRow.cell {w : World} {t : TypeId} {g : Nat} {bs : List UInt8} (h : ByteRow w t g bs) (j : Nat) (x : UInt8) (hx : bs[j]? = some x) : w.cell? ⟨g, j, none⟩ = some (.int .u8 (x.toNat : Int)) := by
  have h : w.heap[g]? = _ := h
  simp [World.cell?, h, u8s_get, hx]
theorem ByteRow.frozen {w : World} {t : TypeId} {g : Nat} {bs : List UInt8} (h : ByteRow w t g bs) (j : Nat) : w.frozen? ⟨g, j, none⟩ = false := by
  have h : w.heap[g]? = _ := h
  simp [World.frozen?, h]
theorem ByteRow.below {w w' : World} {t : TypeId} {B g : Nat} {bs : List UInt8} (h : ByteRow w t g bs) (hb : Below B w w') (hg : g < B) : ByteRow w' t g bs := by
  have h : w.heap[g]? = _ := h
  exact (hb.block g hg).trans h
theorem ByteRow.drew {w : World} {t : TypeId} {g : Nat} {bs : List UInt8} (h : ByteRow w t g bs) : ByteRow w.drew t g bs := h
theorem IsBytes.drew {w : World} {a : Option Addr} {c : Nat} {l : List UInt8} (h : IsBytes w a c l) : IsBytes w.drew a c l := h.below (Below.refl _ w).drew
theorem ByteRow.grown {w w' : World} {t : TypeId} {g k : Nat} {bs : List UInt8} (h : ByteRow w t g bs) (hb : w.grownBy w' (some k)) (hg : g ≠ k) : ByteRow w' t g bs := by
  have hlt := h.lt
  have h : w.heap[g]? = _ := h
  exact (hb.block g hlt (fun e => hg (Option.some.inj e))).trans h
theorem ByteRow.is {w : World} {t : TypeId} {g : Nat} {bs : List UInt8} (h : ByteRow w t g bs) (o c : Nat) (l : List UInt8) (hl : ∀ (j : Nat) x, l[j]? = some x → bs[o + j]? = some x) (hc : l.length ≤ c) (hm : c ≤ maxLen) : IsBytes w (some ⟨g, o, none⟩) c l :=
  ⟨hc, hm, .inr ⟨g, o, rfl, h.lt, fun j x hj => h.cell (o + j) x (hl j x hj)⟩⟩
theorem ByteRow.set {w : World} {t : TypeId} {g : Nat} {bs : List UInt8} (h : ByteRow w t g bs) (j : Nat) (x : UInt8) : ByteRow (w.setCell ⟨g, j, none⟩ (.int .u8 (x.toNat : Int))) t g (bs.set j x) ∧ w.grownBy (w.setCell ⟨g, j, none⟩ (.int .u8 (x.toNat : Int))) (some g) := by
  have h : w.heap[g]? = _ := h
  rw [setCell_eq_setRow w g j _ t (0, 0) _ h]
  refine ⟨?_, ⟨rfl, rfl, rfl, by simp [World.setRow], fun k _ hk => ?_⟩⟩
  · unfold ByteRow
    rw [setRow_heap w g _ _ t _ h]
    simp [u8s, List.map_set]
  · exact setRow_other w g k _ (fun e => hk (by rw [e]))
theorem grown_refl (w : World) (g : Option Nat) : w.grownBy w g := ⟨rfl, rfl, rfl, Nat.le_refl _, fun _ _ _ => rfl⟩
theorem grown_trans {w w1 w2 : World} {g : Option Nat} (h1 : w.grownBy w1 g) (h2 : w1.grownBy w2 g) : w.grownBy w2 g := by
  obtain ⟨a1, a2, a3, a4, a5⟩ := h1
  obtain ⟨b1, b2, b3, b4, b5⟩ := h2
  exact ⟨b1.trans a1, b2.trans a2, b3.trans a3, Nat.le_trans a4 b4, fun k hk hg => (b5 k (Nat.lt_of_lt_of_le hk a4) hg).trans (a5 k hk hg)⟩
theorem grown_below {w w1 : World} {B g : Nat} (h : w.grownBy w1 (some g)) (hB : B ≤ g) (hBw : B ≤ w.heap.size) : Below B w w1 :=
  (Below.refl B w).grown h hBw (fun j hj => by cases hj; exact hB)
end Go.Proofs.Ytonfdmbcbfpgdaa
