/-
  Bytes of the call's own, written into; what is turned in its place.
-/
import Derived.Test.YtnpofjeiamjioaaAppend
import Derived.OwnWalk
namespace Go.Proofs.Ytnpofjeiamjioaa
open Go.RowKit

theorem IsBytes.take {w : World} {a : Option Addr} {c : Nat} {l : List UInt8} (h : IsBytes w a c l) (k : Nat) : IsBytes w a c (l.take k) := by
  obtain ⟨h1, h2, h3⟩ := h
  refine ⟨by simp; omega, h2, ?_⟩
  rcases h3 with rfl | ⟨b, o, ha, hb, hc⟩
  · left; simp
  · refine .inr ⟨b, o, ha, hb, fun j x hj => hc j x ?_⟩
    have hjk : j < k := by have := (List.getElem?_eq_some_iff.1 hj).1; simp at this; omega
    rwa [List.getElem?_take_of_lt hjk] at hj
theorem IsBytes.head {w : World} {a : Option Addr} {c : Nat} {l m : List UInt8} (h : IsBytes w a c (l ++ m)) : IsBytes w a c l := by
  have := h.take l.length
  rwa [List.take_left] at this

theorem Own.is {w : World} {B g m cap : Nat} {X : List UInt8} (h : Own w B (.slice (some ⟨g, 0, none⟩) m cap) X) : IsBytes w (some ⟨g, 0, none⟩) cap X ∧ X.length = m := by
  obtain ⟨a, c, hv, his⟩ := h.shape
  simp only [Value.slice.injEq] at hv
  obtain ⟨rfl, rfl, rfl⟩ := hv
  exact ⟨his, rfl⟩
theorem Own.block {w : World} {B g m cap : Nat} {X : List UInt8} (h : Own w B (.slice (some ⟨g, 0, none⟩) m cap) X) : B ≤ g ∧ g < w.heap.size := h.lt g rfl
theorem Own.cell {w : World} {B g m cap : Nat} {X : List UInt8} (h : Own w B (.slice (some ⟨g, 0, none⟩) m cap) X) (j : Nat) (x : UInt8) (hx : X[j]? = some x) : w.cell? ⟨g, j, none⟩ = some (.int .u8 (x.toNat : Int)) := by
  rcases h.is.1.2.2 with rfl | ⟨b, o, ha, hb, hc⟩
  · simp at hx
  · simp only [Option.some.injEq, Addr.mk.injEq] at ha
    obtain ⟨rfl, rfl, _⟩ := ha
    have := hc j x hx
    rwa [Nat.zero_add] at this
theorem Own.frozen {w : World} {B g m cap : Nat} {X : List UInt8} (h : Own w B (.slice (some ⟨g, 0, none⟩) m cap) X) (j : Nat) : w.frozen? ⟨g, j, none⟩ = false := by
  rcases h.2 with ⟨h', _⟩ | ⟨g', cap', cur, h', hb, hg, _⟩
  · simp at h'
  · simp only [Value.slice.injEq, Option.some.injEq, Addr.mk.injEq] at h'
    obtain ⟨⟨rfl, _⟩, _⟩ := h'
    simp [World.frozen?, hg]
theorem Own.set {w : World} {B g m cap : Nat} {X : List UInt8} (h : Own w B (.slice (some ⟨g, 0, none⟩) m cap) X) (j : Nat) (x : UInt8) :
    Own (w.setCell ⟨g, j, none⟩ (.int .u8 (x.toNat : Int))) B (.slice (some ⟨g, 0, none⟩) m cap) (X.set j x) ∧ w.grownBy (w.setCell ⟨g, j, none⟩ (.int .u8 (x.toNat : Int))) (some g) := by
  have hm := h.is.2
  unfold Own at h ⊢
  rw [hm] at h
  have := h.stored j (.int .u8 (x.toNat : Int))
  rw [List.length_set, hm, show u8s (X.set j x) = (u8s X).set j (.int .u8 (x.toNat : Int)) by simp [u8s, List.map_set]]
  exact this
theorem Own.keep {w w' : World} {B C : Nat} {v : Value} {X : List UInt8} (h : Own w B v X) (hb : Below C w w') (hC : ∀ g, v.ownBlock = some g → g < C) : Own w' B v X := by
  refine ⟨h.1, ?_⟩
  rcases h.2 with h0 | ⟨g, cap, cur, rfl, hB, hg, rest⟩
  · exact .inl h0
  · exact .inr ⟨g, cap, cur, rfl, hB, (hb.block g (hC g rfl)).trans hg, rest⟩

/-- The first k bytes turned. -/
def turned (l : List UInt8) (k : Nat) : List UInt8 := (l.take k).map (fun b => b ^^^ 33) ++ l.drop k
theorem turned_zero (l : List UInt8) : turned l 0 = l := by simp [turned]
theorem turned_length (l : List UInt8) (k : Nat) : (turned l k).length = l.length := by simp [turned]; omega
theorem turned_all (l : List UInt8) : turned l l.length = l.map fun b => b ^^^ 33 := by simp [turned]
theorem turned_get (l m : List UInt8) (k : Nat) (x : UInt8) (hx : l[k]? = some x) : (turned l k ++ m)[k]? = some x := by
  have hk := (List.getElem?_eq_some_iff.1 hx).1
  rw [List.getElem?_append_left (by rw [turned_length]; exact hk)]
  unfold turned
  rw [List.getElem?_append_right (by simp; omega)]
  simp only [List.length_map, List.length_take, List.getElem?_drop]
  rw [show k + (k - min k l.length) = k by omega]
  exact hx
theorem turned_set (l m : List UInt8) (k : Nat) (x : UInt8) (hx : l[k]? = some x) : (turned l k ++ m).set k (x ^^^ 33) = turned l (k + 1) ++ m := by
  have hk := (List.getElem?_eq_some_iff.1 hx).1
  have hg := (List.getElem?_eq_some_iff.1 hx).2
  rw [List.set_append_left _ _ (by rw [turned_length]; exact hk)]
  congr 1
  unfold turned
  rw [List.set_append_right _ _ (by simp; omega), List.drop_eq_getElem_cons hk, hg, List.take_add_one, hx]
  simp only [List.length_map, List.length_take]
  rw [show k - min k l.length = 0 by omega]
  simp
theorem xor33 (x : UInt8) : bits .xor .u8 (x.toNat : Int) 33 = (((x ^^^ 33 : UInt8).toNat : Nat) : Int) := by
  have hx := x.toNat_lt
  have h : x.toNat ^^^ 33 < 256 := Nat.xor_lt_two_pow (n := 8) hx (by decide)
  have ha' : x.toNat % 2 ^ IntKind.u8.bits = x.toNat := Nat.mod_eq_of_lt hx
  have e : bits .xor .u8 (x.toNat : Int) ((33 : Nat) : Int) = ((x.toNat ^^^ 33 : Nat) : Int) := by
    simp only [bits, BitVec.ofInt_natCast, BitVec.toNat_xor, BitVec.toNat_ofNat, ha', show 33 % 2 ^ IntKind.u8.bits = 33 from rfl]
    rw [IntKind.wrap_u8]
    omega
  rw [show (33 : Int) = ((33 : Nat) : Int) from rfl, e]
  simp
end Go.Proofs.Ytnpofjeiamjioaa
