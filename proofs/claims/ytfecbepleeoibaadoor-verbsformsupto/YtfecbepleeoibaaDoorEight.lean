/-
  Eight cells in a block; what the document's reading makes.
-/
import Derived.Test.YtfecbepleeoibaaDoorRefFirst
import Derived.Test.YtfecbepleeoibaaDoorRefSplit
import Derived.Test.YtfecbepleeoibaaDoorParseV
namespace Go.Proofs.YtfecbepleeoibaaDoor
open Go.RowKit Go.Lib

theorem eight {w : World} {b : Nat} {o0 o1 o2 o3 o4 o5 o6 o7 : Value} (h : w.heap[b]? = some (.cells #[o0, o1, o2, o3, o4, o5, o6, o7] 27 (0, 0))) :
    w.cell? ⟨b, 0, none⟩ = some o0 ∧ w.cell? ⟨b, 1, none⟩ = some o1 ∧ w.cell? ⟨b, 2, none⟩ = some o2 ∧ w.cell? ⟨b, 3, none⟩ = some o3 ∧ w.cell? ⟨b, 4, none⟩ = some o4 ∧ w.cell? ⟨b, 5, none⟩ = some o5 ∧ w.cell? ⟨b, 6, none⟩ = some o6 ∧ w.cell? ⟨b, 7, none⟩ = some o7 ∧ ∀ i, w.frozen? ⟨b, i, none⟩ = false :=
  ⟨cells_at h rfl, cells_at h rfl, cells_at h rfl, cells_at h rfl, cells_at h rfl, cells_at h rfl, cells_at h rfl, cells_at h rfl, fun i => by simp [World.frozen?, h]⟩
theorem st0 {α : Type} (o0 o1 o2 o3 o4 o5 o6 o7 v : α) : #[o0, o1, o2, o3, o4, o5, o6, o7].setIfInBounds 0 v = #[v, o1, o2, o3, o4, o5, o6, o7] := rfl
theorem st1 {α : Type} (o0 o1 o2 o3 o4 o5 o6 o7 v : α) : #[o0, o1, o2, o3, o4, o5, o6, o7].setIfInBounds 1 v = #[o0, v, o2, o3, o4, o5, o6, o7] := rfl
theorem st2 {α : Type} (o0 o1 o2 o3 o4 o5 o6 o7 v : α) : #[o0, o1, o2, o3, o4, o5, o6, o7].setIfInBounds 2 v = #[o0, o1, v, o3, o4, o5, o6, o7] := rfl
theorem st3 {α : Type} (o0 o1 o2 o3 o4 o5 o6 o7 v : α) : #[o0, o1, o2, o3, o4, o5, o6, o7].setIfInBounds 3 v = #[o0, o1, o2, v, o4, o5, o6, o7] := rfl
theorem st4 {α : Type} (o0 o1 o2 o3 o4 o5 o6 o7 v : α) : #[o0, o1, o2, o3, o4, o5, o6, o7].setIfInBounds 4 v = #[o0, o1, o2, o3, v, o5, o6, o7] := rfl
theorem st5 {α : Type} (o0 o1 o2 o3 o4 o5 o6 o7 v : α) : #[o0, o1, o2, o3, o4, o5, o6, o7].setIfInBounds 5 v = #[o0, o1, o2, o3, o4, v, o6, o7] := rfl
theorem st6 {α : Type} (o0 o1 o2 o3 o4 o5 o6 o7 v : α) : #[o0, o1, o2, o3, o4, o5, o6, o7].setIfInBounds 6 v = #[o0, o1, o2, o3, o4, o5, v, o7] := rfl
theorem st7 {α : Type} (o0 o1 o2 o3 o4 o5 o6 o7 v : α) : #[o0, o1, o2, o3, o4, o5, o6, o7].setIfInBounds 7 v = #[o0, o1, o2, o3, o4, o5, o6, v] := rfl
theorem arr8 {α : Type} (o0 o1 o2 o3 o4 o5 o6 o7 v0 v1 v2 v3 v4 v5 v6 v7 : α) : ((((((((#[o0, o1, o2, o3, o4, o5, o6, o7].setIfInBounds 0 v0).setIfInBounds 1 v1).setIfInBounds 2 v2).setIfInBounds 3 v3).setIfInBounds 4 v4).setIfInBounds 5 v5).setIfInBounds 6 v6).setIfInBounds 7 v7) = #[v0, v1, v2, v3, v4, v5, v6, v7] := by rw [st0, st1, st2, st3, st4, st5, st6, st7]
theorem eight_set {w : World} {b : Nat} {o0 o1 o2 o3 o4 o5 o6 o7 : Value} (h : w.heap[b]? = some (.cells #[o0, o1, o2, o3, o4, o5, o6, o7] 27 (0, 0))) (v0 v1 v2 v3 v4 v5 v6 v7 : Value) :
    ((((((((w.setCell ⟨b, 0, none⟩ v0).setCell ⟨b, 1, none⟩ v1).setCell ⟨b, 2, none⟩ v2).setCell ⟨b, 3, none⟩ v3).setCell ⟨b, 4, none⟩ v4).setCell ⟨b, 5, none⟩ v5).setCell ⟨b, 6, none⟩ v6).setCell ⟨b, 7, none⟩ v7).heap[b]? = some (.cells #[v0, v1, v2, v3, v4, v5, v6, v7] 27 (0, 0)) ∧ w.grownBy ((((((((w.setCell ⟨b, 0, none⟩ v0).setCell ⟨b, 1, none⟩ v1).setCell ⟨b, 2, none⟩ v2).setCell ⟨b, 3, none⟩ v3).setCell ⟨b, 4, none⟩ v4).setCell ⟨b, 5, none⟩ v5).setCell ⟨b, 6, none⟩ v6).setCell ⟨b, 7, none⟩ v7) (some b) := by
  have a0 := set_cells h 0 v0
  have a1 := set_cells a0.1 1 v1
  have a2 := set_cells a1.1 2 v2
  have a3 := set_cells a2.1 3 v3
  have a4 := set_cells a3.1 4 v4
  have a5 := set_cells a4.1 5 v5
  have a6 := set_cells a5.1 6 v6
  have a7 := set_cells a6.1 7 v7
  refine ⟨a7.1.trans (congrArg (fun cs => some (Obj.cells cs 27 (0, 0))) ?_), (grown_trans (grown_trans (grown_trans (grown_trans (grown_trans (grown_trans (grown_trans a0.2 a1.2) a2.2) a3.2) a4.2) a5.2) a6.2) a7.2)⟩
  exact arr8 _ _ _ _ _ _ _ _ _ _ _ _ _ _ _ _

theorem from_nonneg (most : Int) : ∀ (l : List UInt8) (n m : Int), 0 ≤ n → parseFrom most l n = some m → 0 ≤ m
  | [], n, m, hn, h => by rw [parseFrom] at h; have := Option.some.inj h; omega
  | c :: r, n, m, hn, h => by
    rw [parseFrom] at h
    split at h
    · split at h
      · cases h
      · exact from_nonneg most r _ m (by omega) h
    · cases h
theorem parseV_nonneg (l : List UInt8) (most : Int) : 0 ≤ parseV l most := by
  unfold parseV
  split
  · decide
  · cases h : parseFrom most l 0 with
    | none => decide
    | some m => exact from_nonneg most l 0 m (by decide) h

/-- A command as the document has read it so far: the fields of d are read. -/
def midC (k : Nat) (d : List Nat) (v : Nat → Int) (t : List UInt8) : Cm := ⟨k, v 1, v 2, v 3, if d.contains 4 then (if v 4 = 0 then 1 else v 4) else v 4, v 5, t⟩
theorem mid_set (k : Nat) (d : List Nat) (v : Nat → Int) (t : List UInt8) (f : Nat) (hf : 1 ≤ f ∧ f ≤ 6) (h6 : f ≠ 6) (hd : d.contains f = false) (x : List UInt8) :
    setC (midC k d v t) f x = midC k (d ++ [f]) (upd v f (parseV x (great f))) t := by
  match f, hf, h6, hd with
  | 1, _, _, _ => simp [setC, midC, upd, great]
  | 2, _, _, _ => simp [setC, midC, upd, great]
  | 3, _, _, _ => simp [setC, midC, upd, great]
  | 4, _, _, _ => simp [setC, midC, upd, great]
  | 5, _, _, _ => simp [setC, midC, upd, great]
  | 6, _, h, _ => exact absurd rfl h
  | 0, h, _, _ => omega
  | n + 7, h, _, _ => omega
theorem mid_tube (k : Nat) (d : List Nat) (v : Nat → Int) (t : List UInt8) (x : List UInt8) : setC (midC k d v t) 6 x = midC k (d ++ [6]) v x := by
  simp [setC, midC]
theorem mid_end (k : Nat) (hk : k < 26) (v : Nat → Int) (t : List UInt8) (h4 : 0 ≤ v 4) : midC k (formOf k) v t = mkC k v t := by
  unfold midC mkC
  rw [four_put k hk]
  by_cases h1 : k = 1
  · rw [if_pos (by simp [h1]), if_pos h1]
    congr 1
    split <;> omega
  · rw [if_neg (by simp [h1]), if_neg h1]
theorem mid_zero (k : Nat) : midC k [] zeros [] = ⟨k, 0, 0, 0, 0, 0, []⟩ := rfl
end Go.Proofs.YtfecbepleeoibaaDoor
