/-
  For ScriptRemarks: the text that is put together.
-/
import Derived.Test.YteecmbpabkndlaaDoorRemKit
namespace Go.Proofs.YteecmbpabkndlaaDoor
open Go.RowKit

theorem Own.form {w : World} {B : Nat} {v : Value} {l : List UInt8} (h : Own w B v l) : ∃ a c, v = .slice a l.length c := by
  obtain ⟨a, c, e, _⟩ := h.shape
  exact ⟨a, c, e⟩
/-- The remark and the text so far, in memory. -/
structure R1 (E w : World) (B : Nat) (pv ov : Value) (P O : Tx) : Prop where
  low : Below B E w
  Bw : B ≤ w.heap.size
  pass : Own w B pv P
  out : Own w B ov O
  le : P.length ≤ O.length
theorem R1.later {E w w' : World} {B : Nat} {pv ov : Value} {P O : Tx} (h : R1 E w B pv ov P O) (hb : Below w.heap.size w w') : R1 E w' B pv ov P O :=
  ⟨h.low.trans (hb.mono h.Bw), Nat.le_trans h.Bw hb.size, h.pass.below hb, h.out.below hb, h.le⟩
theorem R1.app {E w w' : World} {B : Nat} {pv ov v' : Value} {P O Y : Tx} (h : R1 E w B pv ov P O) (ho : Own w' B v' (O ++ Y)) (hg : w.grownBy w' ov.ownBlock) (hk : ∀ (b0 : Nat) (u : Value) (ys : List UInt8), Own w b0 u ys → (u.ownBlock = ov.ownBlock → ys.length ≤ O.length) → Own w' b0 u ys) : R1 E w' B pv v' P (O ++ Y) :=
  ⟨h.low.grown hg h.Bw (fun g e => (h.out.lt g e).1), Nat.le_trans h.Bw hg.size, hk B pv P h.pass (fun _ => h.le), ho, by have := h.le; rw [List.length_append]; omega⟩
theorem R1.lit {E w : World} {B : Nat} {pv ov : Value} {P O : Tx} (h : R1 E w B pv ov P O) (o : Obj) : R1 E (w.alloc o) B pv ov P O := h.later ((Below.refl _ w).alloc (Nat.le_refl _) o)
theorem R1.passed {E w : World} {B : Nat} {pa : Option Addr} {n pc : Nat} {ov : Value} {P O : Tx} (h : R1 E w B (.slice pa n pc) ov P O) : IsBytes w pa pc P := by
  obtain ⟨a, c, e, hb⟩ := h.pass.shape
  cases e
  exact hb
/-- How far it is. -/
structure R2 (P O T : Tx) (e : Nat) (line : Int) (i m : Nat) (more : Int) : Prop where
  full : P ++ 10 :: 10 :: mix P e 0 T = O ++ mix P e m (T.drop i)
  mor : 2 + mixM e line 0 T = more + mixM e line m (T.drop i)
  mi : m ≤ i
  mb : 0 ≤ more ∧ more ≤ 2 + 2 * i
  bnd : O.length ≤ 1048576 + P.length + 10
theorem R2.start (P T : Tx) (e : Nat) (line : Int) : R2 P (P ++ [10, 10]) T e line 0 0 2 := ⟨by simp, by simp, by omega, by omega, by simp; omega⟩
theorem R2.other {P O T : Tx} {e : Nat} {line : Int} {i m : Nat} {more : Int} {y : UInt8} (h : R2 P O T e line i m more) (hy : T[i]? = some y) (h10 : y ≠ 10) (hl : O.length ≤ 1048576) : R2 P (O ++ [y]) T e line (i + 1) m more := by
  have hd := (drop_take T i y hy).1
  have f := h.full
  have g := h.mor
  rw [hd, mix, if_neg h10] at f
  rw [hd, mixM, if_neg h10] at g
  exact ⟨by rw [f]; simp, g, by have := h.mi; omega, by have := h.mb; omega, by simp; omega⟩
theorem R2.bare {P O T : Tx} {e : Nat} {line : Int} {i m : Nat} {more : Int} (h : R2 P O T e line i m more) (hy : T[i]? = some 10) (hm : ¬ (m + 1) % e = 0) (hl : O.length ≤ 1048576) : R2 P (O ++ [10]) T e line (i + 1) (m + 1) more := by
  have hd := (drop_take T i 10 hy).1
  have f := h.full
  have g := h.mor
  rw [hd, mix, if_pos rfl, if_neg hm] at f
  rw [hd, mixM, if_pos rfl, if_neg (fun h => hm h.1)] at g
  exact ⟨by rw [f]; simp, by omega, by have := h.mi; omega, by have := h.mb; omega, by simp; omega⟩
theorem R2.put {P O T : Tx} {e : Nat} {line : Int} {i m : Nat} {more : Int} (h : R2 P O T e line i m more) (hy : T[i]? = some 10) (hm : (m + 1) % e = 0) (hl : O.length ≤ 1048576) : R2 P (O ++ [10] ++ [10] ++ P ++ [10]) T e line (i + 1) (m + 1) (if ((m : Int) + 1) < line then more + 2 else more) := by
  have hd := (drop_take T i 10 hy).1
  have f := h.full
  have g := h.mor
  rw [hd, mix, if_pos rfl, if_pos hm] at f
  rw [hd, mixM, if_pos rfl] at g
  refine ⟨by rw [f]; simp, ?_, by have := h.mi; omega, by have := h.mb; split <;> omega, by simp; omega⟩
  by_cases hlt : ((m : Int) + 1) < line
  · rw [if_pos ⟨hm, by omega⟩] at g
    rw [if_pos hlt]
    omega
  · rw [if_neg (fun h => hlt (by have := h.2; omega))] at g
    rw [if_neg hlt]
    omega
theorem R2.fin {P O T : Tx} {e : Nat} {line : Int} {i m : Nat} {more : Int} (h : R2 P O T e line i m more) (hi : T.length ≤ i) : P ++ 10 :: 10 :: mix P e 0 T = O ∧ 2 + mixM e line 0 T = more := by
  have f := h.full
  have g := h.mor
  rw [List.drop_of_length_le hi] at f g
  exact ⟨by rw [f]; simp [mix], by rw [g]; simp [mixM]⟩
end Go.Proofs.YteecmbpabkndlaaDoor
