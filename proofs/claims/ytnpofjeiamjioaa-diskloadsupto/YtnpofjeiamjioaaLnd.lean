/-
  Files that are lent: how they lie; the walk of lend.
-/
import Derived.Test.YtnpofjeiamjioaaFdX
import Derived.Test.YtnpofjeiamjioaaLSm
namespace Go.Proofs.Ytnpofjeiamjioaa
open Go.RowKit

/-- A file that is lent: what it reads as, where its bytes lie. -/
structure Ln where
  r : Rf
  g : Nat
  cap : Nat
def Ln.dv (x : Ln) : Value := .slice (some ⟨x.g, 0, none⟩) (x.r.data.length + 8) x.cap
def Ln.cells (x : Ln) : List Value := [.int .i64 x.r.num, .slice (some ⟨x.g, 0, none⟩) x.r.data.length x.cap, .int .i64 x.r.safe]
def lflat (Q : List Ln) : List Value := Q.flatMap Ln.cells
theorem lflat_length (Q : List Ln) : (lflat Q).length = Q.length * 3 := by
  induction Q with
  | nil => rfl
  | cons a Q ih =>
    show (a.cells ++ lflat Q).length = _
    rw [List.length_append, ih]
    simp [Ln.cells]
    omega
theorem lflat_append (a b : List Ln) : lflat (a ++ b) = lflat a ++ lflat b := by simp [lflat]
/-- The lists while they are laid. -/
structure LnAt (w : World) (B ob : Nat) (av dv : Value) (Q : List Ln) : Prop where
  box : w.heap[ob]? = some (.cells #[av, dv] 79 (0, 0))
  lo : B ≤ ob
  ra : w.ownsRow B 62 3 av Q.length (lflat Q)
  rd : w.ownsRow B 37 1 dv Q.length (Q.map Ln.dv)
  own : ∀ x ∈ Q, Own w B x.dv (x.r.data ++ marks 8)
  ap : ∀ (i j : Nat) x y, Q[i]? = some x → Q[j]? = some y → i ≠ j → x.g ≠ y.g
section
variable {w w' : World} {B ob : Nat} {av dv : Value} {Q : List Ln}
theorem LnAt.later (h : LnAt w B ob av dv Q) (hl : Below w.heap.size w w') : LnAt w' B ob av dv Q :=
  ⟨(hl.block _ (Array.getElem?_eq_some_iff.1 h.box).1).trans h.box, h.lo, row_keptR (P := fun _ => False) h.ra (Kept.ofBelow hl) (fun _ _ h => h), row_keptR (P := fun _ => False) h.rd (Kept.ofBelow hl) (fun _ _ h => h), fun x hx => (h.own x hx).below hl, h.ap⟩
theorem LnAt.cells (h : LnAt w B ob av dv Q) : w.cell? ⟨ob, 0, none⟩ = some av ∧ w.cell? ⟨ob, 1, none⟩ = some dv ∧ ∀ i, w.frozen? ⟨ob, i, none⟩ = false := by simp [World.cell?, World.frozen?, h.box]
theorem LnAt.forms (h : LnAt w B ob av dv Q) : ∃ a c b d, av = .slice a Q.length c ∧ dv = .slice b Q.length d := by
  obtain ⟨a, c, e⟩ := row_formR h.ra
  obtain ⟨b, d, f⟩ := row_formR h.rd
  exact ⟨a, c, b, d, e, f⟩
/-- One file more: what both appends and both stores make. -/
theorem LnAt.push {w2 w4 : World} {av' dv' : Value} {x : Ln} {o1 o2 : Obj} (h : LnAt w B ob av dv Q) (hx : Own w B x.dv (x.r.data ++ marks 8)) (hn : ∀ y ∈ Q, y.g ≠ x.g)
    (ho1 : w2.ownsRow B 62 3 av' (Q.length + 1) (lflat Q ++ x.cells)) (hg1 : (w.alloc o1).grownBy w2 av.ownBlock)
    (ho2 : w4.ownsRow B 37 1 dv' (Q.length + 1) (Q.map Ln.dv ++ [x.dv])) (hg2 : ((w2.setCell ⟨ob, 0, none⟩ av').alloc o2).grownBy w4 dv.ownBlock) :
    LnAt (w4.setCell ⟨ob, 1, none⟩ dv') B ob av' dv' (Q ++ [x]) ∧ Kept (fun g => g = ob ∨ av.ownBlock = some g ∨ dv.ownBlock = some g) w (w4.setCell ⟨ob, 1, none⟩ dv') ∧
      (w2.cell? ⟨ob, 0, none⟩ = some av ∧ w2.frozen? ⟨ob, 0, none⟩ = false) ∧ (w4.cell? ⟨ob, 1, none⟩ = some dv ∧ w4.frozen? ⟨ob, 1, none⟩ = false) := by
  have k1 : Kept (fun g => av.ownBlock = some g) w w2 := (Kept.ofBelow ((Below.refl _ w).alloc (Nat.le_refl _) o1)).trans (Kept.ofGrown hg1 (fun g e => e))
  have hlt := (Array.getElem?_eq_some_iff.1 h.box).1
  have b2 : w2.heap[ob]? = some (.cells #[av, dv] 79 (0, 0)) := (k1.block ob hlt (fun e => by
    obtain ⟨c, hc⟩ := row_typeR h.ra e
    exact clashF hc h.box (by decide))).trans h.box
  have k2 : Kept (fun g => g = ob) w2 (w2.setCell ⟨ob, 0, none⟩ av') := Kept.setCell _ _ _ _ _ rfl
  have b3 := (set_cells b2 0 av').1
  have d2 : w2.ownsRow B 37 1 dv Q.length (Q.map Ln.dv) := row_keptR h.rd k1 (fun g e e2 => by
    obtain ⟨c, hc⟩ := row_typeR h.rd e
    obtain ⟨c2, hc2⟩ := row_typeR h.ra e2
    exact clashF hc hc2 (by decide))
  have d3 := row_keptR d2 k2 (fun g e e2 => by
    obtain ⟨c, hc⟩ := row_typeR d2 e
    rw [e2] at hc
    exact clashF hc b2 (by decide))
  have k3 : Kept (fun g => dv.ownBlock = some g) (w2.setCell ⟨ob, 0, none⟩ av') w4 := (Kept.ofBelow ((Below.refl _ _).alloc (Nat.le_refl _) o2)).trans (Kept.ofGrown hg2 (fun g e => e))
  have b4 : w4.heap[ob]? = some (.cells #[av', dv] 79 (0, 0)) := (k3.block ob (Array.getElem?_eq_some_iff.1 b3).1 (fun e => by
    obtain ⟨c, hc⟩ := row_typeR d3 e
    exact clashF hc b3 (by decide))).trans b3
  have k4 : Kept (fun g => g = ob) w4 (w4.setCell ⟨ob, 1, none⟩ dv') := Kept.setCell _ _ _ _ _ rfl
  have kk : Kept (fun g => g = ob ∨ av.ownBlock = some g ∨ dv.ownBlock = some g) w (w4.setCell ⟨ob, 1, none⟩ dv') := ((k1.mono (fun g _ e => .inr (.inl e))).trans ((k2.mono (fun g _ e => .inl e)).trans (k3.mono (fun g _ e => .inr (.inr e))))).trans (k4.mono (fun g _ e => .inl e))
  have a3 := row_keptR ho1 k2 (fun g e e2 => by
    obtain ⟨c, hc⟩ := row_typeR ho1 e
    rw [e2] at hc
    exact clashF hc b2 (by decide))
  have a4 := row_keptR a3 k3 (fun g e e2 => by
    obtain ⟨c, hc⟩ := row_typeR a3 e
    obtain ⟨c2, hc2⟩ := row_typeR d3 e2
    exact clashF hc hc2 (by decide))
  have n8 : ∀ {u : Value} {d : List UInt8}, Own w B u d → Own (w4.setCell ⟨ob, 1, none⟩ dv') B u d := fun {u d} hu => Kept.own kk hu (fun g e e2 => by
    obtain ⟨c, hc⟩ := row_typeR hu e
    rcases e2 with e2 | e2 | e2
    · rw [e2] at hc
      exact clashF hc h.box (by decide)
    · obtain ⟨c2, hc2⟩ := row_typeR h.ra e2
      exact clashF hc hc2 (by decide)
    · obtain ⟨c2, hc2⟩ := row_typeR h.rd e2
      exact clashF hc hc2 (by decide))
  refine ⟨⟨(set_cells b4 1 dv').1, h.lo, ?_, ?_, fun y hy => ?_, fun i j y z hy hz hij => ?_⟩, kk, ⟨by simp [World.cell?, b2], by simp [World.frozen?, b2]⟩, ⟨by simp [World.cell?, b4], by simp [World.frozen?, b4]⟩⟩
  · rw [List.length_append, lflat_append]
    have := row_keptR a4 k4 (fun g e e2 => by
      obtain ⟨c, hc⟩ := row_typeR a4 e
      rw [e2] at hc
      exact clashF hc b4 (by decide))
    simpa [lflat] using this
  · rw [List.length_append, List.map_append]
    exact row_keptR ho2 k4 (fun g e e2 => by
      obtain ⟨c, hc⟩ := row_typeR ho2 e
      rw [e2] at hc
      exact clashF hc b4 (by decide))
  · rcases List.mem_append.1 hy with hy | hy
    · exact n8 (h.own y hy)
    · have : y = x := by simpa using hy
      rw [this]
      exact n8 hx
  · rcases snoc_keyR hy with hy2 | ⟨e1, rfl⟩ <;> rcases snoc_keyR hz with hz2 | ⟨e3, rfl⟩
    · exact h.ap i j y z hy2 hz2 hij
    · exact hn y (List.mem_of_getElem? hy2)
    · exact fun e => hn z (List.mem_of_getElem? hz2) e.symm
    · omega
end
end Go.Proofs.Ytnpofjeiamjioaa
