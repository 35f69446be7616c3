/-
  A disk, of the program and of the document, in memory.
-/
import Derived.Test.YtnpofjeiamjioaaRDc
import Derived.Test.YtnpofjeiamjioaaRLoad
import Derived.Test.YtnpofjeiamjioaaAct
import Derived.Test.YtnpofjeiamjioaaCrashW
import Derived.Test.YtnpofjeiamjioaaFilesW
import Derived.Test.YtnpofjeiamjioaaLoadW
import Derived.Test.YtnpofjeiamjioaaLSm
namespace Go.Proofs.Ytnpofjeiamjioaa
open Go.RowKit Go.Maps

/-- Blocks of the document's disk. -/
def RM (rb : Nat) (fv : Value) (F : List (Fl × Value)) (g : Nat) : Prop := g = rb ∨ fv.ownBlock = some g ∨ ∃ p ∈ F, p.2.ownBlock = some g
/-- A disk of both. -/
structure Pr (w : World) (B db mb : Nat) (q : Int) (L : List Fl) (vs : Int → Value) (rb : Nat) (fv : Value) (F : List (Fl × Value)) : Prop where
  dk : DiskAt w db mb q L vs
  rf : RfAt w B rb q fv F
  eq : F.map (·.1) = L
  ap : ∀ g, Mine db mb L vs g → ¬ RM rb fv F g
  ge : ∀ g, Mine db mb L vs g ∨ RM rb fv F g → B ≤ g
/-- Blocks of both. -/
def PM (db mb : Nat) (L : List Fl) (vs : Int → Value) (rb : Nat) (fv : Value) (F : List (Fl × Value)) (g : Nat) : Prop := Mine db mb L vs g ∨ RM rb fv F g
section
variable {w w' : World} {B db mb rb : Nat} {q : Int} {L : List Fl} {vs : Int → Value} {fv : Value} {F : List (Fl × Value)} {K : Nat → Prop}
theorem RfAt.keptP (h : RfAt w B rb q fv F) (hk : Kept K w w') (hK : ∀ g, RM rb fv F g → ¬ K g) : RfAt w' B rb q fv F :=
  ⟨(hk.block rb (Array.getElem?_eq_some_iff.1 h.box).1 (hK _ (.inl rfl))).trans h.box, row_keptR h.row hk (fun g e => hK g (.inr (.inl e))), fun p hp => Kept.own hk (h.own p hp) (fun g e => hK g (.inr (.inr ⟨p, hp, e⟩)))⟩
theorem RfAt.blt (h : RfAt w B rb q fv F) {g : Nat} (hg : RM rb fv F g) : g < w.heap.size := by
  rcases hg with rfl | e | ⟨p, hp, e⟩
  · exact (Array.getElem?_eq_some_iff.1 h.box).1
  · exact (h.row.lt g e).2
  · exact ((h.own p hp).lt g e).2
theorem Pr.blt (h : Pr w B db mb q L vs rb fv F) {g : Nat} (hg : PM db mb L vs rb fv F g) : g < w.heap.size := by
  rcases hg with e | e
  · exact h.dk.lt e
  · exact h.rf.blt e
theorem Pr.kept (h : Pr w B db mb q L vs rb fv F) (hk : Kept K w w') (hK : ∀ g, PM db mb L vs rb fv F g → ¬ K g) : Pr w' B db mb q L vs rb fv F :=
  ⟨h.dk.kept hk (fun g e => hK g (.inl e)), h.rf.keptP hk (fun g e => hK g (.inr e)), h.eq, h.ap, h.ge⟩
theorem Pr.later (h : Pr w B db mb q L vs rb fv F) (hl : Below w.heap.size w w') : Pr w' B db mb q L vs rb fv F := h.kept (K := fun _ => False) (Kept.ofBelow hl) (fun _ _ h => h)
theorem Pr.len (h : Pr w B db mb q L vs rb fv F) : F.length = L.length := by have := congrArg List.length h.eq; simpa using this
/-- The program's has turned. -/
theorem Pr.turnD {L' : List Fl} {vs' : Int → Value} (h : Pr w B db mb q L vs rb fv F) (hB : B ≤ w.heap.size) (ht : Turned w w' db mb L vs L' vs') :
    RfAt w' B rb q fv F ∧ (∀ g, Mine db mb L' vs' g → ¬ RM rb fv F g) ∧ ∀ g, Mine db mb L' vs' g → B ≤ g :=
  ⟨h.rf.keptP ht.kept (fun g e e2 => h.ap g e2 e), fun g e e2 => by
    rcases ht.mine g e with e3 | e3
    · exact h.ap g e3 e2
    · have := h.rf.blt e2; omega, fun g e => by
    rcases ht.mine g e with e3 | e3
    · exact h.ge g (.inl e3)
    · omega⟩
end
theorem act_len {q : Int} {L : List Fl} (h : Right q L) (k n : Int) (d : List UInt8) (z : Int) : (act q L k n d z).2.length ≤ L.length + 1 := by
  have li : ∀ f : Fl, (ins L f).length ≤ L.length + 1 := fun f => by
    rw [length_ins h.rise]
    split <;> omega
  unfold act
  split
  · unfold actCreate
    split
    · split
      · simp
      · exact li _
    · simp
  · split
    · unfold actAppend
      split
      · simp
      · split
        · simp
        · exact li _
    · split
      · unfold actSync
        split
        · simp
        · exact li _
      · split
        · unfold actCut
          split
          · simp
          · split
            · exact li _
            · simp
        · split
          · unfold actRemove
            split
            · simp
            · show (del L n).length ≤ _
              rw [length_del h.rise]
              split <;> omega
          · simp
theorem IsBytes.cut {w : World} {a : Option Addr} {c : Nat} {l m : List UInt8} (h : IsBytes w a c (l ++ m)) : IsBytes w a c l := by
  obtain ⟨h1, h2, h3⟩ := h
  refine ⟨by simp at h1; omega, h2, ?_⟩
  rcases h3 with h | ⟨b, o, ha, hb, hc⟩
  · left; simp at h; exact h.1
  · refine .inr ⟨b, o, ha, hb, fun j x hj => hc j x ?_⟩
    rw [List.getElem?_append_left (List.getElem?_eq_some_iff.1 hj).1]
    exact hj
end Go.Proofs.Ytnpofjeiamjioaa
