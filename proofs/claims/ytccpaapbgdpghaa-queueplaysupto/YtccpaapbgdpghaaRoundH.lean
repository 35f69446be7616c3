/-
  A region inside a round of a range over a function, all its orders by hand, as outside of one.
-/
import Derived.Test.YtccpaapbgdpghaaRound
import Derived.Test.YtccpaapbgdpghaaHandS
namespace Go.Proofs.Ytccpaapbgdpghaa
open Go.RowKit

theorem upon_wide {n : Nat} {P : Program} {o : Oper} {a : Act} {K K' : Act → World → Prop} {Q : Exit → Act → World → Prop} (hK : ∀ a w, K a w → K' a w) {r : Result Next} (h : o.upon P a K Q r) : o.uponIn Fence.wide n P a K' Q r := by
  cases r with
  | ok x w' =>
    cases x <;> simp only [Oper.upon, Oper.uponIn] at h ⊢
    case value v => exact hK _ _ h
    case skip => exact hK _ _ h
    case defer d => exact hK _ _ h
    case enter f args =>
      refine ⟨fun h => (by cases h), callsIn_wide.2 (h.mono ?_)⟩
      intro e w'' he
      cases e with
      | returned v => exact hK _ _ he
      | panicked c => exact he
      | outgrown => exact he
    case row row args =>
      refine ⟨fun h => (by cases h), fun c cs _ => ?_⟩
      obtain ⟨v, w'', r, s⟩ := h c cs
      exact ⟨v, w'', hK _ _ r, stepsIn_wide.2 s⟩
  | halt x w' => cases x <;> simp only [Oper.upon, Oper.uponIn] at h ⊢ <;> exact h

theorem op_wide {n : Nat} {P : Program} {ops : Array Oper} {Q : Exit → Act → World → Prop} (hL : ¬ LetsOut Q) {i : Nat} {K K' : Act → World → Prop} (hK : ∀ a w, K a w → K' a w) {a : Act} {w : World} (h : wpOp P ops Q i K a w) : wpOpIn Fence.wide n P ops Q i K' a w := by
  unfold wpOp at h
  unfold wpOpIn
  split
  · rename_i ho
    simp only [ho] at h
    exact hK _ _ h
  · rename_i o ho
    simp only [ho] at h
    split
    · rename_i hw
      simp only [hw, if_true] at h
      rcases h with h | h
      · refine ⟨fun _ _ => trivial, ?_⟩
        rw [show Oper.semAt Fence.wide.round a.eval o = execOp a.eval o from rfl]
        exact upon_wide hK h
      · exact absurd h.2 hL
    · rename_i hw
      simp only [hw] at h
      exact ⟨fun _ _ => trivial, hK _ _ h⟩

theorem any_wide {n : Nat} {P : Program} {md : Region.Mode} {ops : Array Oper} {Q : Exit → Act → World → Prop} (hL : ¬ LetsOut Q) : ∀ (fuel : Nat) (listed : Array Bool) (a : Act) (w : World), wpAny P md ops Q fuel listed a w → wpAnyIn Fence.wide n P md ops Q fuel listed a w
  | 0, _, _, _, h => h
  | fuel + 1, _, _, _, h => ⟨h.1, fun i hi => op_wide hL (fun a w => any_wide hL fuel _ a w) (h.2 i hi)⟩

/-- All orders, inside a round. -/
theorem round_held {n id l0 : Nat} {P : Program} {Q : Exit → Act → World → Prop} {a : Act} {w : World} {l : List Oper} (S : World → Prop) (hm : P.follows .mixedOrders = true) (hnd : noDefer l = true)
    (h : wpAnyH P .any l.toArray (fun e a w => e = .normal ∧ Q .normal a w) S l.toArray.size (Array.replicate l.toArray.size false) a w.drew) : (Code.region id l.toArray true).wpIn (Fence.wide.inRound l0) n P Q a w := by
  refine wpIn_mono (Q := fun e a w => e = .normal ∧ Q .normal a w) (wpIn_region_any hm ?_) (fun e a w h => by rw [h.1]; exact h.2)
  have hL : ¬ LetsOut (fun (e : Exit) (a : Act) (w : World) => e = .normal ∧ Q .normal a w) := fun ⟨_, _, h, _⟩ => by cases h
  exact any_round (F := Fence.wide) (fun i o ho => noDefer_spec hnd (by simpa using Array.mem_of_getElem? ho)) _ _ _ _ (any_wide hL _ _ _ _ (wpAny_of_held _ _ _ _ h))
end Go.Proofs.Ytccpaapbgdpghaa
