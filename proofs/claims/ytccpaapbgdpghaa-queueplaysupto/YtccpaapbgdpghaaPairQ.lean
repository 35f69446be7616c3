/-
  A pair: a queue of the program's and the document's, which are alike.
-/
import Derived.Test.YtccpaapbgdpghaaBoth
namespace Go.Proofs.Ytccpaapbgdpghaa
open Go.RowKit

structure Pq where
  qb : Nat
  mb : Nat
  rb : Nat
  g : Int
  R : List Stand
  vt : Value
  vh : Value
  T : List Int
  H : List Int
def Pq.mine (p : Pq) (k : Nat) : Prop := Mine p.qb p.mb p.R k ∨ RMine p.rb p.vt p.vh k
def Pq.val (p : Pq) : Value := .agg #[.pointer (some ⟨p.qb, 0, none⟩), .pointer (some ⟨p.rb, 0, none⟩)]
structure PqAt (B : Nat) (W : World) (p : Pq) : Prop where
  q : QueueAtI W p.qb p.mb p.g p.R
  r : RefAt B W p.rb p.g p.vt p.vh p.T p.H
  al : Alike p.R p.T p.H
theorem PqAt.kept {B : Nat} {W W' : World} {p : Pq} (h : PqAt B W p) {P : Nat → Prop} (hk : Kept P W W') (hP : ∀ k, p.mine k → ¬ P k) : PqAt B W' p :=
  ⟨h.q.keptQ hk (fun k e => hP k (.inl e)), h.r.kept hk (fun k e => hP k (.inr e)), h.al⟩
theorem PqAt.below {B : Nat} {W W' : World} {p : Pq} (h : PqAt B W p) (hb : Below W.heap.size W W') : PqAt B W' p := h.kept (P := fun _ => False) (Kept.ofBelow hb) (fun _ _ h => h)
theorem PqAt.lt {B : Nat} {W : World} {p : Pq} (h : PqAt B W p) {k : Nat} (hk : p.mine k) : k < W.heap.size := by
  rcases hk with hk | hk
  · exact h.q.part.lt hk
  · exact h.r.lt hk
/-- What is none of a pair's: a row of another type. -/
theorem PqAt.not {B : Nat} {W : World} {p : Pq} (h : PqAt B W p) {k : Nat} {c : Array Value} {t : TypeId} (hc : W.heap[k]? = some (.cells c t (0, 0))) (h1 : t ≠ 59) (h2 : t ≠ 73) (h3 : t ≠ 3) (h4 : t ≠ 34) : ¬ p.mine k := by
  rintro (e | e)
  · exact h.q.part.notCells hc h1 h2 e
  · exact h.r.not hc (fun c e => by simp at e; exact h3 e.2) (fun c e => by simp at e; exact h4 e.2) e
/-- What becomes of a pair. -/
structure Turned (B : Nat) (w : World) (p p' : Pq) (w' : World) : Prop where
  at' : PqAt B w' p'
  qb : p'.qb = p.qb
  rb : p'.rb = p.rb
  kp : Kept p.mine w w'
  fr : ∀ k, p'.mine k → p.mine k ∨ w.heap.size ≤ k
  sz : p'.R.length ≤ p.R.length + 1 ∧ p'.g ≤ p.g + 1
theorem PqAt.same {B : Nat} {w w' : World} {p : Pq} (h : PqAt B w p) (hb : Below w.heap.size w w') : Turned B w p p w' :=
  ⟨h.below hb, rfl, rfl, Kept.mono (P := fun _ => False) (Kept.ofBelow hb) (fun _ _ h => False.elim h), fun _ e => .inl e, by omega, by omega⟩
/-- .. behind what was made ahead. -/
theorem Turned.behind {B : Nat} {w w1 w' : World} {p p' : Pq} (h : Turned B w1 p p' w') (hb : Below w.heap.size w w1) : Turned B w p p' w' :=
  ⟨h.at', h.qb, h.rb, (Kept.mono (P := fun _ => False) (Kept.ofBelow hb) (fun _ _ h => False.elim h)).trans h.kp, fun k e => (h.fr k e).imp id (Nat.le_trans hb.size), h.sz⟩
/-- .. and ahead of what was made behind it. -/
theorem Turned.ahead {B : Nat} {w w1 w' : World} {p p' : Pq} (h : Turned B w p p' w1) (hb : Below w1.heap.size w1 w') : Turned B w p p' w' :=
  ⟨h.at'.below hb, h.qb, h.rb, h.kp.trans (Kept.mono (P := fun _ => False) (Kept.ofBelow hb) (fun _ _ h => False.elim h)), h.fr, h.sz⟩
end Go.Proofs.Ytccpaapbgdpghaa
