/-
  Steps in memory; one more is appended.
-/
import Derived.Test.YteecmbpabkndlaaDoorHeadW
import Derived.Test.YteecmbpabkndlaaDoorKeepsG
import Derived.Deep.RegionLaw
namespace Go.Proofs.YteecmbpabkndlaaDoor
open Go.RowKit

/-- A step, and where its bytes and its numbers lie. -/
structure Sq where
  p : StepP
  dv : Value
  kv : Value
def sqCells (q : Sq) : List Value := [.int .i64 q.p.kind, .int .i64 q.p.conn, q.dv, .int .i64 q.p.brk, q.kv]
def flatS (l : List Sq) : List Value := l.flatMap sqCells
theorem flatS_length (l : List Sq) : (flatS l).length = l.length * 5 := by
  induction l with
  | nil => rfl
  | cons a l ih =>
    show (sqCells a ++ flatS l).length = _
    rw [List.length_append, ih]
    simp [sqCells]
    omega
theorem flatS_append (a b : List Sq) : flatS (a ++ b) = flatS a ++ flatS b := by simp [flatS]
def StepsAt (w : World) (B : Nat) (sv : Value) (l : List Sq) : Prop := w.ownsRow B 44 5 sv l.length (flatS l) ∧ ∀ q ∈ l, Own w B q.dv q.p.data ∧ OwnI w B q.kv q.p.keep
theorem info_step : (Tryd.prog.info? 44).map (fun i => (i.zero, i.size, i.bytes)) = some (some (.agg #[.int .i64 0, .int .i64 0, .slice none 0 0, .int .i64 0, .slice none 0 0]), 5, 72) := by kernel_rfl
theorem step_steps {ops : Array Oper} {o : Oper} {a : Act} {K : Act → World → Prop} {Q : Exit → Act → World → Prop} {F : Prop} (hgd : o.guard = none) (s x : Operand)
    (ho : o.op = .call { callee := .builtin .append, args := #[s, x], argTypes := #[29, 29] })
    (w : World) (B : Nat) (v : Value) (X : List Sq) (hs : a.eval s = v) (hown : w.ownsRow B 44 5 v X.length (flatS X)) (ad : Option Addr) (c : Nat) (Y : Sq) (hx : a.eval x = .slice ad 1 c)
    (hsrc : ∃ p, ad = some p ∧ ∀ j u, (flatS [Y])[j]? = some u → w.cell? (p.add j) = some u) (hone : ∀ u ∈ flatS [Y], u.oneCell' = true)
    (hb : X.length ≤ 1073741823) (hbase : B ≤ w.heap.size)
    (h : ∀ v' w', w'.ownsRow B 44 5 v' (X ++ [Y]).length (flatS (X ++ [Y])) → w.grownBy w' v.ownBlock → (v'.ownBlock = v.ownBlock ∨ v'.ownBlock = some w.heap.size) → K (a.put o.dst v') w') :
    if Region.wanted o (yielded ops a.tmps) = true then Oper.wp Tryd.prog o a w K Q else F := by
  have hw : Region.wanted o (yielded ops a.tmps) = true := by simp [Region.wanted, hgd]
  rw [if_pos hw]
  obtain ⟨i, hi, hz0, hz1, hz2⟩ := info_parts info_step
  obtain ⟨v', w', hr, h2, h3, h4, h5, h6⟩ := run_append_keepsG (P := Tryd.prog) w 5 B 29 o.type 44 i _ Tryd.underlying29 hi hz0 hz1 rfl v X.length (flatS X) hown ad 1 c (flatS [Y]) (by rw [flatS_length]; rfl) (.inr hsrc) hone (by unfold maxLen; omega) (by rw [hz2]; omega) hbase
  unfold Oper.wp execOp
  simp only [ho, resolve, invoke, builtin, Sem.run_bind, Sem.run_pure, Result.andThen_ok, List.map_toArray, List.map_cons, List.map_nil, hs, hx, hr]
  refine h v' w' ?_ h3 h5
  rw [List.length_append, flatS_append]
  exact h2
theorem StepsAt.kept {P : Nat → Prop} {w w' : World} {B : Nat} {sv : Value} {l : List Sq} (h : StepsAt w B sv l) (hk : Kept P w w') (h1 : ∀ g, sv.ownBlock = some g → ¬ P g) (h2 : ∀ q ∈ l, (∀ g, q.dv.ownBlock = some g → ¬ P g) ∧ ∀ g, q.kv.ownBlock = some g → ¬ P g) : StepsAt w' B sv l := by
  refine ⟨⟨h.1.1, ?_⟩, fun q hq => ⟨Kept.own hk (h.2 q hq).1 (h2 q hq).1, Kept.own hk (h.2 q hq).2 (h2 q hq).2⟩⟩
  rcases h.1.2 with h0 | ⟨g, cap, cur, rfl, hB, hg, rest⟩
  · exact .inl h0
  · exact .inr ⟨g, cap, cur, rfl, hB, (hk.block g (Array.getElem?_eq_some_iff.1 hg).1 (h1 g rfl)).trans hg, rest⟩
theorem StepsAt.form {w : World} {B : Nat} {sv : Value} {l : List Sq} (h : StepsAt w B sv l) : ∃ a c, sv = .slice a l.length c := by
  rcases h.1.2 with ⟨rfl, h0⟩ | ⟨g, cap, cur, rfl, _⟩
  · exact ⟨none, 0, by rw [h0]⟩
  · exact ⟨_, _, rfl⟩
end Go.Proofs.YteecmbpabkndlaaDoor
