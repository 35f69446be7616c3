/-
  'append' of a text onto bytes of the call's own.
-/
import Derived.Test.YtjnjaojafimfeaaKit
import Derived.Lib.AppendStr
namespace Go.Proofs.Ytjnjaojafimfeaa
open Go.RowKit

/-- 'append' of a text onto bytes of the call's own. -/
theorem wpList_append_text {w : World} {ops : Array Oper} {rest : List Oper} {o : Oper} {a : Act} {Q : Exit → Act → World → Prop} (hgd : o.guard = none) (s x : Operand)
    (ho : o.op = .call { callee := .builtin .append, args := #[s, x], argTypes := #[30, 9] })
    (B : Nat) (v : Value) (l : List UInt8) (hs : a.eval s = v) (hown : Own w B v l) (t : ByteArray) (hx : a.eval x = .string t)
    (hb : l.length + t.size ≤ 140737488355328) (hbase : B ≤ w.heap.size)
    (h : ∀ v' w', Own w' B v' (l ++ t.data.toList) → w.grownBy w' v.ownBlock → wpList Try.prog ops Q rest (a.put o.dst v') w') : wpList Try.prog ops Q (o :: rest) a w := by
  obtain ⟨i, hi, hz0, hz1, hz2⟩ := info_parts info_u8
  refine Lib.wpList_append_own_string w hgd s x 30 9 ho B 5 i Try.underlying30 Try.underlying9 hi hz0 hz1 hz2 v l.length (u8s l) hs hown t hx (by unfold maxLen; omega) hb hbase ?_
  intro v' w' h1 h2 _
  refine h v' w' ?_ h2
  unfold Own
  have e : t.data.toList.length = t.size := by simp
  rw [List.length_append, e, show u8s (l ++ t.data.toList) = u8s l ++ Lib.strCells t by simp [u8s, Lib.strCells]]
  exact h1

end Go.Proofs.Ytjnjaojafimfeaa
