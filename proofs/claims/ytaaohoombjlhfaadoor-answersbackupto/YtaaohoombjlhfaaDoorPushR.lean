/-
  A reply more in the list.
-/
import Derived.Test.YtaaohoombjlhfaaDoorCutKit
namespace Go.Proofs.YtaaohoombjlhfaaDoor
open Go.RowKit

theorem flatR_snoc (P : List (Rp × Value)) (p : Rp × Value) : flatR (P ++ [p]) = flatR P ++ cellR p := by simp [flatR]
theorem Own.notRow {w : World} {B : Nat} {v : Value} {l : List UInt8} (h : Own w B v l) {k : Nat} {cur : Array Value} (hc : w.heap[k]? = some (.cells cur 24 (0, 0))) : ¬ v.ownBlock = some k := by
  intro hk
  rcases h.2 with ⟨rfl, _⟩ | ⟨g', cap, cu, rfl, _, hg, _⟩
  · cases hk
  · simp only [Value.ownBlock, Option.some.injEq] at hk
    subst hk
    rw [hg] at hc
    simp at hc
theorem Desk.push {w0 w w' : World} {wb : Nat} {wv : Value} {b : List UInt8} {gw pb : Nat} {pv : Value} {A : List UInt8} {gp : Nat} {v v' : Value} {P : List (Rp × Value)} (h : Desk w0 w wb wv b gw pb pv A gp v P) (p : Rp × Value) (ho : Own w w0.heap.size p.2 p.1.body) (hap : ∀ k, p.2.ownBlock = some k → ¬ Mine wb wv k ∧ ¬ Mine pb pv k)
    (hr : w'.ownsRow w0.heap.size 24 5 v' (P.length + 1) (flatR P ++ cellR p)) (hg : w.grownBy w' v.ownBlock) : Desk w0 w' wb wv b gw pb pv A gp v' (P ++ [p]) := by
  have K1 : Kept (fun k => v.ownBlock = some k) w w' := Kept.ofGrown hg (fun _ e => e)
  have hs := h.below.size
  refine ⟨h.below.trans (K1.below hs (fun k hk e => ?_)), h.whole.kept K1 (fun k hk e => ?_), h.parts.kept K1 (fun k hk e => ?_), ⟨?_, fun q hq => ?_⟩, h.ap1, fun q hq k e => ?_, h.low⟩
  · obtain ⟨cur, hc, h1⟩ := h.reps.block e
    omega
  · obtain ⟨cur, hc, h1⟩ := h.reps.block e
    exact h.whole.notRow hc hk
  · obtain ⟨cur, hc, h1⟩ := h.reps.block e
    exact h.parts.notRow hc hk
  · rw [flatR_snoc, List.length_append]
    exact hr
  · have hq' : Own w w0.heap.size q.2 q.1.body := by
      rcases List.mem_append.1 hq with e | e
      · exact h.reps.body q e
      · rw [List.mem_singleton.1 e]
        exact ho
    refine hq'.kept K1 (fun k hk e => ?_)
    obtain ⟨cur, hc, h1⟩ := h.reps.block e
    exact hq'.notRow hc hk
  · rcases List.mem_append.1 hq with e1 | e1
    · exact h.ap2 q e1 k e
    · rw [List.mem_singleton.1 e1] at e
      exact hap k e
theorem wpList_reps {ops : Array Oper} {rest : List Oper} {o : Oper} {a : Act} {Q : Exit → Act → World → Prop} (hgd : o.guard = none) (s x : Operand)
    (ho : o.op = .call { callee := .builtin .append, args := #[s, x], argTypes := #[52, 52] })
    (w : World) (lo : Nat) (hlo : lo ≤ w.heap.size) (v : Value) (P : List (Rp × Value)) (p : Rp × Value) (C : List Value) (hC : cellR p = C) (hown : w.ownsRow lo 24 5 v P.length (flatR P)) (hR : P.length ≤ 1073741823) (h1c : p.2.oneCell' = true) (hs : a.eval s = v) (hx : a.eval x = .slice (some ⟨w.heap.size, 0, none⟩) 1 1)
    (h : ∀ v' w', w'.ownsRow lo 24 5 v' (P.length + 1) (flatR P ++ cellR p) → w.grownBy w' v.ownBlock → wpList Tryd.prog ops Q rest (a.put o.dst v') w') :
    wpList Tryd.prog ops Q (o :: rest) a (w.alloc (.cells C.toArray 24)) := by
  subst hC
  obtain ⟨i0, hi, hz0, hz1, hz2⟩ := info_parts info_reply
  refine wpList_append_lies (w.alloc (.cells (cellR p).toArray 24)) hgd s x 52 ho lo 24 i0 (.agg #[.int .i64 0, .int .i64 0, .int .i64 0, .string ⟨#[]⟩, .slice none 0 0]) 5 64 Tryd.underlying52 hi hz0 hz1 hz2 rfl (by decide) v P.length (flatR P) hs (hown.alloc _) ⟨w.heap.size, 0, none⟩ 1 1 (cellR p) hx rfl ?_ ?_ (by decide) (by unfold maxLen; omega) (by omega) (Nat.le_trans hlo (by simp [World.size_alloc])) _ rfl ?_
  · exact World.news_of_block (w := w.alloc (.cells (cellR p).toArray 24)) (cs := (cellR p).toArray) (heap_alloc_new w _)
  · intro u hu
    simp [cellR] at hu
    rcases hu with rfl | rfl | rfl | rfl | rfl
    · rfl
    · rfl
    · rfl
    · rfl
    · exact h1c
  · intro g cap w' h1 h2 h3 _
    exact h _ w' h1 ⟨h2.os, h2.tape, h2.output, Nat.le_trans (by simp [World.size_alloc]) h2.size, fun k hk hne => (h2.block k (Nat.lt_of_lt_of_le hk (by simp [World.size_alloc])) hne).trans (heap_alloc_old w _ hk)⟩
end Go.Proofs.YtaaohoombjlhfaaDoor
