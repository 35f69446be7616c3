/-
  The document's list of frames in memory.
-/
import Derived.Test.YtibcfbajjnpbfaaWhole
import Derived.Test.YtibcfbajjnpbfaaRefTake
import Derived.Test.YtibcfbajjnpbfaaKeepsG
namespace Go.Proofs.Ytibcfbajjnpbfaa
open Go.RowKit

theorem hide {p : Prop} (h : p) : Hid p := h
def onesC (ys : List Given) : List Value := ys.flatMap fun y => [.int .i64 (y.1 : Int), y.2.1]
theorem onesC_len : ∀ ys : List Given, (onesC ys).length = ys.length * 2
  | [] => rfl
  | p :: r => by
    have := onesC_len r
    simp only [onesC, List.flatMap_cons, List.length_append, List.length_cons, List.length_nil] at this ⊢
    omega
theorem onesC_snoc (ys : List Given) (y : Given) : onesC (ys ++ [y]) = onesC ys ++ [.int .i64 (y.1 : Int), y.2.1] := by simp [onesC]
theorem onesC_at : ∀ (ys : List Given) (j : Nat) (y : Given), ys[j]? = some y → (onesC ys)[j * 2]? = some (.int .i64 (y.1 : Int)) ∧ (onesC ys)[j * 2 + 1]? = some y.2.1
  | q :: r, 0, p, h => by
    simp only [List.getElem?_cons_zero, Option.some.injEq] at h
    subst h
    exact ⟨rfl, rfl⟩
  | q :: r, j + 1, p, h => by
    have := onesC_at r j p (by simpa using h)
    rw [show (j + 1) * 2 = j * 2 + 2 by omega]
    exact this
theorem info_one : (Try.prog.info? 57).map (fun i => (i.zero, i.size, i.bytes)) = some (some (.agg #[.int .i64 0, .slice none 0 0]), 2, 32) := by kernel_rfl
/-- The list v: each frame's place, and its payload in memory of the call's own. -/
def OnesAt (W : World) (B : Nat) (v : Value) (ys : List Given) : Prop := W.ownsRow B 57 2 v ys.length (onesC ys) ∧ ∀ y ∈ ys, Own W B y.2.1 y.2.2
theorem rowG_below {w w' : World} {B : Nat} {e : TypeId} {s n : Nat} {v : Value} {xs : List Value} (h : w.ownsRow B e s v n xs) (hb : Below w.heap.size w w') : w'.ownsRow B e s v n xs := by
  refine ⟨h.1, ?_⟩
  rcases h.2 with h0 | ⟨g, cap, cur, hv, hB, hg, rest⟩
  · exact .inl h0
  · exact .inr ⟨g, cap, cur, hv, hB, (hb.block g (Array.getElem?_eq_some_iff.1 hg).1).trans hg, rest⟩
theorem rowG_shape {w : World} {B : Nat} {e : TypeId} {s n : Nat} {v : Value} {xs : List Value} (h : w.ownsRow B e s v n xs) : ∃ a c, v = .slice a n c ∧ n ≤ c ∧ c ≤ maxLen := by
  rcases h.2 with ⟨rfl, rfl⟩ | ⟨g, cap, cur, hv, hB, hg, hnc, hcm, _⟩
  · exact ⟨none, 0, rfl, Nat.le_refl _, by simp [maxLen]⟩
  · exact ⟨_, _, hv, hnc, hcm⟩
theorem OnesAt.below {W W' : World} {B : Nat} {v : Value} {ys : List Given} (h : OnesAt W B v ys) (hb : Below W.heap.size W W') : OnesAt W' B v ys :=
  ⟨rowG_below h.1 hb, fun y hy => (h.2 y hy).below hb⟩
theorem OnesAt.cells {W : World} {B : Nat} {v : Value} {ys : List Given} (h : OnesAt W B v ys) {j : Nat} {y : Given} (hj : ys[j]? = some y) : ∃ g c, v = .slice (some ⟨g, 0, none⟩) ys.length c ∧ g < W.heap.size ∧ ys.length ≤ c ∧ c ≤ maxLen ∧ W.cell? ⟨g, j * 2, none⟩ = some (.int .i64 (y.1 : Int)) ∧ W.cell? ⟨g, j * 2 + 1, none⟩ = some y.2.1 := by
  have hjl := (List.getElem?_eq_some_iff.1 hj).1
  rcases h.1.2 with ⟨_, h0⟩ | ⟨g, cap, cur, hv, hb, hg, hnc, hcm, hcs, htake⟩
  · omega
  · subst hv
    have hc := h.1.cells (g := g) rfl
    obtain ⟨c0, c1⟩ := onesC_at ys j y hj
    have e0 := hc _ _ c0
    have e1 := hc _ _ c1
    rw [Go.WideShapes.add_plain, Nat.zero_add] at e0 e1
    exact ⟨g, cap, rfl, (Array.getElem?_eq_some_iff.1 hg).1, hnc, hcm, e0, e1⟩
theorem ones_apart {w : World} {B B' : Nat} {v p : Value} {n : Nat} {xs : List Value} {l : List UInt8} (h : w.ownsRow B 57 2 v n xs) (ho : Own w B' p l) : p.ownBlock = none ∨ p.ownBlock ≠ v.ownBlock := by
  rcases ho.2 with ⟨rfl, _⟩ | ⟨g, cap, cur, rfl, _, hg, _⟩
  · exact .inl rfl
  · right
    intro e
    rcases h.2 with ⟨rfl, _⟩ | ⟨g', cap', cur', rfl, _, hg', _⟩
    · cases e
    · cases e
      rw [hg] at hg'
      simp at hg'
theorem wpList_one {ops : Array Oper} {rest : List Oper} {o : Oper} {a : Act} {Q : Exit → Act → World → Prop} (hgd : o.guard = none) (s x : Operand)
    (ho : o.op = .call { callee := .builtin .append, args := #[s, x], argTypes := #[37, 37] })
    (w : World) (B : Nat) (hB : B ≤ w.heap.size) (v : Value) (ys : List Given) (y : Given) (hown : OnesAt w B v ys) (hy : Own w B y.2.1 y.2.2) (hl : ys.length ≤ 1048576) (hs : a.eval s = v) (hx : a.eval x = .slice (some ⟨w.heap.size, 0, none⟩) 1 1)
    (h : ∀ v' w', OnesAt w' B v' (ys ++ [y]) → Below B w w' → wpList Try.prog ops Q rest (a.put o.dst v') w') :
    wpList Try.prog ops Q (o :: rest) a (w.alloc (.cells #[.int .i64 (y.1 : Int), y.2.1] 57)) := by
  obtain ⟨i0, hi, hz0, hz1, hz2⟩ := info_parts info_one
  have b1 : Below w.heap.size w (w.alloc (.cells #[.int .i64 (y.1 : Int), y.2.1] 57)) := (Below.refl _ w).alloc (Nat.le_refl _) _
  have hown1 := hown.below b1
  have hyo : y.2.1.oneCell' = true := by
    obtain ⟨a', c', e, _⟩ := hy.shape
    rw [e]
    rfl
  refine wpList_plain hgd fun K hK => ?_
  obtain ⟨v', w', hr, h2, h3, _, h5, _⟩ := run_append_keepsG (P := Try.prog) (w.alloc (.cells #[.int .i64 (y.1 : Int), y.2.1] 57)) 2 B 37 o.type 57 i0 (.agg #[.int .i64 0, .slice none 0 0]) Try.underlying37 hi hz0 hz1 rfl v ys.length (onesC ys) hown1.1 (some ⟨w.heap.size, 0, none⟩) 1 1 [.int .i64 (y.1 : Int), y.2.1] rfl
    (.inr ⟨_, rfl, fun j u hj => by
      rw [Go.WideShapes.add_plain, Nat.zero_add, cell_of_row _ _ j _ _ (0, 0) (heap_alloc_last w _)]
      simpa using hj⟩) (by intro u hu; simp at hu; rcases hu with rfl | rfl; rfl; exact hyo) (by unfold maxLen; omega) (by rw [hz2]; omega) (by simp; omega)
  unfold Oper.wp execOp
  simp only [ho, resolve, invoke, builtin, Sem.run_bind, Sem.run_pure, Result.andThen_ok, List.map_toArray, List.map_cons, List.map_nil, hs, hx, hr]
  refine hK _ _ (h v' w' ⟨?_, fun z hz => ?_⟩ ?_)
  · rw [List.length_append, onesC_snoc]
    exact h2
  · have hz1 : Own (w.alloc (.cells #[.int .i64 (y.1 : Int), y.2.1] 57)) B z.2.1 z.2.2 := by
      rcases List.mem_append.1 hz with h | h
      · exact hown1.2 z h
      · have : z = y := by simpa using h
        rw [this]
        exact hy.below b1
    exact World.ownsRow.kept hz1 h3 (ones_apart hown1.1 hz1)
  · exact (b1.mono hB).grown h3 (by simp; omega) (fun g e => (World.ownsRow.lt hown.1 g e).1)
end Go.Proofs.Ytibcfbajjnpbfaa
