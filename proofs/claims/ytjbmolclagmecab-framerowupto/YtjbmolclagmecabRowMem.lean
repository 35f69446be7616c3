/-
  The numbers and the bytes that FrameRow makes, in memory.
-/
import Derived.Test.YtjbmolclagmecabBRows
namespace Go.Proofs.Ytjbmolclagmecab
open Go.RowKit

theorem info_int : (Try.prog.info? 3).map (fun i => (i.zero, i.size, i.bytes)) = some (some (.int .i64 0), 1, 8) := by kernel_rfl
def i64s (l : List Nat) : List Value := l.map fun (n : Nat) => Value.int .i64 (n : Int)
theorem i64s_length (l : List Nat) : (i64s l).length = l.length := by simp [i64s]
/-- Numbers in a row of the call's own. -/
def Nums (w : World) (B : Nat) (v : Value) (l : List Nat) : Prop := w.ownsRow B 3 1 v l.length (i64s l)

theorem two_new (w : World) (u v : Value) (t : TypeId) : ∃ p, (some (⟨w.heap.size, 0, none⟩ : Addr)) = some p ∧ ∀ j x, [u, v][j]? = some x → (w.alloc (.cells #[u, v] t)).cell? (p.add j) = some x := by
  refine ⟨_, rfl, fun j x hj => ?_⟩
  match j, hj with
  | 0, hj => simpa [Addr.add] using hj
  | 1, hj =>
    have := World.alloc_heap_new w (.cells #[u, v] t)
    simp at hj
    subst hj
    show (match (w.alloc (.cells #[u, v] t)).heap[w.heap.size]? with | some (Obj.cells c _ _) => if (none : Option Nat).isSome = true then none else c[0 + 1]? | _ => none) = some v
    rw [show ((w.alloc (.cells #[u, v] t)).heap[w.heap.size]?) = _ from this]
    rfl
  | (j + 2), hj => simp at hj

/-- 'append' of two numbers onto numbers of the call's own. -/
theorem wpList_append2 {w : World} {ops : Array Oper} {rest : List Oper} {o : Oper} {a : Act} {Q : Exit → Act → World → Prop} (hgd : o.guard = none) (s x : Operand)
    (ho : o.op = .call { callee := .builtin .append, args := #[s, x], argTypes := #[33, 33] })
    (B : Nat) (v : Value) (l : List Nat) (hs : a.eval s = v) (hown : Nums w B v l) (p q : Nat) (k : Nat) (hk : k = w.heap.size) (hx : a.eval x = .slice (some ⟨k, 0, none⟩) 2 2)
    (hb : l.length ≤ 1073741824) (hbase : B ≤ w.heap.size)
    (h : ∀ v' w', Nums w' B v' (l ++ [p, q]) → (w.alloc (.cells #[.int .i64 p, .int .i64 q] 3)).grownBy w' v.ownBlock →
      wpList Try.prog ops Q rest (a.put o.dst v') w') : wpList Try.prog ops Q (o :: rest) a (w.alloc (.cells #[.int .i64 p, .int .i64 q] 3)) := by
  subst hk
  obtain ⟨i, hi, hz0, hz1, hz2⟩ := info_parts info_int
  refine wpList_append_keeps hgd s x 33 ho B 3 i (.int .i64 0) Try.underlying33 hi hz0 hz1 rfl v l.length (i64s l) hs (hown.alloc _) (some ⟨w.heap.size, 0, none⟩) 2 2 [.int .i64 p, .int .i64 q] hx rfl (.inr (two_new w _ _ _)) (by intro y hy; simp at hy; rcases hy with rfl | rfl <;> rfl) (by unfold maxLen; omega) (by rw [hz2]; omega) (by simp; omega) ?_
  intro v' w' h1 h2 _ h4 _
  refine h v' w' ?_ h2
  unfold Nums
  rw [List.length_append, show i64s (l ++ [p, q]) = i64s l ++ [.int .i64 p, .int .i64 q] by simp [i64s]]
  exact h1

/-- A row lies in a block of its own type. -/
theorem row_type {w : World} {B e : Nat} {v : Value} {n : Nat} {xs : List Value} (h : w.ownsRow B e 1 v n xs) {g : Nat} (hg : v.ownBlock = some g) : ∃ cur, w.heap[g]? = some (.cells cur e (0, 0)) := by
  rcases h.2 with ⟨rfl, _⟩ | ⟨g', cap, cur, rfl, _, hc, _⟩
  · simp [Value.ownBlock] at hg
  · simp [Value.ownBlock] at hg
    subst hg
    exact ⟨cur, hc⟩
theorem rows_apart {w : World} {B B' e e' : Nat} {v v' : Value} {n n' : Nat} {xs xs' : List Value} (h : w.ownsRow B e 1 v n xs) (h' : w.ownsRow B' e' 1 v' n' xs') (hne : e ≠ e') : v.ownBlock = none ∨ v.ownBlock ≠ v'.ownBlock := by
  cases hv : v.ownBlock with
  | none => exact .inl rfl
  | some g =>
    right
    intro he
    obtain ⟨cur, hc⟩ := row_type h hv
    obtain ⟨cur', hc'⟩ := row_type h' he.symm
    rw [hc] at hc'
    simp only [Option.some.injEq, Obj.cells.injEq] at hc'
    exact hne hc'.2.1
theorem row_box {w : World} {B e t b : Nat} {v u : Value} {n : Nat} {xs : List Value} (h : w.ownsRow B e 1 v n xs) (hb : Boxed w b t u) (hne : t ≠ e) : v.ownBlock = none ∨ v.ownBlock ≠ some b :=
  .inr fun he => (hb.not_row hne h) he.symm

theorem tot_len (ls : List (List UInt8)) : 9 * ls.length ≤ tot ls := by
  induction ls with
  | nil => simp [tot]
  | cons x l ih => simp only [tot, List.map_cons, List.sum_cons, List.length_cons] at ih ⊢; omega

theorem Own.shapeIs {w : World} {B : Nat} {a : Option Addr} {n c : Nat} {l : List UInt8} (h : Own w B (.slice a n c) l) : IsBytes w a c l := by
  obtain ⟨a1, c1, h1, h2⟩ := h.shape
  simp only [Value.slice.injEq] at h1
  obtain ⟨rfl, _, rfl⟩ := h1
  exact h2

theorem Nums.shape {w : World} {B : Nat} {v : Value} {l : List Nat} (h : Nums w B v l) : ∃ a c, v = .slice a l.length c := by
  rcases h.2 with ⟨rfl, h0⟩ | ⟨g, cap, cur, rfl, _⟩
  · exact ⟨none, 0, by rw [h0]⟩
  · exact ⟨_, _, rfl⟩
theorem Nums.form {w : World} {B : Nat} {v : Value} {l : List Nat} (h : Nums w B v l) : ∃ a m c, v = .slice a m c := by
  obtain ⟨a, c, h⟩ := h.shape
  exact ⟨a, _, c, h⟩

/-- What FrameRow has at hand in a round of its first loop. -/
structure RowInv (f : Int) (a : Option Addr) (c : Nat) (ls : List (List UInt8)) (w : World) (b8 k : Nat) (v7 v8 : Value) (W : World) : Prop where
  b4 : Boxed W w.heap.size 31 (.slice a ls.length c)
  b6 : Boxed W (w.heap.size + 1) 4 (.bool false)
  bx8 : Boxed W b8 33 v8
  le8 : w.heap.size + 2 ≤ b8
  own : Own W (w.heap.size + 2) v7 (rowAt f ls k).2
  nums : Nums W (w.heap.size + 2) v8 (flat (rowAt f ls k).1)
  bel : Below w.heap.size w W

/-- New blocks turn none of it. -/
theorem RowInv.below {f : Int} {a : Option Addr} {c : Nat} {ls : List (List UInt8)} {w : World} {b8 k : Nat} {v7 v8 : Value} {W W' : World} (h : RowInv f a c ls w b8 k v7 v8 W) (hb : Below W.heap.size W W') : RowInv f a c ls w b8 k v7 v8 W' := by
  have hg : W.grownBy W' none := grown_of_below hb
  exact ⟨h.b4.kept hg (by simp), h.b6.kept hg (by simp), h.bx8.kept hg (by simp), h.le8, h.own.below hb, World.ownsRow.kept h.nums hg (by cases v8.ownBlock <;> simp), h.bel.trans (hb.mono h.bel.size)⟩
/-- A payload was made: its number and its place are put down, and its bytes. -/
theorem RowInv.push {f : Int} {a : Option Addr} {c : Nat} {ls : List (List UInt8)} {w : World} {b8 k : Nat} {v7 v8 v8' : Value} {W W2 : World} (h : RowInv f a c ls w b8 k v7 v8 W) (p q : Nat) (hnum : Nums W2 (w.heap.size + 2) v8' (flat (rowAt f ls k).1 ++ [p, q])) (hg : W.grownBy W2 v8.ownBlock) :
    Boxed (W2.setCell ⟨b8, 0, none⟩ v8') w.heap.size 31 (.slice a ls.length c) ∧ Boxed (W2.setCell ⟨b8, 0, none⟩ v8') (w.heap.size + 1) 4 (.bool false) ∧ Boxed (W2.setCell ⟨b8, 0, none⟩ v8') b8 33 v8' ∧
    Own (W2.setCell ⟨b8, 0, none⟩ v8') (w.heap.size + 2) v7 (rowAt f ls k).2 ∧ Nums (W2.setCell ⟨b8, 0, none⟩ v8') (w.heap.size + 2) v8' (flat (rowAt f ls k).1 ++ [p, q]) ∧ Below w.heap.size w (W2.setCell ⟨b8, 0, none⟩ v8') ∧
    (∀ B v l, Own W B v l → Own (W2.setCell ⟨b8, 0, none⟩ v8') B v l) ∧ Boxed W2 b8 33 v8 := by
  have h4 := h.b4.kept hg (h.b4.not_row (by decide) h.nums)
  have h6 := h.b6.kept hg (h.b6.not_row (by decide) h.nums)
  have h8 := h.bx8.kept hg (h.bx8.not_row (by decide) h.nums)
  have hs := grownBy_setCell' W2 b8 v8'
  have le := h.le8
  have own2 : ∀ B v l, Own W B v l → Own (W2.setCell ⟨b8, 0, none⟩ v8') B v l := fun B v l ho => by
    have h1 : Own W2 B v l := World.ownsRow.kept ho hg (rows_apart ho h.nums (by decide))
    exact World.ownsRow.kept h1 hs (row_box h1 h8 (by decide))
  refine ⟨h4.kept hs (by simp; omega), h6.kept hs (by simp; omega), h8.set _, own2 _ _ _ h.own, World.ownsRow.kept hnum hs (row_box hnum h8 (by decide)), ?_, own2, h8⟩
  exact (h.bel.grown hg h.bel.size (fun g e => by have := (World.ownsRow.lt h.nums g e).1; omega)).setCell (p := ⟨b8, 0, none⟩) (by show w.heap.size ≤ b8; omega) _
end Go.Proofs.Ytjbmolclagmecab
