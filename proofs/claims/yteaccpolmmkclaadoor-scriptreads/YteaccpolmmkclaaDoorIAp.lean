/-
  INums, IAppend.
-/
import Derived.Test.YteaccpolmmkclaaDoorProg
import Derived.WalkKit
import Derived.WalkSpells
import Derived.WalkLawsBesides
import Derived.WalkSmall
import Derived.Test.YteaccpolmmkclaaDoorMemA
import Derived.Deep.AppendSrc
import Derived.OwnWalk
import Derived.Laws.CopyOwn
import Derived.Deep.WholeRow
namespace Go.Proofs.YteaccpolmmkclaaDoor
open Go.RowKit

/-- The slice at 'a', of capacity c, has the numbers ss. -/
def IsInts (w : World) (a : Option Addr) (c : Nat) (ss : List Int) : Prop :=
  ss.length ≤ c ∧ ss.length ≤ maxLen ∧ (ss = [] ∨ ∃ b o, a = some ⟨b, o, none⟩ ∧ b < w.heap.size ∧ ∀ (j : Nat) x, ss[j]? = some x → w.cell? ⟨b, o + j, none⟩ = some (.int .i64 x))

theorem IsInts.below {w w' : World} {a : Option Addr} {c : Nat} {ss : List Int} (h : IsInts w a c ss) (hb : Below w.heap.size w w') : IsInts w' a c ss := by
  obtain ⟨h1, h2, h3⟩ := h
  refine ⟨h1, h2, ?_⟩
  rcases h3 with h | ⟨b, o, ha, hbk, hc⟩
  · exact .inl h
  · exact .inr ⟨b, o, ha, Nat.lt_of_lt_of_le hbk hb.size, fun j x hj => (hb.cell (p := ⟨b, o + j, none⟩) hbk).trans (hc j x hj)⟩

theorem IsInts.own {w : World} {B e g cap : Nat} {ss : List Int} (h : w.ownsRow B e 1 (.slice (some ⟨g, 0, none⟩) ss.length cap) ss.length (ss.map (Value.int .i64))) (hm : ss.length ≤ maxLen) : IsInts w (some ⟨g, 0, none⟩) cap ss := by
  refine ⟨?_, hm, .inr ⟨g, 0, rfl, (h.lt g rfl).2, fun j x hj => ?_⟩⟩
  · rcases h.2 with ⟨hv, _⟩ | ⟨g', cap', cur, hv, _, _, hx⟩
    · cases hv
    · cases hv; exact hx.1
  · have := h.cells rfl j (.int .i64 x) (by simp [hj])
    rw [Nat.zero_add]
    cases j with
    | zero => simpa [Addr.add] using this
    | succ j => simpa [Addr.add] using this

end Go.Proofs.YteaccpolmmkclaaDoor

namespace Go.Proofs.YteaccpolmmkclaaDoor
open Go.RowKit

/-! ### Texts -/

theorem info_str : (Tryd.prog.info? 3).map (fun i => (i.zero, i.size, i.bytes)) = some (some (.int .i64 0), 1, 8) := by kernel_rfl
theorem info_strs : (Tryd.prog.info? 38).map (fun i => (i.zero, i.size, i.bytes)) = some (some (.slice none 0 0), 1, 24) := by kernel_rfl

/-- Texts in a row of the call's own, from block B on. -/
def OwnI (w : World) (B : Nat) (v : Value) (l : List Int) : Prop := w.ownsRow B 3 1 v l.length (l.map (Value.int .i64))

theorem OwnI.shape {w : World} {B : Nat} {v : Value} {l : List Int} (h : OwnI w B v l) : ∃ a c, v = .slice a l.length c ∧ IsInts w a c l := by
  rcases h.2 with ⟨rfl, h0⟩ | ⟨g, cap, cur, rfl, hb, hg, hnc, hcm, hcs, htake⟩
  · have : l = [] := List.eq_nil_of_length_eq_zero h0
    subst this
    exact ⟨none, 0, rfl, by simp, by simp, .inl rfl⟩
  · exact ⟨_, cap, rfl, IsInts.own h (by omega)⟩
theorem OwnI.below {w w' : World} {B : Nat} {v : Value} {l : List Int} (h : OwnI w B v l) (hb : Below w.heap.size w w') : OwnI w' B v l := by
  refine ⟨h.1, ?_⟩
  rcases h.2 with h0 | ⟨g, cap, cur, hv, hB, hg, rest⟩
  · exact .inl h0
  · exact .inr ⟨g, cap, cur, hv, hB, (hb.block g (Array.getElem?_eq_some_iff.1 hg).1).trans hg, rest⟩
theorem OwnI.mono {w : World} {B B' : Nat} {v : Value} {l : List Int} (h : OwnI w B v l) (hB : B' ≤ B) : OwnI w B' v l := by
  refine ⟨h.1, ?_⟩
  rcases h.2 with h0 | ⟨g, cap, cur, hv, hb, rest⟩
  · exact .inl h0
  · exact .inr ⟨g, cap, cur, hv, Nat.le_trans hB hb, rest⟩
theorem OwnI.nil (w : World) (B : Nat) : OwnI w B (.slice none 0 0) [] := World.ownsRow_nil w B _ 1
theorem OwnI.lit (w : World) (B : Nat) (hB : B ≤ w.heap.size) : OwnI (w.alloc (.cells #[] 3)) B (.slice (some ⟨w.heap.size, 0, none⟩) 0 0) [] := World.ownsRow_made w #[] 0 hB (by unfold maxLen; omega) (by simp)
theorem IsInts.src {w : World} {a : Option Addr} {c : Nat} {l : List Int} (h : IsInts w a c l) : (a = none ∧ l.length = 0) ∨ ∃ p, a = some p ∧ ∀ j u, (l.map (Value.int .i64))[j]? = some u → w.cell? (p.add j) = some u := by
  obtain ⟨_, _, h3⟩ := h
  rcases h3 with rfl | ⟨b, o, rfl, _, hc⟩
  · cases a with
    | none => exact .inl ⟨rfl, rfl⟩
    | some p => exact .inr ⟨p, rfl, fun j u hj => by simp at hj⟩
  · refine .inr ⟨_, rfl, fun j u hj => ?_⟩
    rw [List.getElem?_map] at hj
    obtain ⟨x, hx, rfl⟩ := Option.map_eq_some_iff.1 hj
    have := hc j x hx
    cases j with
    | zero => simpa [Addr.add] using this
    | succ j => simpa [Addr.add] using this
theorem IsInts.ofNew (w : World) (x : Int) : IsInts (w.alloc (.cells #[.int .i64 x] 3)) (some ⟨w.heap.size, 0, none⟩) 1 [x] := by
  refine ⟨by simp, by simp [maxLen], .inr ⟨w.heap.size, 0, rfl, by simp, fun j y hj => ?_⟩⟩
  match j, hj with
  | 0, hj => simp at hj; subst hj; simp
  | (j + 1), hj => simp at hj
theorem OwnI.is {w : World} {B g m cap : Nat} {X : List Int} (h : OwnI w B (.slice (some ⟨g, 0, none⟩) m cap) X) : IsInts w (some ⟨g, 0, none⟩) cap X ∧ X.length = m := by
  obtain ⟨a, c, hv, his⟩ := h.shape
  simp only [Value.slice.injEq] at hv
  obtain ⟨rfl, rfl, rfl⟩ := hv
  exact ⟨his, rfl⟩
theorem OwnI.cell {w : World} {B g m cap : Nat} {X : List Int} (h : OwnI w B (.slice (some ⟨g, 0, none⟩) m cap) X) (j : Nat) (x : Int) (hx : X[j]? = some x) : w.cell? ⟨g, j, none⟩ = some (.int .i64 x) := by
  rcases h.is.1.2.2 with rfl | ⟨b, o, ha, hb, hc⟩
  · simp at hx
  · simp only [Option.some.injEq, Addr.mk.injEq] at ha
    obtain ⟨rfl, rfl, _⟩ := ha
    have := hc j x hx
    rwa [Nat.zero_add] at this
theorem OwnI.frozen {w : World} {B g m cap : Nat} {X : List Int} (h : OwnI w B (.slice (some ⟨g, 0, none⟩) m cap) X) (j : Nat) : w.frozen? ⟨g, j, none⟩ = false := by
  rcases h.2 with ⟨h', _⟩ | ⟨g', cap', cur, h', hb, hg, _⟩
  · simp at h'
  · simp only [Value.slice.injEq, Option.some.injEq, Addr.mk.injEq] at h'
    obtain ⟨⟨rfl, _⟩, _⟩ := h'
    simp [World.frozen?, hg]
theorem OwnI.set {w : World} {B g m cap : Nat} {X : List Int} (h : OwnI w B (.slice (some ⟨g, 0, none⟩) m cap) X) (j : Nat) (x : Int) :
    OwnI (w.setCell ⟨g, j, none⟩ (.int .i64 x)) B (.slice (some ⟨g, 0, none⟩) m cap) (X.set j x) ∧ w.grownBy (w.setCell ⟨g, j, none⟩ (.int .i64 x)) (some g) := by
  have hm := h.is.2
  unfold OwnI at h ⊢
  rw [hm] at h
  have := h.stored j (.int .i64 x)
  rw [List.length_set, hm, List.map_set]
  exact this
theorem OwnI.shapeSome {w : World} {B : Nat} {v : Value} {l : List Int} (h : OwnI w B v l) (hl : 0 < l.length) : ∃ g c, v = .slice (some ⟨g, 0, none⟩) l.length c := by
  rcases h.2 with ⟨_, h0⟩ | ⟨g, cap, cur, hv, _⟩
  · omega
  · exact ⟨g, cap, hv⟩

/-- 'append' of texts onto texts of the call's own. -/
theorem wpList_appendS {w : World} {ops : Array Oper} {rest : List Oper} {o : Oper} {a : Act} {Q : Exit → Act → World → Prop} (hgd : o.guard = none) (s x : Operand)
    (ho : o.op = .call { callee := .builtin .append, args := #[s, x], argTypes := #[38, 38] })
    (B : Nat) (v : Value) (l : List Int) (hs : a.eval s = v) (hown : OwnI w B v l) (ad : Option Addr) (c : Nat) (m : List Int) (hx : a.eval x = .slice ad m.length c) (hm : IsInts w ad c m)
    (hb : l.length + m.length ≤ 8796093022208) (hbase : B ≤ w.heap.size)
    (h : ∀ v' w', OwnI w' B v' (l ++ m) → w.grownBy w' v.ownBlock → (∀ (b0 : Nat) (u : Value) (ys : List Int), OwnI w b0 u ys → (u.ownBlock = v.ownBlock → ys.length ≤ l.length) → OwnI w' b0 u ys) → (v'.ownBlock = v.ownBlock ∨ v'.ownBlock = some w.heap.size) → (v' = .slice none 0 0 ↔ v = .slice none 0 0 ∧ m = []) →
      wpList Tryd.prog ops Q rest (a.put o.dst v') w') : wpList Tryd.prog ops Q (o :: rest) a w := by
  obtain ⟨i, hi, hz0, hz1, hz2⟩ := info_parts info_str
  refine wpList_append_keeps hgd s x 38 ho B 3 i (.int .i64 0) Tryd.underlying38 hi hz0 hz1 rfl v l.length (l.map (Value.int .i64)) hs hown ad m.length c (m.map (Value.int .i64)) hx (by simp) hm.src (by intro u hu; simp at hu; obtain ⟨y, _, rfl⟩ := hu; rfl) (by unfold maxLen; omega) (by rw [hz2]; omega) hbase ?_
  intro v' w' h1 h2 h3 h4 h5
  refine h v' w' ?_ h2 (fun b0 u ys hu hle => h3 b0 u ys.length _ hu hle) h4 (by rw [h5]; simp)
  unfold OwnI
  rw [List.length_append, List.map_append]
  exact h1
end Go.Proofs.YteaccpolmmkclaaDoor
