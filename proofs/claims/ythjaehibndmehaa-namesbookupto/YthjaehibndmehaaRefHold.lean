/-
  The document's book: New, Hold, Drop, All.
-/
import Derived.Test.YthjaehibndmehaaRefBook
import Derived.Deep.Cut
namespace Go.Proofs.Ythjaehibndmehaa
open Go.RowKit

theorem info_one : (Try.prog.info? 46).map (fun i => (i.zero, i.size, i.bytes)) = some (some (.agg #[.string ⟨#[]⟩, .int .i64 0]), 2, 24) := by kernel_rfl
/-- 'append' of rows onto rows of the call's own. -/
theorem wpList_ones {w : World} {ops : Array Oper} {rest : List Oper} {o : Oper} {a : Act} {Q : Exit → Act → World → Prop} (hgd : o.guard = none) (s x : Operand)
    (ho : o.op = .call { callee := .builtin .append, args := #[s, x], argTypes := #[43, 43] })
    (B : Nat) (v : Value) (X : List RowT) (hs : a.eval s = v) (hown : w.ownsRow B 46 2 v X.length (flatS X)) (ad : Option Addr) (c : Nat) (Y : List RowT) (hx : a.eval x = .slice ad Y.length c)
    (hsrc : (ad = none ∧ Y.length = 0) ∨ ∃ p, ad = some p ∧ ∀ j u, (flatS Y)[j]? = some u → w.cell? (p.add j) = some u)
    (hb : X.length + Y.length ≤ 2147483647) (hbase : B ≤ w.heap.size)
    (h : ∀ v' w', w'.ownsRow B 46 2 v' (X ++ Y).length (flatS (X ++ Y)) → w.grownBy w' v.ownBlock → (v'.ownBlock = v.ownBlock ∨ v'.ownBlock = some w.heap.size) →
      wpList Try.prog ops Q rest (a.put o.dst v') w') : wpList Try.prog ops Q (o :: rest) a w := by
  obtain ⟨i, hi, hz0, hz1, hz2⟩ := info_parts info_one
  refine wpList_plain hgd fun K hK => ?_
  obtain ⟨v', w', hr, h2, h3, h4, h5, h6⟩ := run_append_keepsG (P := Try.prog) w 2 B 43 o.type 46 i _ Try.underlying43 hi hz0 hz1 rfl v X.length (flatS X) hown ad Y.length c (flatS Y) (flatS_length Y) hsrc (flatS_one Y) (by unfold maxLen; omega) (by rw [hz2]; omega) hbase
  unfold Oper.wp execOp
  simp only [ho, resolve, invoke, builtin, Sem.run_bind, Sem.run_pure, Result.andThen_ok, List.map_toArray, List.map_cons, List.map_nil, hs, hx, hr]
  refine hK _ _ (h v' w' ?_ h3 h5)
  rw [List.length_append, flatS_app]
  exact h2
theorem ones_nil (w : World) (B : Nat) (hB : B ≤ w.heap.size) : (w.alloc (.cells #[] 46)).ownsRow B 46 2 (.slice (some ⟨w.heap.size, 0, none⟩) 0 0) ([] : List RowT).length (flatS []) :=
  World.ownsRow_made w #[] 0 hB (by unfold maxLen; omega) (by simp)
/-- Where the first k of a book's rows lie. -/
theorem RefB.front {w : World} {lo db : Nat} {a : Option Addr} {n c : Nat} {S : List RowT} (h : RefB w lo db (.slice a n c) S) (k : Nat) (hk : k ≤ S.length) : (a = none ∧ (S.take k).length = 0) ∨ ∃ p, a = some p ∧ ∀ j u, (flatS (S.take k))[j]? = some u → w.cell? (p.add j) = some u := by
  rcases h.row.2 with ⟨e, h0⟩ | ⟨g, cap, cur, e, _⟩
  · simp only [Value.slice.injEq] at e
    exact .inl ⟨e.1, by simp; omega⟩
  · simp only [Value.slice.injEq] at e
    obtain ⟨rfl, rfl, rfl⟩ := e
    refine .inr ⟨_, rfl, fun j u hu => h.row.cells (g := g) rfl j u ?_⟩
    have e2 : flatS S = flatS (S.take k) ++ flatS (S.drop k) := by rw [← flatS_app, List.take_append_drop]
    rw [e2, List.getElem?_append_left (List.getElem?_eq_some_iff.1 hu).1]
    exact hu
/-- Where those from k on lie. -/
theorem RefB.back {w : World} {lo db : Nat} {a : Option Addr} {n c : Nat} {S : List RowT} (h : RefB w lo db (.slice a n c) S) (k : Nat) (hk : k ≤ S.length) : (a = none ∧ (S.drop k).length = 0) ∨ ∃ g, a = some ⟨g, 0, none⟩ ∧ ∀ j u, (flatS (S.drop k))[j]? = some u → w.cell? ((⟨g, k * 2, none⟩ : Addr).add j) = some u := by
  rcases h.row.2 with ⟨e, h0⟩ | ⟨g, cap, cur, e, _⟩
  · simp only [Value.slice.injEq] at e
    exact .inl ⟨e.1, by simp; omega⟩
  · simp only [Value.slice.injEq] at e
    obtain ⟨rfl, rfl, rfl⟩ := e
    refine .inr ⟨g, rfl, fun j u hu => ?_⟩
    rw [flatS_drop, List.getElem?_drop] at hu
    have := h.row.cells (g := g) rfl (k * 2 + j) u hu
    have ea : ∀ m, ((⟨g, 0, none⟩ : Addr).add m) = ⟨g, m, none⟩ := fun m => by unfold Addr.add; split <;> simp_all
    have eb : ((⟨g, k * 2, none⟩ : Addr).add j) = ⟨g, k * 2 + j, none⟩ := by unfold Addr.add; split <;> simp_all
    rw [ea] at this
    rw [eb]
    exact this
/-- What may have turned, and where the book lies behind it. -/
def WentR (w : World) (lo db : Nat) (lv : Value) (g' : Text → Option Int) (w' : World) : Prop := ∃ lv' S', RefB w' lo db lv' S' ∧ Listed g' S' ∧ Kept (MineR db lv) w w' ∧ ∀ k, MineR db lv' k → MineR db lv k ∨ w.heap.size ≤ k
/-- A count is set. -/
theorem RefB.setAt {w : World} {lo db g n c k : Nat} {S : List RowT} {t : Text} {x : Int} (h : RefB w lo db (.slice (some ⟨g, 0, none⟩) n c) S) (hx : S[k]? = some (t, x)) (u : Int) (hup : (S.set k (t, u)).Pairwise (fun x y => less x.1 y.1 = true)) :
    RefB (w.setCell ⟨g, k * 2 + 1, none⟩ (.int .i64 u)) lo db (.slice (some ⟨g, 0, none⟩) n c) (S.set k (t, u)) := by
  have hk := (List.getElem?_eq_some_iff.1 hx).1
  rcases h.row.2 with ⟨e, h0⟩ | ⟨g', cap, cur, e, hB, hg, hnc, hcm, hcs, ht⟩
  · omega
  simp only [Value.slice.injEq, Option.some.injEq, Addr.mk.injEq, and_true] at e
  obtain ⟨rfl, hn, rfl⟩ := e
  have hne : db ≠ g := by
    intro e
    have := h.box
    rw [e, hg] at this
    simp at this
  obtain ⟨hg2, hk2⟩ := set_cells hg (k * 2 + 1) (.int .i64 u)
  refine ⟨(hk2.block db (Array.getElem?_eq_some_iff.1 h.box).1 (fun e => hne (by cases e; rfl))).trans h.box, ⟨by rw [flatS_length], .inr ⟨g, c, _, by rw [List.length_set, hn], hB, hg2, by rw [List.length_set]; exact hnc, hcm, by simpa using hcs, ?_⟩⟩, h.low, hup⟩
  rw [List.length_set, flatS_set S k t x u hx, ← ht]
  simp only [Array.toList_setIfInBounds]
  rw [List.take_set]
end Go.Proofs.Ythjaehibndmehaa
