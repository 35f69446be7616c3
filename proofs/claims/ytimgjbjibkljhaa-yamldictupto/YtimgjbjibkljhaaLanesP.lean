/-
  Three lists side by side, each with memory of its own.
-/
import Derived.Test.YtimgjbjibkljhaaReadD
import Derived.Test.YtimgjbjibkljhaaKeepsG
import Derived.Deep.AppendLies
namespace Go.Proofs.Ytimgjbjibkljhaa
open Go.RowKit

theorem step_keepsP {ops : Array Oper} {o : Oper} {a : Act} {K : Act → World → Prop} {Q : Exit → Act → World → Prop} {E : Prop} (hgd : o.guard = none) (s y : Operand)
    (ho : o.op = .call { callee := .builtin .append, args := #[s, y], argTypes := #[37, 37] })
    (B : Nat) (w : World) (v : Value) (ts : List BP) (x : BP) (hown : Prs w B v ts) (hB : B ≤ w.heap.size) (hR : ts.length ≤ 1073741823) (hs : a.eval s = v) (hx : a.eval y = .slice (some ⟨w.heap.size, 0, none⟩) 1 1)
    (h : ∀ v' w', Prs w' B v' (ts ++ [x]) → (w.alloc (.cells #[.string x.1, .string x.2] 41)).grownBy w' v.ownBlock → (∀ (u : Value) (ys : List BP), Prs w B u ys → (u.ownBlock = v.ownBlock → ys.length ≤ ts.length) → Prs w' B u ys) → (v'.ownBlock = v.ownBlock ∨ v'.ownBlock = some (w.heap.size + 1)) → K (a.put o.dst v') w') :
    if Region.wanted o (yielded ops a.tmps) = true then Oper.wp Try.prog o a (w.alloc (.cells #[.string x.1, .string x.2] 41)) K Q else E := by
  have hw : Region.wanted o (yielded ops a.tmps) = true := by simp [Region.wanted, hgd]
  rw [if_pos hw]
  obtain ⟨i0, hi, hz0, hz1, hz2⟩ := info_parts info_pair
  have hX : World.ownsRow (w.alloc (.cells #[.string x.1, .string x.2] 41)) B 41 2 v ts.length (twos ts) := hown.alloc _
  obtain ⟨v', w', hr, h2, h3, h4, h5, _⟩ := run_append_keepsG (P := Try.prog) (w.alloc (.cells #[.string x.1, .string x.2] 41)) 2 B 37 o.type 41 i0 (.agg #[.string ⟨#[]⟩, .string ⟨#[]⟩]) Try.underlying37 hi hz0 hz1 rfl v ts.length (twos ts) hX (some ⟨w.heap.size, 0, none⟩) 1 1 (two x) rfl (.inr ⟨_, rfl, World.news_of_block (w := w.alloc (.cells #[.string x.1, .string x.2] 41)) (cs := #[.string x.1, .string x.2]) (heap_alloc_new w _)⟩) (by intro u hu; simp [two] at hu; rcases hu with rfl | rfl <;> rfl) (by unfold maxLen; omega) (by rw [hz2]; omega) (by simp; omega)
  unfold Oper.wp execOp
  simp only [ho, resolve, invoke, builtin, Sem.run_bind, Sem.run_pure, Result.andThen_ok, List.map_toArray, List.map_cons, List.map_nil, hs, hx, hr]
  refine h v' w' ?_ h3 (fun u ys hu hle => ?_) (by simpa using h5)
  · show World.ownsRow _ _ _ _ _ _ _
    rw [List.length_append, show twos (ts ++ [x]) = twos ts ++ two x by simp [twos]]
    exact h2
  · exact h4 B u ys.length _ (hu.alloc _) hle

/-- Three lists, each in blocks that bear its number. -/
def LanesP (w : World) (B : Nat) (lab : Nat → Nat) (v : Nat → Value) (L : Nat → List BP) : Prop := ∀ j, j < 3 → Prs w B (v j) (L j) ∧ ∀ g, (v j).ownBlock = some g → lab g = j
theorem row_keptP {P : Nat → Prop} {w w1 : World} {B : Nat} {v : Value} {ts : List BP} (h : Kept P w w1) (ho : Prs w B v ts) (hP : ∀ g, v.ownBlock = some g → ¬ P g) : Prs w1 B v ts := by
  refine ⟨ho.1, ?_⟩
  rcases ho.2 with h0 | ⟨g, cap, cur, rfl, hB, hg, rest⟩
  · exact .inl h0
  · exact .inr ⟨g, cap, cur, rfl, hB, (h.block g (Array.getElem?_eq_some_iff.1 hg).1 (hP g rfl)).trans hg, rest⟩
theorem row_ltP {w : World} {B : Nat} {v : Value} {ts : List BP} (ho : Prs w B v ts) {g : Nat} (hg : v.ownBlock = some g) : B ≤ g ∧ g < w.heap.size := by
  rcases ho.2 with ⟨rfl, _⟩ | ⟨g', cap, cur, rfl, hB, hc, _⟩
  · cases hg
  · cases hg; exact ⟨hB, (Array.getElem?_eq_some_iff.1 hc).1⟩
theorem LanesP.below {w w1 : World} {B : Nat} {lab : Nat → Nat} {v : Nat → Value} {L : Nat → List BP} (h : LanesP w B lab v L) (hb : Below w.heap.size w w1) : LanesP w1 B lab v L := fun j hj => ⟨(h j hj).1.below hb, (h j hj).2⟩
theorem LanesP.relabel {w : World} {B : Nat} {lab lab' : Nat → Nat} {v : Nat → Value} {L : Nat → List BP} (h : LanesP w B lab v L) (hl : ∀ k, k < w.heap.size → lab' k = lab k) : LanesP w B lab' v L := fun j hj => ⟨(h j hj).1, fun g hg => (hl g (row_ltP (h j hj).1 hg).2).trans ((h j hj).2 g hg)⟩
theorem twos_set : ∀ (ts : List BP) (k : Nat) (x : BP), ((twos ts).set (k * 2) (.string x.1)).set (k * 2 + 1) (.string x.2) = twos (ts.set k x)
  | [], k, x => by simp [twos]
  | p :: ts, 0, x => by simp [twos, two]
  | p :: ts, k + 1, x => by
    have ih := twos_set ts k x
    rw [show (k + 1) * 2 = k * 2 + 1 + 1 by omega]
    show (Value.string p.1 :: Value.string p.2 :: twos ts |>.set (k * 2 + 1 + 1) (.string x.1)).set (k * 2 + 1 + 1 + 1) (.string x.2) = Value.string p.1 :: Value.string p.2 :: twos (ts.set k x)
    simp only [List.set_cons_succ]
    rw [ih]
/-- A store into lane i. -/
theorem row_setP {w : World} {B g cap n : Nat} {ts : List BP} (ho : Prs w B (.slice (some ⟨g, 0, none⟩) n cap) ts) (k : Nat) (x : BP) :
    Prs ((w.setCell ⟨g, k * 2, none⟩ (.string x.1)).setCell ⟨g, k * 2 + 1, none⟩ (.string x.2)) B (.slice (some ⟨g, 0, none⟩) n cap) (ts.set k x) := by
  refine ⟨by simp [twos_length], ?_⟩
  rcases ho.2 with ⟨h0, _⟩ | ⟨g', cap', cur, hv, hB, hg, h1, h2, h3, h4⟩
  · cases h0
  · simp only [Value.slice.injEq, Option.some.injEq, Addr.mk.injEq, and_true] at hv
    obtain ⟨rfl, _, rfl⟩ := hv

    have e2 := (set_cells (set_cells hg (k * 2) (.string x.1)).1 (k * 2 + 1) (.string x.2)).1
    refine .inr ⟨g, cap, _, by rw [show n = (ts.set k x).length by have := ‹n = ts.length›; simp [this]], hB, e2, by simpa using h1, h2, by simpa using h3, ?_⟩
    rw [List.length_set, Array.toList_setIfInBounds, Array.toList_setIfInBounds, List.take_set, List.take_set, h4, twos_set]
def updP {α : Type} (f : Nat → α) (i : Nat) (x : α) : Nat → α := fun j => if j = i then x else f j
theorem upd_atP {α : Type} (f : Nat → α) (i : Nat) (x : α) : updP f i x i = x := if_pos rfl
theorem upd_neP {α : Type} (f : Nat → α) {i j : Nat} (x : α) (h : j ≠ i) : updP f i x j = f j := if_neg h
/-- The blocks of the three lists. -/
def VBP (v : Nat → Value) (k : Nat) : Prop := ∃ j, j < 3 ∧ (v j).ownBlock = some k
/-- The list of the three lists. -/
def AllP (w : World) (Hb : Nat) (u : Nat → Value) : Prop := w.heap[Hb]? = some (.cells #[u 0, u 1, u 2] 37 (0, 0))
theorem AllP.lt {w : World} {Hb : Nat} {u : Nat → Value} (h : AllP w Hb u) : Hb < w.heap.size := by
  have h : w.heap[Hb]? = _ := h
  exact (Array.getElem?_eq_some_iff.1 h).1
theorem AllP.cell {w : World} {Hb : Nat} {u : Nat → Value} (h : AllP w Hb u) {i : Nat} (hi : i < 3) : w.cell? ⟨Hb, i, none⟩ = some (u i) := by
  have h : w.heap[Hb]? = _ := h
  match i, hi with
  | 0, _ => simp [World.cell?, h]
  | 1, _ => simp [World.cell?, h]
  | 2, _ => simp [World.cell?, h]
theorem AllP.frozen {w : World} {Hb : Nat} {u : Nat → Value} (h : AllP w Hb u) (i : Nat) : w.frozen? ⟨Hb, i, none⟩ = false := by
  have h : w.heap[Hb]? = _ := h
  simp [World.frozen?, h]
theorem AllP.kept {P : Nat → Prop} {w w1 : World} {Hb : Nat} {u : Nat → Value} (h : AllP w Hb u) (hk : Kept P w w1) (hP : ¬ P Hb) : AllP w1 Hb u := (hk.block Hb h.lt hP).trans h
theorem AllP.set {w : World} {Hb : Nat} {u : Nat → Value} (h : AllP w Hb u) {i : Nat} (hi : i < 3) (x : Value) : AllP (w.setCell ⟨Hb, i, none⟩ x) Hb (updP u i x) := by
  unfold AllP
  rw [(set_cells h i x).1]
  match i, hi with
  | 0, _ => rfl
  | 1, _ => rfl
  | 2, _ => rfl

theorem LanesP.set {w : World} {B : Nat} {lab : Nat → Nat} {v : Nat → Value} {L : Nat → List BP} (h : LanesP w B lab v L) {i g n cap : Nat} (hi : i < 3) (hv : v i = .slice (some ⟨g, 0, none⟩) n cap) (k : Nat) (x : BP) :
    LanesP ((w.setCell ⟨g, k * 2, none⟩ (.string x.1)).setCell ⟨g, k * 2 + 1, none⟩ (.string x.2)) B lab v (updP L i ((L i).set k x)) ∧ Kept (fun q => q = g) w ((w.setCell ⟨g, k * 2, none⟩ (.string x.1)).setCell ⟨g, k * 2 + 1, none⟩ (.string x.2)) := by
  have hk : Kept (fun q => q = g) w ((w.setCell ⟨g, k * 2, none⟩ (.string x.1)).setCell ⟨g, k * 2 + 1, none⟩ (.string x.2)) := (Kept.setCell (fun q => q = g) w g (k * 2) _ rfl).trans (Kept.setCell (fun q => q = g) _ g (k * 2 + 1) _ rfl)
  refine ⟨fun j hj => ⟨?_, (h j hj).2⟩, hk⟩
  by_cases hji : j = i
  · subst hji
    rw [upd_atP]
    have := (h j hj).1
    rw [hv] at this ⊢
    exact row_setP this k x
  · rw [upd_neP _ _ hji]
    refine row_keptP hk (h j hj).1 (fun g' hg' e => hji ?_)
    rw [← (h j hj).2 g' hg', e, (h i hi).2 g (by rw [hv]; rfl)]
theorem own_nilP {w : World} {B : Nat} {v : Value} {ts : List BP} (ho : Prs w B v ts) (hn : v.ownBlock = none) : ts.length = 0 := by
  rcases ho.2 with ⟨_, h0⟩ | ⟨g', cap, cur, rfl, _⟩
  · exact h0
  · cases hn
/-- One more thing behind the list of lane i. -/
theorem LanesP.push {w w' : World} {B : Nat} {lab : Nat → Nat} {v u : Nat → Value} {L M : Nat → List BP} {Hb : Nat} {i : Nat} {v' : Value} {x : BP} (hv : LanesP w B lab v L) (hu : LanesP w B lab u M) (ha : AllP w Hb u) (hlb : lab Hb = 3) (hi : i < 3) (hle : (L i).length ≤ (M i).length)
    (o : Prs w' B v' (M i ++ [x])) (hg : (w.alloc (.cells #[.string x.1, .string x.2] 41)).grownBy w' (u i).ownBlock) (hk : ∀ (y : Value) (ys : List BP), Prs w B y ys → (y.ownBlock = (u i).ownBlock → ys.length ≤ (M i).length) → Prs w' B y ys) (hat : v'.ownBlock = (u i).ownBlock ∨ v'.ownBlock = some (w.heap.size + 1)) :
    LanesP w' B (fun k => if k = w.heap.size + 1 then i else lab k) v L ∧ LanesP w' B (fun k => if k = w.heap.size + 1 then i else lab k) (updP u i v') (updP M i (M i ++ [x])) ∧ AllP w' Hb u ∧ Kept (fun k => (u i).ownBlock = some k) w w' ∧ (fun k => if k = w.heap.size + 1 then i else lab k) Hb = 3 := by
  have hsize : w.heap.size + 1 ≤ w'.heap.size := by have := hg.size; simpa using this
  have hblk : ∀ k, k < w.heap.size → k ≠ w.heap.size + 1 := fun k hk => by omega
  have hl1 : ∀ k, k < w.heap.size → (fun k => if k = w.heap.size + 1 then i else lab k) k = lab k := fun k hk => if_neg (hblk k hk)
  have kg : Kept (fun k => (u i).ownBlock = some k) w w' := (Kept.ofBelow ((Below.refl _ w).alloc (Nat.le_refl _) _)).trans (Kept.ofGrown hg (fun g e => e))
  have keep : ∀ (f : Nat → Value) (N : Nat → List BP) j, j < 3 → LanesP w B lab f N → (j = i → (f j).ownBlock = (u i).ownBlock → (N j).length ≤ (M i).length) → Prs w' B (f j) (N j) ∧ ∀ g, (f j).ownBlock = some g → (fun k => if k = w.heap.size + 1 then i else lab k) g = j := by
    intro f N j hj hf hle'
    refine ⟨hk (f j) (N j) (hf j hj).1 (fun e => ?_), fun g hg' => (hl1 g (row_ltP (hf j hj).1 hg').2).trans ((hf j hj).2 g hg')⟩
    cases hn : (f j).ownBlock with
    | none => rw [own_nilP (hf j hj).1 hn]; exact Nat.zero_le _
    | some g =>
      have h1 := (hf j hj).2 g hn
      have h2 := (hu i hi).2 g (by rw [← e]; exact hn)
      exact hle' (h1.symm.trans h2) e
  refine ⟨fun j hj => keep v L j hj hv (fun e _ => by subst e; exact hle), fun j hj => ?_, ha.kept kg (fun e => ?_), kg, (hl1 Hb ha.lt).trans hlb⟩
  · by_cases hji : j = i
    · subst hji
      rw [upd_atP, upd_atP]
      refine ⟨o, fun g hg' => ?_⟩
      rcases hat with hat | hat
      · rw [hat] at hg'
        exact (hl1 g (row_ltP (hu j hj).1 hg').2).trans ((hu j hj).2 g hg')
      · rw [hat] at hg'
        simp only [Option.some.injEq] at hg'
        exact if_pos hg'.symm
    · rw [upd_neP _ _ hji, upd_neP _ _ hji]
      exact keep u M j hj hu (fun e => absurd e hji)
  · have := (hu i hi).2 Hb e
    omega
theorem Prs.form {W : World} {B : Nat} {v : Value} {ts : List BP} (h : Prs W B v ts) : ∃ a c, v = .slice a ts.length c ∧ (0 < ts.length → ∃ g, a = some ⟨g, 0, none⟩) := by
  rcases h.2 with ⟨rfl, h0⟩ | ⟨g, cap, cur, rfl, _⟩
  · exact ⟨none, 0, by rw [h0], fun h => by omega⟩
  · exact ⟨_, _, rfl, fun _ => ⟨g, rfl⟩⟩
theorem Prs.cellAt {W : World} {B g c n : Nat} {ts : List BP} (h : Prs W B (.slice (some ⟨g, 0, none⟩) n c) ts) {k : Nat} {x : BP} (hx : ts[k]? = some x) : (W.cell? ⟨g, k * 2, none⟩ = some (.string x.1) ∧ W.cell? ⟨g, k * 2 + 1, none⟩ = some (.string x.2)) ∧ ∀ m, W.frozen? ⟨g, m, none⟩ = false := by
  obtain ⟨h1, h2⟩ := twos_get ts k x hx
  have a1 := h.cells (g := g) rfl _ _ h1
  have a2 := h.cells (g := g) rfl _ _ h2
  rw [Go.WideShapes.add_plain, Nat.zero_add] at a1 a2
  refine ⟨⟨a1, a2⟩, fun m => ?_⟩
  rcases h.2 with ⟨h0, _⟩ | ⟨g', cap', cur, hv, hB, hg, _⟩
  · cases h0
  · simp only [Value.slice.injEq, Option.some.injEq, Addr.mk.injEq, and_true] at hv
    obtain ⟨rfl, _⟩ := hv
    simp [World.frozen?, hg]
end Go.Proofs.Ytimgjbjibkljhaa
