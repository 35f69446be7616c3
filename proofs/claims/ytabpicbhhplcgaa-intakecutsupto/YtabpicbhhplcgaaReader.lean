/-
  A reader in memory.
-/
import Derived.Test.YtabpicbhhplcgaaPlainCuts
import Derived.Test.YtabpicbhhplcgaaShown
import Derived.Test.YtabpicbhhplcgaaNums
import Derived.Deep.AppendLies
import Derived.Deep.RegionLaw
namespace Go.Proofs.Ytabpicbhhplcgaa
open Go.RowKit

/-- The cells of an item; its body's value beside it. -/
def cellsI (p : Told × Value) : List Value := [.int .i64 p.1.kind, .string ⟨p.1.text.toArray⟩, p.2]
def flatI (P : List (Told × Value)) : List Value := P.flatMap cellsI
theorem flatI_append (P Q : List (Told × Value)) : flatI (P ++ Q) = flatI P ++ flatI Q := by simp [flatI]
theorem flatI_get : ∀ (P : List (Told × Value)) (i : Nat) (p : Told × Value), P[i]? = some p → ∀ k, k < 3 → (flatI P)[i * 3 + k]? = (cellsI p)[k]?
  | [], i, p, h => by simp at h
  | q :: P, i, p, h => fun k hk => by
    have hc : (cellsI q).length = 3 := rfl
    cases i with
    | zero =>
      obtain rfl : q = p := by simpa using h
      simp only [flatI, List.flatMap_cons]
      rw [List.getElem?_append_left (by omega), show 0 * 3 + k = k by omega]
    | succ i =>
      simp only [flatI, List.flatMap_cons]
      rw [List.getElem?_append_right (by omega), hc, show (i + 1) * 3 + k - 3 = i * 3 + k by omega]
      exact flatI_get P i p (by simpa using h) k hk

/-- The reader at rb: its intake at ib is as s says; it has told P. -/
structure RdAt (w : World) (rb ib : Nat) (asz : Option Addr) (csz : Nat) (sz : List Int) (v : Value) (s : In) (n : Nat) (vi : Value) (P : List (Told × Value)) : Prop where
  inat : InAt w ib v s
  box : w.heap[rb]? = some (.cells #[.pointer (some ⟨ib, 0, none⟩), .slice asz sz.length csz, .int .i64 n, vi] 49 (0, 0))
  row : w.ownsRow 0 54 3 vi P.length (flatI P)
  bod : ∀ p ∈ P, Own w 0 p.2 p.1.body
  apt : ∀ p ∈ P, ∀ k, p.2.ownBlock = some k → ¬ Mine ib v k
/-- Its blocks. -/
def RMine (rb ib : Nat) (v vi : Value) (P : List (Told × Value)) (k : Nat) : Prop := k = rb ∨ Mine ib v k ∨ vi.ownBlock = some k ∨ ∃ p ∈ P, p.2.ownBlock = some k
/-- What may have turned. -/
def Turned (w w' : World) (rb ib : Nat) (v vi : Value) (P : List (Told × Value)) (v' vi' : Value) (P' : List (Told × Value)) : Prop :=
  Kept (RMine rb ib v vi P) w w' ∧ ∀ k, RMine rb ib v' vi' P' k → RMine rb ib v vi P k ∨ w.heap.size ≤ k
theorem Turned.refl (w : World) (rb ib : Nat) (v vi : Value) (P : List (Told × Value)) : Turned w w rb ib v vi P v vi P := ⟨Kept.refl _ _, fun _ h => .inl h⟩
theorem Turned.trans {w w1 w2 : World} {rb ib : Nat} {v vi v1 vi1 v2 vi2 : Value} {P P1 P2 : List (Told × Value)} (h : Turned w w1 rb ib v vi P v1 vi1 P1) (k : Turned w1 w2 rb ib v1 vi1 P1 v2 vi2 P2) : Turned w w2 rb ib v vi P v2 vi2 P2 := by
  refine ⟨h.1.step k.1 (fun j hj e => (h.2 j e).elim id (fun e => by omega)), fun j hj => ?_⟩
  rcases k.2 j hj with e | e
  · exact h.2 j e
  · exact .inr (Nat.le_trans h.1.size e)

theorem rowI_old {w : World} {e : Nat} {v : Value} {n m : Nat} {xs : List Value} (h : w.ownsRow 0 e m v n xs) {k : Nat} (hk : v.ownBlock = some k) : ∃ cur, w.heap[k]? = some (.cells cur e (0, 0)) := by
  rcases h.2 with ⟨rfl, _⟩ | ⟨g, cap, cur, rfl, _, hg, _⟩
  · cases hk
  · cases hk; exact ⟨cur, hg⟩
theorem rowI_kept {Pr : Nat → Prop} {w w1 : World} {e : Nat} {v : Value} {n m : Nat} {xs : List Value} (ho : w.ownsRow 0 e m v n xs) (h : Kept Pr w w1) (hP : ∀ g, v.ownBlock = some g → ¬ Pr g) : w1.ownsRow 0 e m v n xs := by
  refine ⟨ho.1, ?_⟩
  rcases ho.2 with h0 | ⟨g, cap, cur, rfl, hB, hg, rest⟩
  · exact .inl h0
  · exact .inr ⟨g, cap, cur, rfl, hB, (h.block g (Array.getElem?_eq_some_iff.1 hg).1 (hP g rfl)).trans hg, rest⟩
theorem InAt.otherT {w : World} {ib rb : Nat} {v : Value} {s : In} {cs : Array Value} {t : TypeId} (h : InAt w ib v s) (hr : w.heap[rb]? = some (.cells cs t (0, 0))) (h1 : t ≠ 76) (h2 : t ≠ 5) : ¬ Mine ib v rb := by
  obtain ⟨g, came, hb, ho, _⟩ := h
  rintro (rfl | hk)
  · unfold BoxAt at hb
    rw [hb] at hr
    simp at hr
    exact h1 hr.2.symm
  · rcases ho.2 with ⟨rfl, _⟩ | ⟨g', cap, cur, rfl, _, hg, _⟩
    · cases hk
    · cases hk
      rw [hg] at hr
      simp at hr
      exact h2 hr.2.symm
theorem RdAt.lt {w : World} {rb ib : Nat} {asz : Option Addr} {csz : Nat} {sz : List Int} {v : Value} {s : In} {n : Nat} {vi : Value} {P : List (Told × Value)} (h : RdAt w rb ib asz csz sz v s n vi P) : ∀ k, RMine rb ib v vi P k → k < w.heap.size := by
  rintro k (rfl | hk | hk | ⟨p, hp, hk⟩)
  · exact (Array.getElem?_eq_some_iff.1 h.box).1
  · exact h.inat.lt k hk
  · obtain ⟨cur, hc⟩ := rowI_old h.row hk
    exact (Array.getElem?_eq_some_iff.1 hc).1
  · exact ((h.bod p hp).old k hk).2
theorem RdAt.kept {Pr : Nat → Prop} {w w' : World} {rb ib : Nat} {asz : Option Addr} {csz : Nat} {sz : List Int} {v : Value} {s : In} {n : Nat} {vi : Value} {P : List (Told × Value)} (h : RdAt w rb ib asz csz sz v s n vi P) (hk : Kept Pr w w') (hP : ∀ k, RMine rb ib v vi P k → ¬ Pr k) : RdAt w' rb ib asz csz sz v s n vi P :=
  ⟨h.inat.kept hk (fun k hm => hP k (.inr (.inl hm))), (hk.block rb (h.lt rb (.inl rfl)) (hP rb (.inl rfl))).trans h.box, rowI_kept h.row hk (fun g hg => hP g (.inr (.inr (.inl hg)))), fun p hp => (h.bod p hp).kept hk (fun k hk => hP k (.inr (.inr (.inr ⟨p, hp, hk⟩)))), h.apt⟩
theorem RdAt.below {w w' : World} {rb ib : Nat} {asz : Option Addr} {csz : Nat} {sz : List Int} {v : Value} {s : In} {n : Nat} {vi : Value} {P : List (Told × Value)} (h : RdAt w rb ib asz csz sz v s n vi P) (hb : Below w.heap.size w w') : RdAt w' rb ib asz csz sz v s n vi P ∧ Turned w w' rb ib v vi P v vi P :=
  ⟨h.kept (Kept.ofBelow (P := fun _ => False) hb) (fun _ _ e => e), Kept.ofBelow hb, fun _ e => .inl e⟩
/-- A call on its intake. -/
theorem RdAt.went {w w' : World} {rb ib : Nat} {asz : Option Addr} {csz : Nat} {sz : List Int} {v : Value} {s s' : In} {n : Nat} {vi : Value} {P : List (Told × Value)} (h : RdAt w rb ib asz csz sz v s n vi P) {vb : Value} (hw : WentX vb w ib v s' w') :
    ∃ v', RdAt w' rb ib asz csz sz v' s' n vi P ∧ Turned w w' rb ib v vi P v' vi P ∧ ∀ k, vb.ownBlock = some k → w.heap.size ≤ k → ¬ Mine ib v' k := by
  obtain ⟨v', h1, h2, h3⟩ := hw
  have hrow : ∀ g, vi.ownBlock = some g → ¬ Mine ib v g := fun g hg => by
    obtain ⟨cur, hc⟩ := rowI_old h.row hg
    exact h.inat.otherT hc (by decide) (by decide)
  refine ⟨v', ⟨h1, (h2.block rb (h.lt rb (.inl rfl)) (h.inat.otherT h.box (by decide) (by decide))).trans h.box, rowI_kept h.row h2 hrow, fun p hp => (h.bod p hp).kept h2 (fun k hk => h.apt p hp k hk), fun p hp k hk hm => ?_⟩, ⟨h2.mono (fun k _ e => .inr (.inl e)), ?_⟩, ?_⟩
  · rcases h3 k hm with e | e
    · exact h.apt p hp k hk e
    · have := ((h.bod p hp).old k hk).2; omega
  · rintro k (e | e | e | e)
    · exact .inl (.inl e)
    · rcases h3 k e with e | e
      · exact .inl (.inr (.inl e))
      · exact .inr e.1
    · exact .inl (.inr (.inr (.inl e)))
    · exact .inl (.inr (.inr (.inr e)))
  · intro k hk hs hm
    rcases h3 k hm with e | e
    · have := h.inat.lt k e; omega
    · exact e.2 hk

theorem info_item : (Try.prog.info? 54).map (fun i => (i.zero, i.size, i.bytes)) = some (some (.agg #[.int .i64 0, .string ⟨#[]⟩, .slice none 0 0]), 3, 48) := by kernel_rfl
theorem step_items {ops : Array Oper} {o : Oper} {a : Act} {K : Act → World → Prop} {Q : Exit → Act → World → Prop} {E : Prop} (hgd : o.guard = none) (s x : Operand)
    (ho : o.op = .call { callee := .builtin .append, args := #[s, x], argTypes := #[47, 47] })
    (w : World) (v : Value) (P : List (Told × Value)) (p : Told × Value) (C : List Value) (hC : cellsI p = C) (N : Nat) (hN : N = P.length) (hown : w.ownsRow 0 54 3 v P.length (flatI P)) (hR : P.length ≤ 1073741823) (h1c : p.2.oneCell' = true) (hs : a.eval s = v) (hx : a.eval x = .slice (some ⟨w.heap.size, 0, none⟩) 1 1)
    (h : ∀ g cap w', w'.ownsRow 0 54 3 (.slice (some ⟨g, 0, none⟩) (N + 1) cap) (P.length + 1) (flatI P ++ cellsI p) → w.grownBy w' v.ownBlock → (v.ownBlock = some g ∨ w.heap.size ≤ g) → K (a.put o.dst (.slice (some ⟨g, 0, none⟩) (N + 1) cap)) w') :
    if Region.wanted o (yielded ops a.tmps) = true then Oper.wp Try.prog o a ((w.alloc (.cells C.toArray 54)).drew) K Q else E := by
  subst hC
  subst hN
  obtain ⟨i0, hi, hz0, hz1, hz2⟩ := info_parts info_item
  refine step_append_lies ((w.alloc (.cells (cellsI p).toArray 54)).drew) hgd s x 47 ho 0 54 i0 (.agg #[.int .i64 0, .string ⟨#[]⟩, .slice none 0 0]) 3 48 Try.underlying47 hi hz0 hz1 hz2 rfl (by decide) v P.length (flatI P) hs (hown.alloc _) ⟨w.heap.size, 0, none⟩ 1 1 (cellsI p) hx rfl ?_ ?_ (by decide) (by unfold maxLen; omega) (by omega) (Nat.zero_le _) _ rfl ?_
  · exact World.news_of_block (w := (w.alloc (.cells (cellsI p).toArray 54)).drew) (cs := (cellsI p).toArray) (heap_alloc_new w _)
  · intro u hu
    simp [cellsI] at hu
    rcases hu with rfl | rfl | rfl
    · rfl
    · rfl
    · exact h1c
  · intro g cap w' h1 h2 h3 _
    refine h g cap w' h1 ⟨h2.os, h2.tape, h2.output, Nat.le_trans (by simp [World.size_alloc]) h2.size, fun k hk hne => (h2.block k (Nat.lt_of_lt_of_le hk (by simp [World.size_alloc])) hne).trans (heap_alloc_old w _ hk)⟩ (h3.imp id (fun e => by rw [e]; simp))

/-- An item more. -/
theorem RdAt.push {w w' : World} {rb ib : Nat} {asz : Option Addr} {csz : Nat} {sz : List Int} {v : Value} {s : In} {n : Nat} {vi vi' : Value} {P : List (Told × Value)} {p : Told × Value} (h : RdAt w rb ib asz csz sz v s n vi P)
    (hr : w'.ownsRow 0 54 3 vi' (P.length + 1) (flatI P ++ cellsI p)) (hg : w.grownBy w' vi.ownBlock) (hat : vi.ownBlock = vi'.ownBlock ∨ ∀ k, vi'.ownBlock = some k → w.heap.size ≤ k) (hp : Own w 0 p.2 p.1.body) (hap : ∀ k, p.2.ownBlock = some k → ¬ Mine ib v k) (w0 : World) (h0 : w0.heap.size ≤ w.heap.size) (hnew : ∀ k, p.2.ownBlock = some k → w0.heap.size ≤ k) :
    RdAt (w'.setCell ⟨rb, 3, none⟩ vi') rb ib asz csz sz v s n vi' (P ++ [p]) ∧ Kept (RMine rb ib v vi P) w (w'.setCell ⟨rb, 3, none⟩ vi') ∧ (∀ k, RMine rb ib v vi' (P ++ [p]) k → RMine rb ib v vi P k ∨ w0.heap.size ≤ k) ∧
      w'.cell? ⟨rb, 3, none⟩ = some vi ∧ w'.frozen? ⟨rb, 3, none⟩ = false ∧ rb < w'.heap.size := by
  have K1 : Kept (fun k => vi.ownBlock = some k) w w' := Kept.ofGrown hg (fun _ e => e)
  have hblk : ∀ {g : Nat} {cs : Array Value} {t : TypeId}, w.heap[g]? = some (.cells cs t (0, 0)) → t ≠ 54 → ¬ vi.ownBlock = some g := fun {g cs t} hc ht e => by
    obtain ⟨cur, hc2⟩ := rowI_old h.row e
    rw [hc] at hc2
    simp at hc2
    exact ht hc2.2
  have hown : ∀ {u : Value} {l : List UInt8}, Own w 0 u l → ∀ k, u.ownBlock = some k → ¬ vi.ownBlock = some k := fun {u l} ho k hk e => by
    obtain ⟨cur, hc⟩ := rowI_old (m := 1) ho hk
    exact hblk hc (by decide) e
  have box' := (K1.block rb (h.lt rb (.inl rfl)) (hblk h.box (by decide))).trans h.box
  obtain ⟨c1, c2⟩ := set_cells box' 3 vi'
  have K2 : Kept (fun k => k = rb) w' (w'.setCell ⟨rb, 3, none⟩ vi') := Kept.setCell _ w' rb 3 vi' rfl
  have hrb : ∀ {g : Nat} {cs : Array Value} {t : TypeId}, w.heap[g]? = some (.cells cs t (0, 0)) → t ≠ 49 → g ≠ rb := fun {g cs t} hc ht e => by
    subst e; rw [h.box] at hc; simp at hc; exact ht hc.2.symm
  have inat' : InAt w' ib v s := h.inat.kept K1 (fun k hk e => by obtain ⟨cur, hc⟩ := rowI_old h.row e; exact h.inat.otherT hc (by decide) (by decide) hk)
  have hnrb : ¬ Mine ib v rb := h.inat.otherT h.box (by decide) (by decide)
  refine ⟨⟨inat'.kept K2 (fun k hk e => hnrb (e ▸ hk)), by rw [c1]; simp, ?_, fun q hq => ?_, fun q hq => ?_⟩, ?_, ?_, by simp [World.cell?, box'], by simp [World.frozen?, box'], (Array.getElem?_eq_some_iff.1 box').1⟩
  · have hr2 : w'.ownsRow 0 54 3 vi' (P ++ [p]).length (flatI (P ++ [p])) := by
      rw [flatI_append, List.length_append]
      simpa [flatI] using hr
    refine rowI_kept hr2 K2 (fun g hg e => ?_)
    obtain ⟨cur, hc⟩ := rowI_old hr2 hg
    subst e
    rw [box'] at hc
    simp at hc
  · have ho : Own w 0 q.2 q.1.body := by
      rcases List.mem_append.1 hq with e | e
      · exact h.bod q e
      · simp at e; subst e; exact hp
    refine (ho.kept K1 (hown ho)).kept K2 (fun k hk e => ?_)
    obtain ⟨cur, hc⟩ := rowI_old (m := 1) ho hk
    exact hrb hc (by decide) e
  · rcases List.mem_append.1 hq with e | e
    · exact h.apt q e
    · simp at e; subst e; exact hap
  · exact (K1.mono (fun k _ e => Or.inr (.inr (.inl e)))).trans (K2.mono (fun k _ e => Or.inl e))
  · rintro k (e | e | e | ⟨q, hq, e⟩)
    · exact .inl (.inl e)
    · exact .inl (.inr (.inl e))
    · rcases hat with h1 | h1
      · exact .inl (.inr (.inr (.inl (h1.trans e))))
      · exact .inr (Nat.le_trans h0 (h1 k e))
    · rcases List.mem_append.1 hq with e2 | e2
      · exact .inl (.inr (.inr (.inr ⟨q, e2, e⟩)))
      · simp at e2; subst e2; exact .inr (hnew k e)
/-- A line more. -/
theorem RdAt.lines {w : World} {rb ib : Nat} {asz : Option Addr} {csz : Nat} {sz : List Int} {v : Value} {s : In} {n : Nat} {vi : Value} {P : List (Told × Value)} (h : RdAt w rb ib asz csz sz v s n vi P) (m : Nat) :
    RdAt (w.setCell ⟨rb, 2, none⟩ (.int .i64 (m : Int))) rb ib asz csz sz v s m vi P ∧ Turned w (w.setCell ⟨rb, 2, none⟩ (.int .i64 (m : Int))) rb ib v vi P v vi P := by
  obtain ⟨c1, c2⟩ := set_cells h.box 2 (.int .i64 (m : Int))
  have K2 : Kept (fun k => k = rb) w (w.setCell ⟨rb, 2, none⟩ (.int .i64 (m : Int))) := Kept.setCell _ w rb 2 _ rfl
  have hnrb : ¬ Mine ib v rb := h.inat.otherT h.box (by decide) (by decide)
  refine ⟨⟨h.inat.kept K2 (fun k hk e => hnrb (e ▸ hk)), by rw [c1]; simp, rowI_kept h.row K2 (fun g hg e => ?_), fun p hp => (h.bod p hp).kept K2 (fun k hk e => ?_), h.apt⟩, K2.mono (fun k _ e => .inl e), fun _ e => .inl e⟩
  · obtain ⟨cur, hc⟩ := rowI_old h.row hg
    subst e; rw [h.box] at hc; simp at hc
  · obtain ⟨cur, hc⟩ := rowI_old (m := 1) (h.bod p hp) hk
    subst e; rw [h.box] at hc; simp at hc
end Go.Proofs.Ytabpicbhhplcgaa
