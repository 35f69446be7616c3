/-
  What holds between the rounds of while.
-/
import Derived.Test.YtccpaapbgdpghaaNest
import Derived.Test.YtccpaapbgdpghaaPick
namespace Go.Proofs.Ytccpaapbgdpghaa
open Go.RowKit

/-- The law's own blocks: they lie between lo and C. -/
structure WlL (lo C qb rb rc bp bx rx cl ba cb bi : Nat) (X Y : Int) (J : Int) (vt2 vh2 : Value) (T H : List Int) (n : Nat) (W : World) : Prop where
  box : boxedI W cb qb
  r : RefAt lo W rc J vt2 vh2 T H
  xp : W.heap[bp]? = some (.cells #[.pointer (some ⟨qb, 0, none⟩), .pointer (some ⟨rb, 0, none⟩)] 36 (0, 0))
  xx : W.heap[bx]? = some (.cells #[.int .i64 X] 3 (0, 0))
  xres : W.heap[rx]? = some (.cells #[.bool false] 4 (0, 0))
  xcl : W.heap[cl]? = some (.cells #[.pointer (some ⟨rc, 0, none⟩)] 31 (0, 0))
  xba : W.heap[ba]? = some (.cells #[.int .i64 Y] 3 (0, 0))
  xbi : W.heap[bi]? = some (.cells #[.int .i64 (n : Int)] 3 (0, 0))
  own : ∀ k, RMine rc vt2 vh2 k → lo ≤ k ∧ k < cb
  notI : ∀ k, RMine rc vt2 vh2 k → k < bi
  lo1 : lo ≤ bp ∧ bp < bx ∧ bx < rx ∧ rx < cl ∧ cl < ba ∧ ba < bi ∧ bi < cb ∧ cb < C
theorem WlL.kept {lo C qb rb rc bp bx rx cl ba cb bi : Nat} {X Y : Int} {J : Int} {vt2 vh2 : Value} {T H : List Int} {n : Nat} {W W' : World} (h : WlL lo C qb rb rc bp bx rx cl ba cb bi X Y J vt2 vh2 T H n W) {P : Nat → Prop} (hk : Kept P W W') (hP : ∀ k, lo ≤ k → k < C → ¬ P k) : WlL lo C qb rb rc bp bx rx cl ba cb bi X Y J vt2 vh2 T H n W' := by
  obtain ⟨l1, l2, l3, l4, l5, l6, l7, l8⟩ := h.lo1
  exact ⟨(hk.block _ (Array.getElem?_eq_some_iff.1 h.box).1 (hP _ (by omega) (by omega))).trans h.box, h.r.kept hk (fun k hM => hP k (h.own k hM).1 (by have := (h.own k hM).2; omega)), (hk.block _ (Array.getElem?_eq_some_iff.1 h.xp).1 (hP _ (by omega) (by omega))).trans h.xp, (hk.block _ (Array.getElem?_eq_some_iff.1 h.xx).1 (hP _ (by omega) (by omega))).trans h.xx, (hk.block _ (Array.getElem?_eq_some_iff.1 h.xres).1 (hP _ (by omega) (by omega))).trans h.xres, (hk.block _ (Array.getElem?_eq_some_iff.1 h.xcl).1 (hP _ (by omega) (by omega))).trans h.xcl, (hk.block _ (Array.getElem?_eq_some_iff.1 h.xba).1 (hP _ (by omega) (by omega))).trans h.xba, (hk.block _ (Array.getElem?_eq_some_iff.1 h.xbi).1 (hP _ (by omega) (by omega))).trans h.xbi, h.own, h.notI, h.lo1⟩
/-- The two queues meanwhile. -/
structure WlS (w : World) (B C qb mb rb : Nat) (R : List Stand) (vt vh : Value) (S : Nat) (g : Int) (R' : List Stand) (T' H' : List Int) (vt' vh' : Value) (W : World) : Prop where
  q : QueueAtI W qb mb g R'
  r : RefAt B W rb g vt' vh' T' H'
  al : Alike R' T' H'
  sz : R'.length ≤ S
  frQ : ∀ k, Mine qb mb R' k → Mine qb mb R k ∨ C ≤ k
  frR : ∀ k, RMine rb vt' vh' k → RMine rb vt vh k ∨ C ≤ k
  kp : Kept (fun k => Mine qb mb R k ∨ RMine rb vt vh k) w W
  big : C ≤ W.heap.size ∧ B ≤ w.heap.size ∧ w.heap.size ≤ C ∧ (∀ k, Mine qb mb R k → k < w.heap.size) ∧ (∀ k, RMine rb vt vh k → k < w.heap.size)
theorem WlS.out {w : World} {B C qb mb rb : Nat} {R : List Stand} {vt vh : Value} {S : Nat} {g : Int} {R' : List Stand} {T' H' : List Int} {vt' vh' : Value} {W : World} (h : WlS w B C qb mb rb R vt vh S g R' T' H' vt' vh' W) (k : Nat) (h1 : w.heap.size ≤ k) (h2 : k < C) : ¬ (Mine qb mb R' k ∨ RMine rb vt' vh' k) := by
  rintro (e | e)
  · rcases h.frQ k e with e | e
    · have := h.big.2.2.2.1 k e; omega
    · omega
  · rcases h.frR k e with e | e
    · have := h.big.2.2.2.2 k e; omega
    · omega
/-- What turned at most these two, turned nothing else of the first world. -/
theorem WlS.kept {w : World} {B C qb mb rb : Nat} {R : List Stand} {vt vh : Value} {S : Nat} {g : Int} {R' : List Stand} {T' H' : List Int} {vt' vh' : Value} {W W' : World} (h : WlS w B C qb mb rb R vt vh S g R' T' H' vt' vh' W) (hk : Kept (fun k => Mine qb mb R' k ∨ RMine rb vt' vh' k) W W') : Kept (fun k => Mine qb mb R k ∨ RMine rb vt vh k) w W' :=
  h.kp.step hk (fun k hlt e => by
    have hC := h.big.2.2.1
    rcases e with e | e
    · rcases h.frQ k e with e | e
      · exact .inl e
      · omega
    · rcases h.frR k e with e | e
      · exact .inr e
      · omega)
theorem WlS.below {w : World} {B C qb mb rb : Nat} {R : List Stand} {vt vh : Value} {S : Nat} {g : Int} {R' : List Stand} {T' H' : List Int} {vt' vh' : Value} {W W' : World} (h : WlS w B C qb mb rb R vt vh S g R' T' H' vt' vh' W) (hb : Below W.heap.size W W') : WlS w B C qb mb rb R vt vh S g R' T' H' vt' vh' W' :=
  ⟨h.q.keptQ (P := fun _ => False) (Kept.ofBelow hb) (fun _ _ h => h), h.r.below hb, h.al, h.sz, h.frQ, h.frR, h.kp.trans (Kept.mono (P := fun _ => False) (Kept.ofBelow hb) (fun _ _ h => False.elim h)), Nat.le_trans h.big.1 hb.size, h.big.2⟩
/-- One leaves both. -/
theorem WlS.left {w : World} {B C qb mb rb : Nat} {R : List Stand} {vt vh : Value} {S : Nat} {g : Int} {R' : List Stand} {T' H' : List Int} {vt' vh' : Value} {W W' : World} {t : Int} {vt2 vh2 : Value} (h : WlS w B C qb mb rb R vt vh S g R' T' H' vt' vh' W) (hq : QueueAtI W' qb mb g (R'.filter (fun r => r.tk != t))) (hr : RefAt B W' rb g vt2 vh2 (refRest T' T' t) (refRest T' H' t)) (ha : Alike (R'.filter (fun r => r.tk != t)) (refRest T' T' t) (refRest T' H' t)) (hk : Kept (fun k => Mine qb mb (R'.filter (fun r => r.tk != t)) k ∨ RMine rb vt' vh' k) W W') (hf : ∀ k, RMine rb vt2 vh2 k → RMine rb vt' vh' k ∨ W.heap.size ≤ k) :
    WlS w B C qb mb rb R vt vh S g (R'.filter (fun r => r.tk != t)) (refRest T' T' t) (refRest T' H' t) vt2 vh2 W' :=
  ⟨hq, hr, ha, Nat.le_trans (List.length_filter_le _ _) h.sz, fun k e => h.frQ k (mine_filter e), fun k e => (hf k e).elim (h.frR k) (fun e => .inr (Nat.le_trans h.big.1 e)), h.kept (hk.mono fun _ _ e => e.imp mine_filter id), Nat.le_trans h.big.1 hk.size, h.big.2⟩
/-- One joins both. -/
theorem WlS.joined {w : World} {B C qb mb rb : Nat} {R : List Stand} {vt vh : Value} {S : Nat} {g x : Int} {R' : List Stand} {T' H' : List Int} {vt' vh' : Value} {W W1 W' : World} {vt2 vh2 : Value} (h : WlS w B C qb mb rb R vt vh S g R' T' H' vt' vh' W) (hq : QueueAtI W1 qb mb (g + 1) (R' ++ [⟨W.heap.size, g + 1, .int .i64 x⟩])) (h1 : Kept (Mine qb mb R') W W1) (hr : RefAt B W' rb (g + 1) vt2 vh2 (T' ++ [g + 1]) (H' ++ [x])) (hk : Kept (RMine rb vt' vh') W1 W') (hf : ∀ k, RMine rb vt2 vh2 k → RMine rb vt' vh' k ∨ W1.heap.size ≤ k) (hr1 : RefAt B W1 rb g vt' vh' T' H') :
    WlS w B C qb mb rb R vt vh (S + 1) (g + 1) (R' ++ [⟨W.heap.size, g + 1, .int .i64 x⟩]) (T' ++ [g + 1]) (H' ++ [x]) vt2 vh2 W' := by
  refine ⟨hq.keptQ hk (fun k hM e => apart_QR hq.part hr1 e hM), hr, ⟨?_, ?_⟩, ?_, fun k e => ?_, fun k e => ?_, h.kept ((h1.mono fun k _ e => .inl e).trans (hk.mono fun k _ e => .inr e)), Nat.le_trans h.big.1 (Nat.le_trans h1.size hk.size), h.big.2⟩
  · rw [List.map_append, h.al.tk]; rfl
  · rw [List.map_append, List.map_append, h.al.vs]; rfl
  · have := h.sz
    simp
    omega
  · rcases e with e | e | ⟨r, hr, e⟩
    · exact h.frQ k (.inl e)
    · exact h.frQ k (.inr (.inl e))
    · rcases List.mem_append.1 hr with hr | hr
      · exact h.frQ k (.inr (.inr ⟨r, hr, e⟩))
      · simp at hr
        subst hr
        refine .inr ?_
        rw [← e]
        exact h.big.1
  · rcases hf k e with e | e
    · exact h.frR k e
    · exact .inr (Nat.le_trans h.big.1 (Nat.le_trans h1.size e))
theorem WlS.own {w : World} {B C qb mb rb : Nat} {R : List Stand} {vt vh : Value} {S : Nat} {g : Int} {R' : List Stand} {T' H' : List Int} {vt' vh' : Value} {W W' : World} {row : Option Nat} (h : WlS w B C qb mb rb R vt vh S g R' T' H' vt' vh' W) (hm : mb < C) (hg : W.grownBy W' row) (hr : ∀ r, row = some r → C ≤ r ∧ ∃ o : Obj, W.heap[r]? = some o ∧ o.isCells = false) : WlS w B C qb mb rb R vt vh S g R' T' H' vt' vh' W' := by
  have hk := kept_row hg
  refine ⟨h.q.own hm hg hr, h.r.kept hk (fun k hM => ?_), h.al, h.sz, h.frQ, h.frR, h.kp.step hk (fun k hlt e => ?_), Nat.le_trans h.big.1 hk.size, h.big.2⟩
  · rcases hM with rfl | e | e
    · exact not_cellsQ h.r.box hr
    · obtain ⟨c, hc, _⟩ := h.r.rt.block e
      exact not_cellsQ hc hr
    · obtain ⟨c, hc, _⟩ := h.r.rh.block e
      exact not_cellsQ hc hr
  · have := (hr k e).1
    have := h.big.2.2.1
    omega
theorem WlL.own' {lo C qb rb rc bp bx rx cl ba cb bi : Nat} {X Y : Int} {J : Int} {vt2 vh2 : Value} {T H : List Int} {n : Nat} {W W' : World} {row : Option Nat} (h : WlL lo C qb rb rc bp bx rx cl ba cb bi X Y J vt2 vh2 T H n W) (hg : W.grownBy W' row) (hr : ∀ r, row = some r → C ≤ r ∧ ∃ o : Obj, W.heap[r]? = some o ∧ o.isCells = false) : WlL lo C qb rb rc bp bx rx cl ba cb bi X Y J vt2 vh2 T H n W' :=
  h.kept (kept_row hg) (fun k _ h2 e => by have := (hr k e).1; omega)
/-- Between the rounds. -/
def WlInv (w : World) (B C qb mb rb : Nat) (given : Int) (R : List Stand) (vt vh : Value) (a : Nat) (n : Nat) (W : World) : Prop :=
  ∃ S g R' T' H' vt' vh', WlS w B C qb mb rb R vt vh S g R' T' H' vt' vh' W ∧ S ≤ R.length + 1 ∧ g ≤ given + 1 ∧ (n ≤ a → S = R.length ∧ g = given)
theorem WlL.step {lo C qb rb rc bp bx rx cl ba cb bi : Nat} {X Y : Int} {J : Int} {vt2 vh2 : Value} {T H : List Int} {n : Nat} {W W' : World} (h : WlL lo C qb rb rc bp bx rx cl ba cb bi X Y J vt2 vh2 T H n W) (hk : Kept (fun k => k = bi) W W') (hx : W'.heap[bi]? = some (.cells #[.int .i64 ((n : Int) + 1)] 3 (0, 0))) : WlL lo C qb rb rc bp bx rx cl ba cb bi X Y J vt2 vh2 T H (n + 1) W' := by
  obtain ⟨l1, l2, l3, l4, l5, l6, l7, l8⟩ := h.lo1
  exact ⟨(hk.block _ (Array.getElem?_eq_some_iff.1 h.box).1 (fun e => by omega)).trans h.box, h.r.kept hk (fun k hM e => by have := h.notI k hM; omega), (hk.block _ (Array.getElem?_eq_some_iff.1 h.xp).1 (fun e => by omega)).trans h.xp, (hk.block _ (Array.getElem?_eq_some_iff.1 h.xx).1 (fun e => by omega)).trans h.xx, (hk.block _ (Array.getElem?_eq_some_iff.1 h.xres).1 (fun e => by omega)).trans h.xres, (hk.block _ (Array.getElem?_eq_some_iff.1 h.xcl).1 (fun e => by omega)).trans h.xcl, (hk.block _ (Array.getElem?_eq_some_iff.1 h.xba).1 (fun e => by omega)).trans h.xba, by rw [hx]; simp, h.own, h.notI, h.lo1⟩
theorem WlS.tick {w : World} {B C qb mb rb bi : Nat} {R : List Stand} {vt vh : Value} {S : Nat} {g : Int} {R' : List Stand} {T' H' : List Int} {vt' vh' : Value} {W W' : World} (h : WlS w B C qb mb rb R vt vh S g R' T' H' vt' vh' W) (hk : Kept (fun k => k = bi) W W') (h1 : w.heap.size ≤ bi) (h2 : bi < C) : WlS w B C qb mb rb R vt vh S g R' T' H' vt' vh' W' :=
  ⟨h.q.keptQ hk (fun k hM e => h.out k (by omega) (by omega) (.inl hM)), h.r.kept hk (fun k hM e => h.out k (by omega) (by omega) (.inr hM)), h.al, h.sz, h.frQ, h.frR, h.kp.step hk (fun k hlt e => by omega), Nat.le_trans h.big.1 hk.size, h.big.2⟩
end Go.Proofs.Ytccpaapbgdpghaa
