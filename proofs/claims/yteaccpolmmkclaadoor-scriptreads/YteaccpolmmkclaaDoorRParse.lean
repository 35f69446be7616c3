/-
  The document's Parse.
-/
import Derived.Test.YteaccpolmmkclaaDoorRfS
import Derived.Test.YteaccpolmmkclaaDoorRfH
import Derived.Test.YteaccpolmmkclaaDoorParseS
namespace Go.Proofs.YteaccpolmmkclaaDoor
open Go.RowKit Go.Lib

theorem results_ctt_row {P : Program} {fn : Func} {p u v : Tmp} {ty : TypeId} (h : fn.results = #[.cell p ty, .tmp u, .tmp v]) (tmps : Array Value) (w : World) (g : Nat) (t : TypeId) (cs : Array Value) (fr : Nat × Nat) (d : TypeDesc) (y z : Value)
    (hp : tmps.getD p undef = .pointer (some ⟨g, 0, none⟩)) (hy : tmps.getD u undef = y) (hz : tmps.getD v undef = z) (hg : w.heap[g]? = some (.cells cs t fr)) (hu : P.underlying ty = some d) (hd : (match d with | .struct _ | .array _ _ => true | _ => false) = true) (hi : (P.info? ty).map (·.size) = some cs.size) :
    (results fn tmps).run P w = .ok (.tuple #[.agg cs, y, z]) w := by
  have hp' : tmps[p]?.getD undef = .pointer (some ⟨g, 0, none⟩) := by simpa using hp
  subst hy hz
  simp only [results, h]
  simp [Result.andThen, hp', asAddr, run_loadVar_row w g t ty cs fr d hg hu hd hi]
/-- Where the document's Parse is. -/
structure PJ (w X : World) (st : Rd) (sv lv : Value) (l : List Sq) (ss : List ByteArray) : Prop where
  low : Below w.heap.size w X
  ret : X.heap[w.heap.size]? = some (.cells #[.int .i64 0, .int .i64 0, .int .i64 0, .slice none 0 0] 31 (0, 0))
  box : X.heap[w.heap.size + 1]? = some (.cells #[.int .i64 st.j, .int .i64 st.s, .int .i64 st.q, sv] 31 (0, 0))
  stp : StepsAt X w.heap.size sv l
  eq : l.map (·.p) = st.steps
  few : l.length ≤ 4000
  row : X.ownsRow w.heap.size 9 1 lv ss.length (ss.map Value.string)
section
variable {w X Y : World} {st : Rd} {sv lv : Value} {l : List Sq} {ss : List ByteArray} {t : Tx}
theorem PJ.big (h : PJ w X st sv lv l ss) : w.heap.size + 1 < X.heap.size := (Array.getElem?_eq_some_iff.1 h.box).1
theorem PJ.later (h : PJ w X st sv lv l ss) (hb : Below X.heap.size X Y) : PJ w Y st sv lv l ss := by
  have := h.big
  refine ⟨h.low.trans (hb.mono h.low.size), (hb.block _ (by omega)).trans h.ret, (hb.block _ (by omega)).trans h.box, ?_, h.eq, h.few, Kept.own (P := fun _ => False) (Kept.ofBelow hb) h.row (fun _ _ h => h)⟩
  exact h.stp.kept (P := fun _ => False) (Kept.ofBelow hb) (fun _ _ h => h) (fun _ _ => ⟨fun _ _ h => h, fun _ _ h => h⟩)
theorem PJ.cell (h : PJ w X st sv lv l ss) (i : Nat) : X.cell? ⟨w.heap.size + 1, i, none⟩ = (#[.int .i64 st.j, .int .i64 st.s, .int .i64 st.q, sv] : Array Value)[i]? ∧ X.frozen? ⟨w.heap.size + 1, i, none⟩ = false := by
  simp [World.cell?, World.frozen?, h.box]
/-- The config is set. -/
theorem PJ.config (h : PJ w X st sv lv l ss) (a b c : Int) : PJ w (((X.setCell ⟨w.heap.size + 1, 0, none⟩ (.int .i64 a)).setCell ⟨w.heap.size + 1, 1, none⟩ (.int .i64 b)).setCell ⟨w.heap.size + 1, 2, none⟩ (.int .i64 c)) { st with hd := true, j := a, s := b, q := c } sv lv l ss := by
  have k1 : Kept (fun j => j = w.heap.size + 1) X (X.setCell ⟨w.heap.size + 1, 0, none⟩ (.int .i64 a)) := Kept.setCell _ _ _ _ _ rfl
  have k2 : Kept (fun j => j = w.heap.size + 1) (X.setCell ⟨w.heap.size + 1, 0, none⟩ (.int .i64 a)) ((X.setCell ⟨w.heap.size + 1, 0, none⟩ (.int .i64 a)).setCell ⟨w.heap.size + 1, 1, none⟩ (.int .i64 b)) := Kept.setCell _ _ _ _ _ rfl
  have k3 : Kept (fun j => j = w.heap.size + 1) ((X.setCell ⟨w.heap.size + 1, 0, none⟩ (.int .i64 a)).setCell ⟨w.heap.size + 1, 1, none⟩ (.int .i64 b)) (((X.setCell ⟨w.heap.size + 1, 0, none⟩ (.int .i64 a)).setCell ⟨w.heap.size + 1, 1, none⟩ (.int .i64 b)).setCell ⟨w.heap.size + 1, 2, none⟩ (.int .i64 c)) := Kept.setCell _ _ _ _ _ rfl
  have kk := (k1.trans k2).trans k3
  have hb := h.big
  have np : ∀ {g : Nat} {t : TypeId} {cur : Array Value}, X.heap[g]? = some (.cells cur t (0, 0)) → t ≠ 31 → ¬ g = w.heap.size + 1 := fun {g t cur} hc ht e => by
    subst e
    rw [h.box] at hc
    simp at hc
    exact ht hc.2.symm
  refine ⟨h.low.trans (kk.below h.low.size (fun j hj e => by omega)), (kk.block _ (by omega) (by omega)).trans h.ret, (set_cells (set_cells (set_cells h.box 0 _).1 1 _).1 2 _).1, ?_, h.eq, h.few, Kept.own kk h.row (fun g hg => ?_)⟩
  · refine h.stp.kept kk (fun g hg => ?_) (fun q hq => ⟨fun g hg => ?_, fun g hg => ?_⟩)
    · obtain ⟨cur, hc⟩ := row5_type h.stp.1 hg
      exact np hc (by decide)
    · obtain ⟨cur, hc⟩ := row_of_type (h.stp.2 q hq).1 hg
      exact np hc (by decide)
    · obtain ⟨cur, hc⟩ := row_of_type (h.stp.2 q hq).2 hg
      exact np hc (by decide)
  · obtain ⟨cur, hc⟩ := row_of_type h.row hg
    exact np hc (by decide)
/-- An error. -/
theorem PJ.bad (h : PJ w X st sv lv l ss) {n c : Int} (hp : parseP t = (rd0, n, c)) : ParsePost w t (.returned (.tuple #[.agg #[.int .i64 0, .int .i64 0, .int .i64 0, .slice none 0 0], .int .i64 n, .int .i64 c])) (X.setRow w.heap.size #[.int .i64 0, .int .i64 0, .int .i64 0, .slice none 0 0]) := by
  refine ⟨below_setRow h.low (Nat.le_refl _) _, .slice none 0 0, [], by rw [hp]; rfl, ⟨World.ownsRow_nil _ _ _ _, fun q hq => by cases hq⟩, by rw [hp]; rfl⟩
end
theorem box_cells {X : World} {b : Nat} {c0 c1 c2 c3 c4 : Value} {t : TypeId} (h : X.heap[b]? = some (.cells #[c0, c1, c2, c3, c4] t (0, 0))) : X.cell? ⟨b, 0, none⟩ = some c0 ∧ X.cell? ⟨b, 1, none⟩ = some c1 ∧ X.cell? ⟨b, 2, none⟩ = some c2 ∧ X.cell? ⟨b, 3, none⟩ = some c3 ∧ X.cell? ⟨b, 4, none⟩ = some c4 ∧ ∀ i, X.frozen? ⟨b, i, none⟩ = false := by
  simp [World.cell?, World.frozen?, h]
/-- What the document's step gave. -/
def StepRows (w5 X : World) (k cn bk : Int) (ad : Option Addr) (nd cd : Nat) (ak : Option Addr) (nk ck : Nat) (ok : Bool) (l : List Tx) : Prop :=
  (ok = true ∧ ∃ p : StepP, stepK k l = some p ∧ p.kind = k ∧ p.conn = cn ∧ p.brk = bk ∧ nd = p.data.length ∧ nk = p.keep.length ∧ Own X w5.heap.size (.slice ad nd cd) p.data ∧ OwnI X w5.heap.size (.slice ak nk ck) p.keep) ∨ (ok = false ∧ stepK k l = none)
theorem step_rows {w5 X Y : World} {k cn bk : Int} {ad : Option Addr} {nd cd : Nat} {ak : Option Addr} {nk ck : Nat} {ok : Bool} {l : List Tx} (hs : w5.heap.size ≤ Y.heap.size)
    (h : (ok = true ∧ ∃ p : StepP, stepK k l = some p ∧ p.kind = k ∧ p.conn = cn ∧ p.brk = bk ∧ nd = p.data.length ∧ nk = p.keep.length ∧ Own X Y.heap.size (.slice ad nd cd) p.data ∧ OwnI X Y.heap.size (.slice ak nk ck) p.keep) ∨ (ok = false ∧ stepK k l = none)) : StepRows w5 X k cn bk ad nd cd ak nk ck ok l := by
  rcases h with ⟨h1, p, h2, h3, h4, h5, h6, h7, h8, h9⟩ | h
  · exact .inl ⟨h1, p, h2, h3, h4, h5, h6, h7, h8.mono hs, h9.mono hs⟩
  · exact .inr h
structure StepGot (w5 X : World) (k : Int) (bx : Nat) (cn bk : Int) (ad : Option Addr) (nd cd : Nat) (ak : Option Addr) (nk ck : Nat) (ok : Bool) (l : List Tx) : Prop where
  low : Below w5.heap.size w5 X
  box : X.heap[bx]? = some (.cells #[.int .i64 k, .int .i64 cn, .slice ad nd cd, .int .i64 bk, .slice ak nk ck] 40 (0, 0))
  new : w5.heap.size ≤ bx
  rows : StepRows w5 X k cn bk ad nd cd ak nk ck ok l
theorem got_new {w5 X : World} {k cn bk : Int} {ad : Option Addr} {nd cd : Nat} {ak : Option Addr} {nk ck : Nat} {ok : Bool} {l : List Tx} (hb : Below w5.heap.size w5 X) (h : StepRows w5 X k cn bk ad nd cd ak nk ck ok l) :
    StepGot w5 (X.alloc (.cells #[.int .i64 k, .int .i64 cn, .slice ad nd cd, .int .i64 bk, .slice ak nk ck] 40)) k X.heap.size cn bk ad nd cd ak nk ck ok l := by
  have al : Below X.heap.size X (X.alloc (.cells #[.int .i64 k, .int .i64 cn, .slice ad nd cd, .int .i64 bk, .slice ak nk ck] 40)) := (Below.refl _ X).alloc (Nat.le_refl _) _
  refine ⟨hb.trans (al.mono hb.size), heap_alloc_new X _, hb.size, ?_⟩
  rcases h with ⟨h1, p, h2, h3, h4, h5, h6, h7, h8, h9⟩ | h
  · exact .inl ⟨h1, p, h2, h3, h4, h5, h6, h7, h8.below al, h9.below al⟩
  · exact .inr h
theorem got_set {w5 X : World} {k cn bk : Int} {bx : Nat} {c0 c1 c2 c3 c4 : Value} {ad : Option Addr} {nd cd : Nat} {ak : Option Addr} {nk ck : Nat} {ok : Bool} {l : List Tx} (hb : Below w5.heap.size w5 X) (h : StepRows w5 X k cn bk ad nd cd ak nk ck ok l) (hz : X.heap[bx]? = some (.cells #[c0, c1, c2, c3, c4] 40 (0, 0))) (hx : w5.heap.size ≤ bx) :
    StepGot w5 (((((X.setCell ⟨bx, 0, none⟩ (.int .i64 k)).setCell ⟨bx, 1, none⟩ (.int .i64 cn)).setCell ⟨bx, 2, none⟩ (.slice ad nd cd)).setCell ⟨bx, 3, none⟩ (.int .i64 bk)).setCell ⟨bx, 4, none⟩ (.slice ak nk ck)) k bx cn bk ad nd cd ak nk ck ok l := by
  have kk : Kept (fun j => j = bx) X (((((X.setCell ⟨bx, 0, none⟩ (.int .i64 k)).setCell ⟨bx, 1, none⟩ (.int .i64 cn)).setCell ⟨bx, 2, none⟩ (.slice ad nd cd)).setCell ⟨bx, 3, none⟩ (.int .i64 bk)).setCell ⟨bx, 4, none⟩ (.slice ak nk ck)) :=
    ((((Kept.setCell (fun j => j = bx) _ _ _ _ rfl).trans (Kept.setCell (fun j => j = bx) _ _ _ _ rfl)).trans (Kept.setCell (fun j => j = bx) _ _ _ _ rfl)).trans (Kept.setCell (fun j => j = bx) _ _ _ _ rfl)).trans (Kept.setCell (fun j => j = bx) _ _ _ _ rfl)
  have np : ∀ {g : Nat} {t : TypeId} {cur : Array Value}, X.heap[g]? = some (.cells cur t (0, 0)) → t ≠ 40 → ¬ g = bx := fun {g t cur} hc ht e => by
    subst e
    rw [hz] at hc
    simp at hc
    exact ht hc.2.symm
  refine ⟨hb.trans (kk.below hb.size (fun j hj e => by omega)), (set_cells (set_cells (set_cells (set_cells (set_cells hz 0 _).1 1 _).1 2 _).1 3 _).1 4 _).1, hx, ?_⟩
  rcases h with ⟨h1, p, h2, h3, h4, h5, h6, h7, h8, h9⟩ | h
  · refine .inl ⟨h1, p, h2, h3, h4, h5, h6, h7, Kept.own kk h8 (fun g hg => ?_), Kept.own kk h9 (fun g hg => ?_)⟩
    · obtain ⟨cur, hc⟩ := row_of_type h8 hg
      exact np hc (by decide)
    · obtain ⟨cur, hc⟩ := row_of_type h9 hg
      exact np hc (by decide)
  · exact .inr h
theorem PJ.boxq {w X Y : World} {st : Rd} {sv lv : Value} {l : List Sq} {ss : List ByteArray} (h : PJ w X st sv lv l ss) (hg : X.grownBy Y sv.ownBlock) : Y.heap[w.heap.size + 1]? = some (.cells #[.int .i64 st.j, .int .i64 st.s, .int .i64 st.q, sv] 31 (0, 0)) := by
  refine (hg.block _ h.big (fun e => ?_)).trans h.box
  obtain ⟨cur, h9⟩ := row5_type h.stp.1 e.symm
  rw [h.box] at h9
  simp at h9
/-- One step more. -/
theorem PJ.step {w X Y : World} {st : Rd} {sv lv v' : Value} {l : List Sq} {ss : List ByteArray} {q : Sq} (h : PJ w X st sv lv l ss) (hr : Y.ownsRow w.heap.size 40 5 v' (l ++ [q]).length (flatS (l ++ [q]))) (hg : X.grownBy Y sv.ownBlock) (h1 : Own X w.heap.size q.dv q.p.data) (h2 : OwnI X w.heap.size q.kv q.p.keep) (hl : l.length < 4000) :
    PJ w (Y.setCell ⟨w.heap.size + 1, 3, none⟩ v') { st with hd := true, steps := st.steps ++ [q.p] } v' lv (l ++ [q]) ss := by
  have kg : Kept (fun i => sv.ownBlock = some i) X Y := Kept.ofGrown hg (fun g e => e)
  have hst : ∀ g, sv.ownBlock = some g → ∃ cur, X.heap[g]? = some (.cells cur 40 (0, 0)) := fun g e => row5_type h.stp.1 e
  have np : ∀ {g : Nat} {t : TypeId} {cs : Array Value}, X.heap[g]? = some (.cells cs t (0, 0)) → t ≠ 40 → ¬ sv.ownBlock = some g := fun {g t cs} hc ht e => by
    obtain ⟨cur, h9⟩ := hst g e
    rw [hc] at h9
    simp at h9
    exact ht h9.2
  have hbq := h.boxq hg
  have ks : Kept (fun i => i = w.heap.size + 1) Y (Y.setCell ⟨w.heap.size + 1, 3, none⟩ v') := Kept.setCell _ _ _ _ _ rfl
  have np2 : ∀ {g : Nat} {t : TypeId} {cs : Array Value}, Y.heap[g]? = some (.cells cs t (0, 0)) → t ≠ 31 → ¬ g = w.heap.size + 1 := fun {g t cs} hc ht e => by
    subst e
    rw [hbq] at hc
    simp at hc
    exact ht hc.2.symm
  have hb := h.big
  have hz := h.low.size
  have s9 := kg.size
  have o8 : ∀ (v : Value) (x : List UInt8), Own X w.heap.size v x → Own (Y.setCell ⟨w.heap.size + 1, 3, none⟩ v') w.heap.size v x := fun v x hx => by
    have a1 : Own Y w.heap.size v x := Kept.own kg hx (fun g e => by obtain ⟨c, hc⟩ := row_of_type hx e; exact np hc (by decide))
    exact Kept.own ks a1 (fun g e => by obtain ⟨c, hc⟩ := row_of_type a1 e; exact np2 hc (by decide))
  have o64 : ∀ (v : Value) (x : List Int), OwnI X w.heap.size v x → OwnI (Y.setCell ⟨w.heap.size + 1, 3, none⟩ v') w.heap.size v x := fun v x hx => by
    have a1 : OwnI Y w.heap.size v x := Kept.own kg hx (fun g e => by obtain ⟨c, hc⟩ := row_of_type hx e; exact np hc (by decide))
    exact Kept.own ks a1 (fun g e => by obtain ⟨c, hc⟩ := row_of_type a1 e; exact np2 hc (by decide))
  have rw1 : Y.ownsRow w.heap.size 9 1 lv ss.length (ss.map Value.string) := Kept.own kg h.row (fun g e => by obtain ⟨c, hc⟩ := row_of_type h.row e; exact np hc (by decide))
  refine ⟨(h.low.trans (kg.below hz (fun j hj e => by have := (h.stp.1.lt j e).1; omega))).trans (ks.below (by omega) (fun j hj e => by omega)), (ks.block _ (by omega) (by omega)).trans ((kg.block _ (by omega) (np h.ret (by decide))).trans h.ret), (set_cells hbq 3 v').1, ⟨?_, fun y hy => ?_⟩, by rw [List.map_append, h.eq]; rfl, by simp; omega, Kept.own ks rw1 (fun g e => by obtain ⟨c, hc⟩ := row_of_type rw1 e; exact np2 hc (by decide))⟩
  · exact row5_kept hr ks (fun g cur e hc => np2 hc (by decide) e)
  · rcases List.mem_append.1 hy with hy | hy
    · exact ⟨o8 _ _ (h.stp.2 y hy).1, o64 _ _ (h.stp.2 y hy).2⟩
    · have : y = q := by simpa using hy
      subst this
      exact ⟨o8 _ _ h1, o64 _ _ h2⟩
theorem run_error {t : Tx} {n c : Int} (hT : ¬ t.length > 1048576) (h : runP rd0 0 (linesP t) = .error (n, c)) : parseP t = (rd0, n, c) := by
  unfold parseP
  rw [if_neg hT, h]
theorem run_bad {st : Rd} {n c : Int} {x : Tx} {r : List Tx} (h : lineP st x = .error c) : runP st n (x :: r) = .error (n + 1, c) := by rw [runP, h]
theorem run_good {st st' : Rd} {n : Int} {x : Tx} {r : List Tx} (h : lineP st x = .ok st') : runP st n (x :: r) = runP st' (n + 1) r := by rw [runP, h]
theorem pj_start (w : World) : (∀ X, Below ((w.alloc (.cells #[.int .i64 0, .int .i64 0, .int .i64 0, .slice none 0 0] 31)).alloc (.cells #[.int .i64 0, .int .i64 0, .int .i64 0, .slice none 0 0] 31)).heap.size ((w.alloc (.cells #[.int .i64 0, .int .i64 0, .int .i64 0, .slice none 0 0] 31)).alloc (.cells #[.int .i64 0, .int .i64 0, .int .i64 0, .slice none 0 0] 31)) X → ∀ lv ss, X.ownsRow ((w.alloc (.cells #[.int .i64 0, .int .i64 0, .int .i64 0, .slice none 0 0] 31)).alloc (.cells #[.int .i64 0, .int .i64 0, .int .i64 0, .slice none 0 0] 31)).heap.size 9 1 lv ss.length (ss.map Value.string) → PJ w X rd0 (.slice none 0 0) lv [] ss) := by
  intro X hX lv ss hr
  have a1 := heap_alloc_new w (.cells #[.int .i64 0, .int .i64 0, .int .i64 0, .slice none 0 0] 31)
  have a2 := heap_alloc_new (w.alloc (.cells #[.int .i64 0, .int .i64 0, .int .i64 0, .slice none 0 0] 31)) (.cells #[.int .i64 0, .int .i64 0, .int .i64 0, .slice none 0 0] 31)
  rw [World.size_alloc] at a2
  have s2 : ((w.alloc (.cells #[.int .i64 0, .int .i64 0, .int .i64 0, .slice none 0 0] 31)).alloc (.cells #[.int .i64 0, .int .i64 0, .int .i64 0, .slice none 0 0] 31)).heap.size = w.heap.size + 2 := by simp
  have b2 : Below w.heap.size w ((w.alloc (.cells #[.int .i64 0, .int .i64 0, .int .i64 0, .slice none 0 0] 31)).alloc (.cells #[.int .i64 0, .int .i64 0, .int .i64 0, .slice none 0 0] 31)) := ((Below.refl _ w).alloc (Nat.le_refl _) _).alloc (by simp) _
  refine ⟨b2.trans (hX.mono (by omega)), (hX.block _ (by omega)).trans ((heap_alloc_old _ _ (by simp)).trans a1), (hX.block _ (by omega)).trans a2, ⟨World.ownsRow_nil _ _ _ _, fun q hq => by cases hq⟩, rfl, by simp, hr.1, ?_⟩
  rcases hr.2 with h0 | ⟨g, cap, cur, e, hB, rest⟩
  · exact .inl h0
  · exact .inr ⟨g, cap, cur, e, by omega, rest⟩
theorem lines_size : ∀ (t cur : Tx) (x : Tx), x ∈ linesA t cur → x.length ≤ t.length + cur.length
  | [], cur, x, h => by
    unfold linesA at h
    split at h
    · cases h
    · have : x = cur := by simpa using h
      subst this
      simp
  | c :: r, cur, x, h => by
    unfold linesA at h
    split at h
    · rcases List.mem_cons.1 h with rfl | h
      · rw [List.length_cons]; omega
      · have := lines_size r [] x h
        simp at this ⊢
        omega
    · have := lines_size r (cur ++ [c]) x h
      simp at this ⊢
      omega
set_option maxHeartbeats 8000000 in
set_option maxRecDepth 1000000 in
theorem refParse19 (s : ByteArray) (w : World) (hs : s.size ≤ 1048576) : Calls Tryd.prog 6 #[.string s] w (ParsePost w s.data.toList) := by
  have hT : ¬ s.data.toList.length > 1048576 := by rw [Array.length_toList]; have hz : s.data.size = s.size := rfl; omega
  have HT := hide hT
  have t0 : ¬ (1048576 : Int) < (s.size : Int) := by omega
  have P0 := hide (pj_start w)
  have CL := hide (refLines_any s ((w.alloc (.cells #[.int .i64 0, .int .i64 0, .int .i64 0, .slice none 0 0] 31)).alloc (.cells #[.int .i64 0, .int .i64 0, .int .i64 0, .slice none 0 0] 31)) hs)
  generalize hw2 : (w.alloc (.cells #[.int .i64 0, .int .i64 0, .int .i64 0, .slice none 0 0] 31)).alloc (.cells #[.int .i64 0, .int .i64 0, .int .i64 0, .slice none 0 0] 31) = w2 at P0 CL
  have HW := hide hw2
  clear hw2 hT
  go_enter Tryd.func6, Tryd.ntmps6
  go_upto_region 4 with fail
  rw [HW.out]
  go_wp2_with fail
  refine CL.out.mono ?_
  rintro e w3 ⟨b3, ss, gl, cap, rfl, hown, hmap, hsl⟩
  have J3 := hide (P0.out w3 b3 _ ss hown)
  have HM : Hid (ss.map (·.data.toList) = linesP s.data.toList) := hmap
  have HSZ : Hid (∀ y ∈ ss, y.size ≤ 1048576) := by
    intro y hy
    have h1 : y.data.toList ∈ linesP s.data.toList := by rw [← hmap]; exact List.mem_map.2 ⟨y, hy, rfl⟩
    have h2 := lines_size s.data.toList [] _ h1
    have h3 : y.data.toList.length = y.size := by simp
    have h4 : s.data.toList.length = s.size := by simp
    simp at h2
    omega
  obtain ⟨m, hm⟩ : ∃ m, ss.length = m := ⟨_, rfl⟩
  rw [hm]
  have HMM := hide hm
  have hm6 : m ≤ 1048576 := by omega
  have HR0 : Hid (runP rd0 0 (linesP s.data.toList) = runP rd0 ((0 : Nat) : Int) ((tls ss).drop 0)) := by
    show _ = _
    rw [← hmap]
    rfl
  clear b3 hown hmap hsl hm
  go_wp2_with fail
  go_loopg [6, 8] m (fun gk bv iv wr => ∃ (i : Nat) (st : Rd) (sv : Value) (l : List Sq), iv = .int .i64 (i : Int) ∧ bv = .bool st.hd ∧ m - i ≤ gk ∧ i ≤ m ∧ Hid (PJ w wr st sv (.slice (some ⟨gl, 0, none⟩) m cap) l ss) ∧ Hid (runP rd0 0 (linesP s.data.toList) = runP st (i : Int) ((tls ss).drop i)))
  case atStart => exact ⟨0, rd0, _, [], rfl, rfl, by omega, by omega, by rw [HMM.out] at J3; exact J3, HR0⟩
  case round =>
    obtain ⟨i, st, sv, l, rfl, rfl, hgk, hi, HJ, HR⟩ := hrel
    by_cases hlt : i < m
    · have tlt : (i : Int) < (m : Int) := by omega
      obtain ⟨y, hy⟩ : ∃ y, ss[i]? = some y := ⟨_, List.getElem?_eq_getElem (by have := HMM.out; omega)⟩
      have hys : y.size ≤ 1048576 := HSZ.out y (List.mem_of_getElem? hy)
      have hrow := HJ.out.row
      rw [HMM.out] at hrow
      have cy : wr.cell? ⟨gl, i, none⟩ = some (.string y) := by
        rw [hrow.cellAt i (by omega), List.getElem?_map, hy]
        rfl
      have hd : (tls ss).drop i = y.data.toList :: (tls ss).drop (i + 1) := by
        have hl : i < (tls ss).length := by simp [tls]; have := HMM.out; omega
        rw [List.drop_eq_getElem_cons hl]
        congr 1
        have h1 : (tls ss)[i]? = some y.data.toList := by unfold tls; rw [List.getElem?_map, hy]; rfl
        rw [List.getElem?_eq_getElem hl] at h1
        exact Option.some.inj h1
      rw [hd] at HR
      clear hrow hy hd
      cases hyl : y.data.toList with
      | nil =>
        have hse : (y.toList == []) = true := by rw [ByteArray.toList_eq, hyl]; rfl
        have HR2 : Hid (runP rd0 0 (linesP s.data.toList) = runP st ((i + 1 : Nat) : Int) ((tls ss).drop (i + 1))) := by
          show _ = _
          rw [HR.out, run_good (st' := st) (by rw [hyl]; rfl)]
          rfl
        clear hyl
        go_wp2_with fail
        go_roundg (m - (i + 1))
        case measure => omega
        case rel => exact ⟨i + 1, st, sv, l, by go_num, rfl, Nat.le_refl _, hlt, HJ, HR2⟩
      | cons c r =>
        have hse : (y.toList == []) = false := by rw [ByteArray.toList_eq, hyl]; rfl
        obtain ⟨hp, hb⟩ := first_byte hyl
        by_cases h35 : c = 35
        · have h35' : (((y[0]'hp).toNat : Int) == 35) = true := by rw [hb, h35]; rfl
          have HR2 : Hid (runP rd0 0 (linesP s.data.toList) = runP st ((i + 1 : Nat) : Int) ((tls ss).drop (i + 1))) := by
            show _ = _
            rw [HR.out, run_good (st' := st) (by rw [hyl]; unfold lineP; simp only []; rw [if_pos h35])]
            rfl
          clear hyl hb
          go_wp2_with fail
          go_roundg (m - (i + 1))
          case measure => omega
          case rel => exact ⟨i + 1, st, sv, l, by go_num, rfl, Nat.le_refl _, hlt, HJ, HR2⟩
        · have h35' : (((y[0]'hp).toNat : Int) == 35) = false := by rw [hb]; exact ne_byte h35 35 rfl
          have CS := hide (refSplit_any y wr (by omega))
          have HL : Hid (lineP st y.data.toList = match splitL y.data.toList with | none => .error 191 | some [] => .error 191 | some (x :: l) => if st.hd then (match rstepP x st.steps.length l with | .ok p => .ok { st with steps := st.steps ++ [p] } | .error e => .error e) else (match headP x l with | .ok (a, b, c) => .ok { st with hd := true, j := a, s := b, q := c } | .error e => .error e)) := by
            show _ = _
            rw [hyl]
            show (if c = 35 then _ else _) = _
            rw [if_neg h35]
            rfl
          have HYS : Hid (y.data.toList.length ≤ 1048576) := by show _ ≤ _; simpa using hys
          clear hyl hb h35
          go_wp2_with fail
          refine CS.out.mono ?_
          rintro e w4 ⟨b4, h4⟩
          have J4 := hide (HJ.out.later b4)
          have wi : IntKind.wrap .i64 ((i : Int) + 1) = (i : Int) + 1 := by rw [IntKind.wrap_i64]; omega
          rcases h4 with ⟨h5, rfl⟩ | ⟨ws, g, cp, h5, rfl, hg, ho⟩
          · have HP : Hid (parseP s.data.toList = (rd0, (i : Int) + 1, 191)) := run_error HT.out (by rw [HR.out, run_bad (c := 191) (by rw [HL.out, h5])])
            clear h5 b4 cy
            go_wp2_with (refine wpList_store_row rfl 31 (.tmp 2) (.tmp 71) rfl w.heap.size #[.int .i64 0, .int .i64 0, .int .i64 0, .slice none 0 0] rfl rfl 31 _ J4.out.ret play_size rfl play_one ?_)
            have hrow : (w4.setRow w.heap.size #[.int .i64 0, .int .i64 0, .int .i64 0, .slice none 0 0]).heap[w.heap.size]? = some (.cells #[.int .i64 0, .int .i64 0, .int .i64 0, .slice none 0 0] 31 (0, 0)) := setRow_heap _ _ _ _ _ _ J4.out.ret
            refine bodyPost_ret (results_ctt_row (P := Tryd.prog) Tryd.results6 _ _ w.heap.size 31 _ (0, 0) _ _ _ rfl rfl rfl hrow Tryd.underlying31 rfl play_size) rfl ?_
            exact J4.out.bad HP.out
          · cases ws with
            | nil => exact (split_ne h5).elim
            | cons z zs =>
            have hsz := split_sizes h5
            have hL := HYS.out
            have hwl : (z :: zs).length ≤ 1048577 := by have := hsz.1; rw [List.length_map] at this; omega
            have HZS : Hid (∀ u ∈ z :: zs, u.size ≤ 1048576) := fun u hu => by
              have h1 := hsz.2 u.data.toList (List.mem_map.2 ⟨u, hu, rfl⟩)
              have h2 : u.data.toList.length = u.size := by simp
              omega
            have hIS := IsStrs.own ho (by unfold maxLen; omega)
            have HQ1 : Hid (IsStrs w4 (some ⟨g, 1, none⟩) (cp - 1) zs) := by
              have := hIS.drop 1 (by simp)
              rw [Nat.zero_add] at this
              exact this
            have hcp : (z :: zs).length ≤ cp := hIS.1
            obtain ⟨_, _, e9, _, cz⟩ := hIS.at (i := 0) (x := z) rfl
            cases e9
            obtain ⟨n, hn⟩ : ∃ n, (z :: zs).length = n := ⟨_, rfl⟩
            have hzn : zs.length = n - 1 := by simp at hn; omega
            rw [hn] at hwl hcp ⊢
            have hn1 : 1 ≤ n := by simp at hn; omega
            have g1 : (0 : Int) < (n : Int) := by omega
            have g2 : (1 : Int) ≤ (n : Int) := by omega
            have HLZ : Hid (lineP st y.data.toList = if st.hd then (match rstepP z.data.toList st.steps.length (tls zs) with | .ok p => .ok { st with steps := st.steps ++ [p] } | .error e => .error e) else (match headP z.data.toList (tls zs) with | .ok (a, b, c) => .ok { st with hd := true, j := a, s := b, q := c } | .error e => .error e)) := by
              show _ = _
              rw [HL.out, h5]
              rfl
            have HZN := hide hzn
            clear h5 hsz hL hIS ho b4 cy hn HL hzn
            cases hhd : st.hd
            · rw [hhd] at HLZ
              by_cases hz : z.data.toList = stintW
              rotate_left
              · have hne : (z.toList == [115, 116, 105, 110, 116]) = false := by rw [eq_text]; exact decide_eq_false hz
                have HP : Hid (parseP s.data.toList = (rd0, (i : Int) + 1, 191)) := run_error HT.out (by
                  rw [HR.out, run_bad (c := 191)]
                  rw [HLZ.out, if_neg (by simp)]
                  unfold headP
                  rw [if_pos hz])
                clear hz
                go_wp2_with (refine wpList_store_row rfl 31 (.tmp 2) (.tmp 71) rfl w.heap.size #[.int .i64 0, .int .i64 0, .int .i64 0, .slice none 0 0] rfl rfl 31 _ J4.out.ret play_size rfl play_one ?_)
                have hrow : (w4.setRow w.heap.size #[.int .i64 0, .int .i64 0, .int .i64 0, .slice none 0 0]).heap[w.heap.size]? = some (.cells #[.int .i64 0, .int .i64 0, .int .i64 0, .slice none 0 0] 31 (0, 0)) := setRow_heap _ _ _ _ _ _ J4.out.ret
                refine bodyPost_ret (results_ctt_row (P := Tryd.prog) Tryd.results6 _ _ w.heap.size 31 _ (0, 0) _ _ _ rfl rfl rfl hrow Tryd.underlying31 rfl play_size) rfl ?_
                exact J4.out.bad HP.out
              · have heq : (z.toList == [115, 116, 105, 110, 116]) = true := by rw [eq_text]; exact decide_eq_true hz
                rw [hz] at HLZ
                clear hz
                by_cases hc1 : cp = 1
                · subst hc1
                  have hz0 : zs = [] := List.eq_nil_of_length_eq_zero (by have := HZN.out; omega)
                  have hn0 : n = 1 := by omega
                  subst hz0
                  subst hn0
                  have CH := hide (refHead_any (some ⟨g, 0, none⟩) 0 [] w4 IsStrs.nil (fun u hu => by cases hu))
                  go_wp2_with fail
                  refine CH.out.mono ?_
                  rintro e w5 ⟨b5, a1, a2, a3, er, rfl, h5⟩
                  have J5 := hide (J4.out.later b5)
                  rcases h5 with ⟨rfl, h6⟩ | ⟨hne0, h6⟩
                  · have HR2 : Hid (runP rd0 0 (linesP s.data.toList) = runP { st with hd := true, j := a1, s := a2, q := a3 } ((i + 1 : Nat) : Int) ((tls ss).drop (i + 1))) := by
                      show _ = _
                      rw [HR.out, run_good (st' := { st with hd := true, j := a1, s := a2, q := a3 }) (by rw [HLZ.out, if_neg (by simp), h6])]
                      rfl
                    have al : Below w5.heap.size w5 (w5.alloc (.cells #[.int .i64 a1, .int .i64 a2, .int .i64 a3] 28)) := (Below.refl _ w5).alloc (Nat.le_refl _) _
                    have J6 := hide (J5.out.later al)
                    have J7 := hide (J6.out.config a1 a2 a3)
                    obtain ⟨q0, f0⟩ := J6.out.cell 0
                    obtain ⟨q1, f1⟩ := J6.out.cell 1
                    obtain ⟨q2, f2⟩ := J6.out.cell 2
                    simp only [List.getElem?_toArray, List.getElem?_cons_zero, List.getElem?_cons_succ] at q0 q1 q2
                    clear h6 b5 al
                    go_wp2_with fail
                    go_roundg (m - (i + 1))
                    case measure => omega
                    case rel => exact ⟨i + 1, _, sv, l, by go_num, rfl, Nat.le_refl _, hlt, J7, HR2⟩
                  · have HP : Hid (parseP s.data.toList = (rd0, (i : Int) + 1, er)) := run_error HT.out (by rw [HR.out, run_bad (c := er)]; rw [HLZ.out, if_neg (by simp), h6])
                    have al : Below w5.heap.size w5 (w5.alloc (.cells #[.int .i64 a1, .int .i64 a2, .int .i64 a3] 28)) := (Below.refl _ w5).alloc (Nat.le_refl _) _
                    have J6 := hide (J5.out.later al)
                    have hner : (er != 0) = true := by simpa using hne0
                    clear h6 b5 al hne0
                    go_wp2_with (refine wpList_store_row rfl 31 (.tmp 2) (.tmp 84) rfl w.heap.size #[.int .i64 0, .int .i64 0, .int .i64 0, .slice none 0 0] rfl rfl 31 _ J6.out.ret play_size rfl play_one ?_)
                    have hrow : ((w5.alloc (.cells #[.int .i64 a1, .int .i64 a2, .int .i64 a3] 28)).setRow w.heap.size #[.int .i64 0, .int .i64 0, .int .i64 0, .slice none 0 0]).heap[w.heap.size]? = some (.cells #[.int .i64 0, .int .i64 0, .int .i64 0, .slice none 0 0] 31 (0, 0)) := setRow_heap _ _ _ _ _ _ J6.out.ret
                    refine bodyPost_ret (results_ctt_row (P := Tryd.prog) Tryd.results6 _ _ w.heap.size 31 _ (0, 0) _ _ _ rfl rfl rfl hrow Tryd.underlying31 rfl play_size) rfl ?_
                    exact J6.out.bad HP.out
                · have CH := hide (refHead_any (some ⟨g, 1, none⟩) (cp - 1) zs w4 HQ1.out (fun u hu => HZS.out u (by simp [hu])))
                  rw [HZN.out] at CH
                  go_wp2_with fail
                  refine CH.out.mono ?_
                  rintro e w5 ⟨b5, a1, a2, a3, er, rfl, h5⟩
                  have J5 := hide (J4.out.later b5)
                  rcases h5 with ⟨rfl, h6⟩ | ⟨hne0, h6⟩
                  · have HR2 : Hid (runP rd0 0 (linesP s.data.toList) = runP { st with hd := true, j := a1, s := a2, q := a3 } ((i + 1 : Nat) : Int) ((tls ss).drop (i + 1))) := by
                      show _ = _
                      rw [HR.out, run_good (st' := { st with hd := true, j := a1, s := a2, q := a3 }) (by rw [HLZ.out, if_neg (by simp), h6])]
                      rfl
                    have al : Below w5.heap.size w5 (w5.alloc (.cells #[.int .i64 a1, .int .i64 a2, .int .i64 a3] 28)) := (Below.refl _ w5).alloc (Nat.le_refl _) _
                    have J6 := hide (J5.out.later al)
                    have J7 := hide (J6.out.config a1 a2 a3)
                    obtain ⟨q0, f0⟩ := J6.out.cell 0
                    obtain ⟨q1, f1⟩ := J6.out.cell 1
                    obtain ⟨q2, f2⟩ := J6.out.cell 2
                    simp only [List.getElem?_toArray, List.getElem?_cons_zero, List.getElem?_cons_succ] at q0 q1 q2
                    clear h6 b5 al
                    go_wp2_with fail
                    go_roundg (m - (i + 1))
                    case measure => omega
                    case rel => exact ⟨i + 1, _, sv, l, by go_num, rfl, Nat.le_refl _, hlt, J7, HR2⟩
                  · have HP : Hid (parseP s.data.toList = (rd0, (i : Int) + 1, er)) := run_error HT.out (by rw [HR.out, run_bad (c := er)]; rw [HLZ.out, if_neg (by simp), h6])
                    have al : Below w5.heap.size w5 (w5.alloc (.cells #[.int .i64 a1, .int .i64 a2, .int .i64 a3] 28)) := (Below.refl _ w5).alloc (Nat.le_refl _) _
                    have J6 := hide (J5.out.later al)
                    have hner : (er != 0) = true := by simpa using hne0
                    clear h6 b5 al hne0
                    go_wp2_with (refine wpList_store_row rfl 31 (.tmp 2) (.tmp 84) rfl w.heap.size #[.int .i64 0, .int .i64 0, .int .i64 0, .slice none 0 0] rfl rfl 31 _ J6.out.ret play_size rfl play_one ?_)
                    have hrow : ((w5.alloc (.cells #[.int .i64 a1, .int .i64 a2, .int .i64 a3] 28)).setRow w.heap.size #[.int .i64 0, .int .i64 0, .int .i64 0, .slice none 0 0]).heap[w.heap.size]? = some (.cells #[.int .i64 0, .int .i64 0, .int .i64 0, .slice none 0 0] 31 (0, 0)) := setRow_heap _ _ _ _ _ _ J6.out.ret
                    refine bodyPost_ret (results_ctt_row (P := Tryd.prog) Tryd.results6 _ _ w.heap.size 31 _ (0, 0) _ _ _ rfl rfl rfl hrow Tryd.underlying31 rfl play_size) rfl ?_
                    exact J6.out.bad HP.out
            · rw [hhd] at HLZ
              have CK := hide (refKind_any z w4)
              have CK2 := hide (fun X => refKind_any z X)
              obtain ⟨kk, hkk⟩ : ∃ kk, kindP z.data.toList = kk := ⟨_, rfl⟩
              rw [hkk] at CK CK2
              have hkr := kind_range z.data.toList
              rw [hkk] at hkr
              have HST : Hid (st.steps.length = l.length) := by show _ = _; rw [← HJ.out.eq]; simp
              have HRS : Hid (rstepP z.data.toList st.steps.length (tls zs) = if kk = 0 then .error 191 else if l.length = 4000 then .error 194 else match stepK kk (tls zs) with | some p => .ok p | none => .error 192) := by
                show _ = _
                rw [HST.out]
                unfold rstepP
                rw [hkk]
                rfl
              clear hkk
              go_wp2_with fail
              refine CK.out.mono ?_
              rintro e w5 ⟨rfl, b5⟩
              have J5 := hide (J4.out.later b5)
              have cz5 : w5.cell? ⟨g, 0, none⟩ = some (.string z) := (b5.cell (p := ⟨g, 0, none⟩) (cell_lt cz)).trans cz
              have HQ5 := hide (HQ1.out.below b5)
              clear b5 cz
              by_cases hk0 : kk = 0
              · have hkb : (kk == 0) = true := by simpa using hk0
                have HP : Hid (parseP s.data.toList = (rd0, (i : Int) + 1, 191)) := run_error HT.out (by rw [HR.out, run_bad (c := 191)]; rw [HLZ.out, if_pos trivial, HRS.out, if_pos hk0])
                clear hk0
                go_wp2_with (refine wpList_store_row rfl 31 (.tmp 2) (.tmp 71) rfl w.heap.size #[.int .i64 0, .int .i64 0, .int .i64 0, .slice none 0 0] rfl rfl 31 _ J5.out.ret play_size rfl play_one ?_)
                have hrow : (w5.setRow w.heap.size #[.int .i64 0, .int .i64 0, .int .i64 0, .slice none 0 0]).heap[w.heap.size]? = some (.cells #[.int .i64 0, .int .i64 0, .int .i64 0, .slice none 0 0] 31 (0, 0)) := setRow_heap _ _ _ _ _ _ J5.out.ret
                refine bodyPost_ret (results_ctt_row (P := Tryd.prog) Tryd.results6 _ _ w.heap.size 31 _ (0, 0) _ _ _ rfl rfl rfl hrow Tryd.underlying31 rfl play_size) rfl ?_
                exact J5.out.bad HP.out
              · have hkb : (kk == 0) = false := by simpa using hk0
                obtain ⟨sa, sc, esv⟩ := J5.out.stp.form
                subst esv
                obtain ⟨q3, f3⟩ := J5.out.cell 3
                simp only [List.getElem?_toArray, List.getElem?_cons_zero, List.getElem?_cons_succ] at q3
                have hfew := J5.out.few
                by_cases hl4 : l.length = 4000
                · have t4 : (4000 : Int) ≤ (l.length : Int) := by omega
                  have HP : Hid (parseP s.data.toList = (rd0, (i : Int) + 1, 194)) := run_error HT.out (by rw [HR.out, run_bad (c := 194)]; rw [HLZ.out, if_pos trivial, HRS.out, if_neg hk0, if_pos hl4])
                  clear hl4
                  go_wp2_with (refine wpList_store_row rfl 31 (.tmp 2) (.tmp 94) rfl w.heap.size #[.int .i64 0, .int .i64 0, .int .i64 0, .slice none 0 0] rfl rfl 31 _ J5.out.ret play_size rfl play_one ?_)
                  have hrow : (w5.setRow w.heap.size #[.int .i64 0, .int .i64 0, .int .i64 0, .slice none 0 0]).heap[w.heap.size]? = some (.cells #[.int .i64 0, .int .i64 0, .int .i64 0, .slice none 0 0] 31 (0, 0)) := setRow_heap _ _ _ _ _ _ J5.out.ret
                  refine bodyPost_ret (results_ctt_row (P := Tryd.prog) Tryd.results6 _ _ w.heap.size 31 _ (0, 0) _ _ _ rfl rfl rfl hrow Tryd.underlying31 rfl play_size) rfl ?_
                  exact J5.out.bad HP.out
                · have t4 : ¬ (4000 : Int) ≤ (l.length : Int) := by omega
                  rw [if_neg hk0, if_neg hl4] at HRS
                  clear hl4
                  by_cases hc1 : cp = 1
                  · subst hc1
                    have hz0 : zs = [] := List.eq_nil_of_length_eq_zero (by have := HZN.out; omega)
                    have hn0 : n = 1 := by omega
                    subst hz0
                    subst hn0
                    have CST : Hid (∀ X, Below w5.heap.size w5 X → Calls Tryd.prog 18 #[.int .i64 kk, .slice (some ⟨g, 0, none⟩) 0 0] X (StepRP kk (tls []) X)) := fun X _ => refStep_any kk (by omega) (some ⟨g, 0, none⟩) 0 [] X IsStrs.nil (by simp) (fun u hu => by cases hu)
                    go_upto_region 21 with fail
                    have hza : (w5.alloc (.cells #[.int .i64 0, .int .i64 0, .slice none 0 0, .int .i64 0, .slice none 0 0] 40)).cell? ⟨g, 0, none⟩ = some (.string z) := (((Below.refl _ w5).alloc (Nat.le_refl _) _).cell (p := ⟨g, 0, none⟩) (cell_lt cz5)).trans cz5
                    have gn1 : (0 : Int) < (1 : Int) := by omega
                    have gn3 : 0 < 1 := by omega
                    have gn4 : 1 ≤ 1 := by omega
                    go_cut [13, 14] from 98 to 106 (fun s13 s14 wv => ∃ (wx : World) (bx : Nat) (cn bk : Int) (ad : Option Addr) (nd cd : Nat) (ak : Option Addr) (nk ck : Nat) (ok : Bool), wx = wv ∧ s13 = .pointer (some ⟨bx, 0, none⟩) ∧ s14 = .bool ok ∧ Hid (StepGot w5 wx kk bx cn bk ad nd cd ak nk ck ok (tls [])))
                    case first =>
                      go_region_law (first
                        | (go_simp
                           go_at_call 16
                           refine (CK2.out _).mono ?_
                           rintro e w6 ⟨rfl, b6⟩
                           have B6 : Hid (Below w5.heap.size w5 w6) := by
                             first
                               | exact (Below.refl _ w5).drew.trans b6
                               | exact ((Below.refl _ w5).alloc (Nat.le_refl _) _).drew.trans (b6.mono (by simp))
                           try have hz6 := (b6.block w5.heap.size (by simp)).trans (heap_alloc_new w5 (.cells #[.int .i64 0, .int .i64 0, .slice none 0 0, .int .i64 0, .slice none 0 0] 40))
                           clear b6)
                        | (go_simp
                           go_at_call 18
                           refine (CST.out _ (by first | exact B6.out | exact B6.out.alloc B6.out.size _)).mono ?_
                           rintro e w7 ⟨b7, cn, bk, ad, nd, cd, ak, nk, ck, ok, rfl, h7⟩
                           have B7 : Hid (Below w5.heap.size w5 w7) := by
                             first
                               | exact B6.out.trans (b7.mono B6.out.size)
                               | exact (B6.out.alloc B6.out.size _).trans (b7.mono (by have := B6.out.size; simp; omega))
                           have H7 : Hid (StepRows w5 w7 kk cn bk ad nd cd ak nk ck ok (tls [])) := by
                             first
                               | exact step_rows B6.out.size h7
                               | exact step_rows (by have := B6.out.size; simp; omega) h7
                           first
                             | (have hz7 := (b7.block w5.heap.size (Array.getElem?_eq_some_iff.1 hz6).1).trans hz6
                                have HZ7 := hide hz7
                                obtain ⟨x0, x1, x2, x3, x4, xf⟩ := box_cells hz7
                                have xf0 := xf 0
                                have xf1 := xf 1
                                have xf2 := xf 2
                                have xf3 := xf 3
                                have xf4 := xf 4
                                clear hz6 hz7 xf)
                             | (have hz7 := (b7.block w6.heap.size (by simp)).trans (heap_alloc_new w6 (.cells #[.int .i64 0, .int .i64 0, .slice none 0 0, .int .i64 0, .slice none 0 0] 40))
                                have HZ7 := hide hz7
                                obtain ⟨x0, x1, x2, x3, x4, xf⟩ := box_cells hz7
                                have xf0 := xf 0
                                have xf1 := xf 1
                                have xf2 := xf 2
                                have xf3 := xf 3
                                have xf4 := xf 4
                                clear hz7 xf)
                             | skip
                           clear b7 h7))
                      all_goals go_wp2_with fail
                      all_goals go_meet
                      all_goals refine ⟨_, _, cn, bk, ad, nd, cd, ak, nk, ck, ok, rfl, rfl, rfl, ?_⟩
                      all_goals (first
                        | exact got_set B7.out H7.out HZ7.out (Nat.le_refl _)
                        | exact got_set B7.out H7.out HZ7.out B6.out.size
                        | exact got_new B7.out H7.out)
                    case rest =>
                      obtain ⟨wx, bx, cn, bk, ad, nd, cd, ak, nk, ck, ok, rfl, rfl, rfl, HG⟩ := hcut
                      have J6 := hide (J5.out.later HG.out.low)
                      clear hza q3 f3 cz5
                      rcases HG.out.rows with ⟨rfl, p, h1, h2, h3, h4, h5, h6, h7, h8⟩ | ⟨rfl, h1⟩
                      · subst h2 h3 h4 h5 h6
                        have al : Below wx.heap.size wx (wx.alloc (.cells #[.int .i64 p.kind, .int .i64 p.conn, .slice ad p.data.length cd, .int .i64 p.brk, .slice ak p.keep.length ck] 40)) := (Below.refl _ wx).alloc (Nat.le_refl _) _
                        have J7 := hide (J6.out.later al)
                        have HO := hide (And.intro ((h7.mono J5.out.low.size).below al) ((h8.mono J5.out.low.size).below al))
                        have HR2 : Hid (runP rd0 0 (linesP s.data.toList) = runP { st with hd := true, steps := st.steps ++ [p] } ((i + 1 : Nat) : Int) ((tls ss).drop (i + 1))) := by
                          show _ = _
                          rw [HR.out, run_good (st' := { st with hd := true, steps := st.steps ++ [p] }) (by rw [HLZ.out, if_pos trivial, HRS.out, h1])]
                          rfl
                        obtain ⟨q3, f3⟩ := J6.out.cell 3
                        simp only [List.getElem?_toArray, List.getElem?_cons_zero, List.getElem?_cons_succ] at q3
                        obtain ⟨x0, x1, x2, x3, x4, _⟩ := box_cells HG.out.box
                        have hlo : l.length ≤ 2147483647 := by omega
                        clear h1 h7 h8 al
                        go_wp2_with (at_builtin
                                     refine wpList_steps rfl (.tmp 113) (.tmp 115) rfl w.heap.size (.slice sa l.length sc) l rfl J7.out.stp.1 (some ⟨wx.heap.size, 0, none⟩) 1 ⟨p, .slice ad p.data.length cd, .slice ak p.keep.length ck⟩ rfl (src_step wx p _ _ p.kind rfl) (by intro u hu; simp [flatS, sqCells] at hu; rcases hu with rfl | rfl | rfl | rfl | rfl <;> rfl) hlo J7.out.low.size ?_
                                     intro v9 w9 ho9 hg9 _
                                     obtain ⟨va9, vc9, hv9e⟩ := row5_form ho9
                                     rw [List.length_append] at hv9e
                                     simp only [List.length_cons, List.length_nil, Nat.zero_add] at hv9e
                                     subst hv9e
                                     have BQ := J7.out.boxq hg9
                                     have y29 : w9.cell? ⟨w.heap.size + 1, 3, none⟩ = some (.slice sa l.length sc) := by simp [World.cell?, BQ]
                                     have y39 : w9.frozen? ⟨w.heap.size + 1, 3, none⟩ = false := by simp [World.frozen?, BQ]
                                     have HF := hide (J7.out.step ho9 hg9 HO.out.1 HO.out.2 (by omega))
                                     clear ho9 hg9 BQ)
                        go_roundg (m - (i + 1))
                        case measure => omega
                        case rel => exact ⟨i + 1, _, _, _, by go_num, rfl, Nat.le_refl _, hlt, HF, HR2⟩
                      · have HP : Hid (parseP s.data.toList = (rd0, (i : Int) + 1, 192)) := run_error HT.out (by rw [HR.out, run_bad (c := 192)]; rw [HLZ.out, if_pos trivial, HRS.out, h1])
                        clear h1
                        go_wp2_with (refine wpList_store_row rfl 31 (.tmp 2) (.tmp 109) rfl w.heap.size #[.int .i64 0, .int .i64 0, .int .i64 0, .slice none 0 0] rfl rfl 31 _ J6.out.ret play_size rfl play_one ?_)
                        have hrow : (wx.setRow w.heap.size #[.int .i64 0, .int .i64 0, .int .i64 0, .slice none 0 0]).heap[w.heap.size]? = some (.cells #[.int .i64 0, .int .i64 0, .int .i64 0, .slice none 0 0] 31 (0, 0)) := setRow_heap _ _ _ _ _ _ J6.out.ret
                        refine bodyPost_ret (results_ctt_row (P := Tryd.prog) Tryd.results6 _ _ w.heap.size 31 _ (0, 0) _ _ _ rfl rfl rfl hrow Tryd.underlying31 rfl play_size) rfl ?_
                        exact J6.out.bad HP.out
                  · have CST : Hid (∀ X, Below w5.heap.size w5 X → Calls Tryd.prog 18 #[.int .i64 kk, .slice (some ⟨g, 1, none⟩) (n - 1) (cp - 1)] X (StepRP kk (tls zs) X)) := fun X hX => by
                      have := refStep_any kk (by omega) (some ⟨g, 1, none⟩) (cp - 1) zs X (HQ5.out.below hX) (by have := HZN.out; omega) (fun u hu => HZS.out u (by simp [hu]))
                      rw [HZN.out] at this
                      exact this
                    go_upto_region 21 with fail
                    have hza : (w5.alloc (.cells #[.int .i64 0, .int .i64 0, .slice none 0 0, .int .i64 0, .slice none 0 0] 40)).cell? ⟨g, 0, none⟩ = some (.string z) := (((Below.refl _ w5).alloc (Nat.le_refl _) _).cell (p := ⟨g, 0, none⟩) (cell_lt cz5)).trans cz5
                    have gn1 : (0 : Int) < (n : Int) := by omega
                    have gn3 : 0 < n := by omega
                    have gn4 : 1 ≤ n := by omega
                    go_cut [13, 14] from 98 to 106 (fun s13 s14 wv => ∃ (wx : World) (bx : Nat) (cn bk : Int) (ad : Option Addr) (nd cd : Nat) (ak : Option Addr) (nk ck : Nat) (ok : Bool), wx = wv ∧ s13 = .pointer (some ⟨bx, 0, none⟩) ∧ s14 = .bool ok ∧ Hid (StepGot w5 wx kk bx cn bk ad nd cd ak nk ck ok (tls zs)))
                    case first =>
                      go_region_law (first
                        | (go_simp
                           go_at_call 16
                           refine (CK2.out _).mono ?_
                           rintro e w6 ⟨rfl, b6⟩
                           have B6 : Hid (Below w5.heap.size w5 w6) := by
                             first
                               | exact (Below.refl _ w5).drew.trans b6
                               | exact ((Below.refl _ w5).alloc (Nat.le_refl _) _).drew.trans (b6.mono (by simp))
                           try have hz6 := (b6.block w5.heap.size (by simp)).trans (heap_alloc_new w5 (.cells #[.int .i64 0, .int .i64 0, .slice none 0 0, .int .i64 0, .slice none 0 0] 40))
                           clear b6)
                        | (go_simp
                           go_at_call 18
                           refine (CST.out _ (by first | exact B6.out | exact B6.out.alloc B6.out.size _)).mono ?_
                           rintro e w7 ⟨b7, cn, bk, ad, nd, cd, ak, nk, ck, ok, rfl, h7⟩
                           have B7 : Hid (Below w5.heap.size w5 w7) := by
                             first
                               | exact B6.out.trans (b7.mono B6.out.size)
                               | exact (B6.out.alloc B6.out.size _).trans (b7.mono (by have := B6.out.size; simp; omega))
                           have H7 : Hid (StepRows w5 w7 kk cn bk ad nd cd ak nk ck ok (tls zs)) := by
                             first
                               | exact step_rows B6.out.size h7
                               | exact step_rows (by have := B6.out.size; simp; omega) h7
                           first
                             | (have hz7 := (b7.block w5.heap.size (Array.getElem?_eq_some_iff.1 hz6).1).trans hz6
                                have HZ7 := hide hz7
                                obtain ⟨x0, x1, x2, x3, x4, xf⟩ := box_cells hz7
                                have xf0 := xf 0
                                have xf1 := xf 1
                                have xf2 := xf 2
                                have xf3 := xf 3
                                have xf4 := xf 4
                                clear hz6 hz7 xf)
                             | (have hz7 := (b7.block w6.heap.size (by simp)).trans (heap_alloc_new w6 (.cells #[.int .i64 0, .int .i64 0, .slice none 0 0, .int .i64 0, .slice none 0 0] 40))
                                have HZ7 := hide hz7
                                obtain ⟨x0, x1, x2, x3, x4, xf⟩ := box_cells hz7
                                have xf0 := xf 0
                                have xf1 := xf 1
                                have xf2 := xf 2
                                have xf3 := xf 3
                                have xf4 := xf 4
                                clear hz7 xf)
                             | skip
                           clear b7 h7))
                      all_goals go_wp2_with fail
                      all_goals go_meet
                      all_goals refine ⟨_, _, cn, bk, ad, nd, cd, ak, nk, ck, ok, rfl, rfl, rfl, ?_⟩
                      all_goals (first
                        | exact got_set B7.out H7.out HZ7.out (Nat.le_refl _)
                        | exact got_set B7.out H7.out HZ7.out B6.out.size
                        | exact got_new B7.out H7.out)
                    case rest =>
                      obtain ⟨wx, bx, cn, bk, ad, nd, cd, ak, nk, ck, ok, rfl, rfl, rfl, HG⟩ := hcut
                      have J6 := hide (J5.out.later HG.out.low)
                      clear hza q3 f3 cz5
                      rcases HG.out.rows with ⟨rfl, p, h1, h2, h3, h4, h5, h6, h7, h8⟩ | ⟨rfl, h1⟩
                      · subst h2 h3 h4 h5 h6
                        have al : Below wx.heap.size wx (wx.alloc (.cells #[.int .i64 p.kind, .int .i64 p.conn, .slice ad p.data.length cd, .int .i64 p.brk, .slice ak p.keep.length ck] 40)) := (Below.refl _ wx).alloc (Nat.le_refl _) _
                        have J7 := hide (J6.out.later al)
                        have HO := hide (And.intro ((h7.mono J5.out.low.size).below al) ((h8.mono J5.out.low.size).below al))
                        have HR2 : Hid (runP rd0 0 (linesP s.data.toList) = runP { st with hd := true, steps := st.steps ++ [p] } ((i + 1 : Nat) : Int) ((tls ss).drop (i + 1))) := by
                          show _ = _
                          rw [HR.out, run_good (st' := { st with hd := true, steps := st.steps ++ [p] }) (by rw [HLZ.out, if_pos trivial, HRS.out, h1])]
                          rfl
                        obtain ⟨q3, f3⟩ := J6.out.cell 3
                        simp only [List.getElem?_toArray, List.getElem?_cons_zero, List.getElem?_cons_succ] at q3
                        obtain ⟨x0, x1, x2, x3, x4, _⟩ := box_cells HG.out.box
                        have hlo : l.length ≤ 2147483647 := by omega
                        clear h1 h7 h8 al
                        go_wp2_with (at_builtin
                                     refine wpList_steps rfl (.tmp 113) (.tmp 115) rfl w.heap.size (.slice sa l.length sc) l rfl J7.out.stp.1 (some ⟨wx.heap.size, 0, none⟩) 1 ⟨p, .slice ad p.data.length cd, .slice ak p.keep.length ck⟩ rfl (src_step wx p _ _ p.kind rfl) (by intro u hu; simp [flatS, sqCells] at hu; rcases hu with rfl | rfl | rfl | rfl | rfl <;> rfl) hlo J7.out.low.size ?_
                                     intro v9 w9 ho9 hg9 _
                                     obtain ⟨va9, vc9, hv9e⟩ := row5_form ho9
                                     rw [List.length_append] at hv9e
                                     simp only [List.length_cons, List.length_nil, Nat.zero_add] at hv9e
                                     subst hv9e
                                     have BQ := J7.out.boxq hg9
                                     have y29 : w9.cell? ⟨w.heap.size + 1, 3, none⟩ = some (.slice sa l.length sc) := by simp [World.cell?, BQ]
                                     have y39 : w9.frozen? ⟨w.heap.size + 1, 3, none⟩ = false := by simp [World.frozen?, BQ]
                                     have HF := hide (J7.out.step ho9 hg9 HO.out.1 HO.out.2 (by omega))
                                     clear ho9 hg9 BQ)
                        go_roundg (m - (i + 1))
                        case measure => omega
                        case rel => exact ⟨i + 1, _, _, _, by go_num, rfl, Nat.le_refl _, hlt, HF, HR2⟩
                      · have HP : Hid (parseP s.data.toList = (rd0, (i : Int) + 1, 192)) := run_error HT.out (by rw [HR.out, run_bad (c := 192)]; rw [HLZ.out, if_pos trivial, HRS.out, h1])
                        clear h1
                        go_wp2_with (refine wpList_store_row rfl 31 (.tmp 2) (.tmp 109) rfl w.heap.size #[.int .i64 0, .int .i64 0, .int .i64 0, .slice none 0 0] rfl rfl 31 _ J6.out.ret play_size rfl play_one ?_)
                        have hrow : (wx.setRow w.heap.size #[.int .i64 0, .int .i64 0, .int .i64 0, .slice none 0 0]).heap[w.heap.size]? = some (.cells #[.int .i64 0, .int .i64 0, .int .i64 0, .slice none 0 0] 31 (0, 0)) := setRow_heap _ _ _ _ _ _ J6.out.ret
                        refine bodyPost_ret (results_ctt_row (P := Tryd.prog) Tryd.results6 _ _ w.heap.size 31 _ (0, 0) _ _ _ rfl rfl rfl hrow Tryd.underlying31 rfl play_size) rfl ?_
                        exact J6.out.bad HP.out
    · have tlt : ¬ (i : Int) < (m : Int) := by omega
      have hd : (tls ss).drop i = [] := List.drop_of_length_le (by simp [tls]; have := HMM.out; omega)
      rw [hd] at HR
      cases hhd : st.hd
      · have HP : Hid (parseP s.data.toList = (rd0, 0, 191)) := by
          show _ = _
          unfold parseP
          rw [if_neg HT.out, HR.out, runP]
          simp only []
          rw [hhd]
          rfl
        clear hd
        go_wp2_with (refine wpList_store_row rfl 31 (.tmp 2) (.tmp 120) rfl w.heap.size #[.int .i64 0, .int .i64 0, .int .i64 0, .slice none 0 0] rfl rfl 31 _ HJ.out.ret play_size rfl play_one ?_)
        have hrow : (wr.setRow w.heap.size #[.int .i64 0, .int .i64 0, .int .i64 0, .slice none 0 0]).heap[w.heap.size]? = some (.cells #[.int .i64 0, .int .i64 0, .int .i64 0, .slice none 0 0] 31 (0, 0)) := setRow_heap _ _ _ _ _ _ HJ.out.ret
        refine bodyPost_ret (results_ctt_row (P := Tryd.prog) Tryd.results6 _ _ w.heap.size 31 _ (0, 0) _ _ _ rfl rfl rfl hrow Tryd.underlying31 rfl play_size) rfl ?_
        exact HJ.out.bad HP.out
      · have HP : Hid (parseP s.data.toList = (st, 0, 0)) := by
          show _ = _
          unfold parseP
          rw [if_neg HT.out, HR.out, runP]
          simp only []
          rw [hhd]
          rfl
        obtain ⟨sa, sc, esv⟩ := HJ.out.stp.form
        subst esv
        clear hd
        go_wp2_with (first
          | (refine wpList_load_row rfl 31 (.tmp 5) rfl (w.heap.size + 1) rfl 31 _ (0, 0) _ HJ.out.box Tryd.underlying31 rfl play_size ?_)
          | (refine wpList_store_row rfl 31 (.tmp 2) (.tmp 121) rfl w.heap.size #[.int .i64 st.j, .int .i64 st.s, .int .i64 st.q, .slice sa l.length sc] rfl rfl 31 _ HJ.out.ret play_size rfl play_one ?_))
        have hrow : (wr.setRow w.heap.size #[.int .i64 st.j, .int .i64 st.s, .int .i64 st.q, .slice sa l.length sc]).heap[w.heap.size]? = some (.cells #[.int .i64 st.j, .int .i64 st.s, .int .i64 st.q, .slice sa l.length sc] 31 (0, 0)) := setRow_heap _ _ _ _ _ _ HJ.out.ret
        refine bodyPost_ret (results_ctt_row (P := Tryd.prog) Tryd.results6 _ _ w.heap.size 31 _ (0, 0) _ _ _ rfl rfl rfl hrow Tryd.underlying31 rfl play_size) rfl ?_
        refine ⟨below_setRow HJ.out.low (Nat.le_refl _) _, _, l, by rw [HP.out]; rfl, ?_, by rw [HP.out]; exact HJ.out.eq⟩
        have kr : Kept (fun j => j = w.heap.size) wr (wr.setRow w.heap.size #[.int .i64 st.j, .int .i64 st.s, .int .i64 st.q, .slice sa l.length sc]) := ⟨rfl, rfl, rfl, by simp [World.setRow], fun j _ hj => setRow_other wr _ j _ hj⟩
        have np : ∀ {g : Nat} {t : TypeId} {cur : Array Value}, wr.heap[g]? = some (.cells cur t (0, 0)) → t ≠ 31 → ¬ g = w.heap.size := fun {g t cur} hc ht e => by
          subst e
          rw [HJ.out.ret] at hc
          simp at hc
          exact ht hc.2.symm
        refine HJ.out.stp.kept kr (fun g hg => ?_) (fun q hq => ⟨fun g hg => ?_, fun g hg => ?_⟩)
        · obtain ⟨cur, hc⟩ := row5_type HJ.out.stp.1 hg
          exact np hc (by decide)
        · obtain ⟨cur, hc⟩ := row_of_type (HJ.out.stp.2 q hq).1 hg
          exact np hc (by decide)
        · obtain ⟨cur, hc⟩ := row_of_type (HJ.out.stp.2 q hq).2 hg
          exact np hc (by decide)
end Go.Proofs.YteaccpolmmkclaaDoor
