/-
  The walk of Print.
-/
import Derived.Test.YteaccpolmmkclaaDoorWStA
import Derived.Test.YteaccpolmmkclaaDoorHeaA
import Derived.Test.YteaccpolmmkclaaDoorParD
namespace Go.Proofs.YteaccpolmmkclaaDoor
open Go.RowKit

/-- Steps that are handed in. -/
def PlayIn (D : World) (sv : Value) (l : List Sq) : Prop := (∃ a c, sv = .slice a l.length c ∧ l.length ≤ maxLen ∧ (l = [] ∨ ∃ b o, a = some ⟨b, o, none⟩ ∧ b < D.heap.size ∧ ∀ (i : Nat) x, (flatS l)[i]? = some x → D.cell? ⟨b, o + i, none⟩ = some x)) ∧ ∀ q ∈ l, StepIn D q.p q.dv q.kv
/-- What Print tells. -/
def printR (j s q : Int) (l : List StepP) : Tx × Int := match printP j s q l with | .ok t => (t, 0) | .error c => ([], c)
def PrintPost (D : World) (j s q : Int) (l : List StepP) (e : Ending) (w' : World) : Prop :=
  Below D.heap.size D w' ∧ e = .returned (.tuple #[.string ⟨(printR j s q l).1.toArray⟩, .int .i64 (printR j s q l).2])
/-- Where Print is, ahead of its writer. -/
structure NInv (D w : World) (j s q : Int) (sv : Value) : Prop where
  low : Below D.heap.size D w
  box : w.heap[D.heap.size]? = some (.cells #[.int .i64 j, .int .i64 s, .int .i64 q, sv] 31 (0, 0))
  b1 : w.heap[D.heap.size + 1]? = some (.cells #[.string ⟨#[]⟩] 9 (0, 0))
  b2 : w.heap[D.heap.size + 1 + 1]? = some (.cells #[.int .i64 0] 32 (0, 0))
section
variable {D w w' : World} {j s q : Int} {sv : Value}
theorem NInv.big (h : NInv D w j s q sv) : D.heap.size + 1 + 1 < w.heap.size := (Array.getElem?_eq_some_iff.1 h.b2).1
theorem NInv.later (h : NInv D w j s q sv) {B : Nat} (hb : Below B w w') (hB : D.heap.size + 1 + 1 < B) : NInv D w' j s q sv := by
  have := h.big
  exact ⟨h.low.trans (hb.mono (by omega)), (hb.block _ (by omega)).trans h.box, (hb.block _ (by omega)).trans h.b1, (hb.block _ (by omega)).trans h.b2⟩
theorem NInv.cells (h : NInv D w j s q sv) : w.cell? ⟨D.heap.size, 0, none⟩ = some (.int .i64 j) ∧ w.cell? ⟨D.heap.size, 1, none⟩ = some (.int .i64 s) ∧ w.cell? ⟨D.heap.size, 2, none⟩ = some (.int .i64 q) ∧ w.cell? ⟨D.heap.size, 3, none⟩ = some sv ∧ w.cell? ⟨D.heap.size + 1, 0, none⟩ = some (.string ⟨#[]⟩) ∧ w.frozen? ⟨D.heap.size + 1, 0, none⟩ = false ∧ w.cell? ⟨D.heap.size + 1 + 1, 0, none⟩ = some (.int .i64 0) ∧ w.frozen? ⟨D.heap.size + 1 + 1, 0, none⟩ = false := by
  simp [World.cell?, World.frozen?, h.box, h.b1, h.b2]
theorem ninv_start (D : World) (j s q : Int) (sv : Value) : NInv D (((D.alloc (.cells #[.int .i64 j, .int .i64 s, .int .i64 q, sv] 31)).alloc (.cells #[.string ⟨#[]⟩] 9)).alloc (.cells #[.int .i64 0] 32)) j s q sv := by
  have h1 := heap_alloc_new D (.cells #[.int .i64 j, .int .i64 s, .int .i64 q, sv] 31)
  have q1 := (Below.refl D.heap.size D).alloc (Nat.le_refl _) (.cells #[.int .i64 j, .int .i64 s, .int .i64 q, sv] 31)
  have e1 : (D.alloc (.cells #[.int .i64 j, .int .i64 s, .int .i64 q, sv] 31)).heap.size = D.heap.size + 1 := by simp
  generalize D.alloc (.cells #[.int .i64 j, .int .i64 s, .int .i64 q, sv] 31) = w1 at h1 q1 e1 ⊢
  have a2 := heap_alloc_new w1 (.cells #[.string ⟨#[]⟩] 9)
  have a12 := (heap_alloc_old w1 (.cells #[.string ⟨#[]⟩] 9) (by omega : D.heap.size < w1.heap.size)).trans h1
  have q2 := q1.alloc (by omega) (.cells #[.string ⟨#[]⟩] 9)
  have e2 : (w1.alloc (.cells #[.string ⟨#[]⟩] 9)).heap.size = D.heap.size + 1 + 1 := by simp [e1]
  rw [e1] at a2
  generalize w1.alloc (.cells #[.string ⟨#[]⟩] 9) = w2 at a2 a12 q2 e2 ⊢
  have a3 := heap_alloc_new w2 (.cells #[.int .i64 0] 32)
  rw [e2] at a3
  exact ⟨q2.alloc (by omega) _, (heap_alloc_old w2 _ (by omega)).trans a12, (heap_alloc_old w2 _ (by omega)).trans a2, a3⟩
theorem print_leaves {w : World} {b1 b2 : Nat} {R : Ending → World → Prop} {tmps : Array Value} {t : ByteArray} {e : Int} (t2 : tmps[2]? = some (.pointer (some ⟨b1, 0, none⟩))) (t3 : tmps[3]? = some (.pointer (some ⟨b2, 0, none⟩)))
    (h1 : w.heap[b1]? = some (.cells #[.string t] 9 (0, 0))) (h2 : w.heap[b2]? = some (.cells #[.int .i64 e] 32 (0, 0)))
    (hR : R (.returned (.tuple #[.string t, .int .i64 e])) w) : Leaves Tryd.prog Tryd.f10 tmps R [] .returning w := by
  have r1 : w.cell? ⟨b1, 0, none⟩ = some (.string t) := by simp [World.cell?, h1]
  have r2 : w.cell? ⟨b2, 0, none⟩ = some (.int .i64 e) := by simp [World.cell?, h2]
  simp [Leaves, results, Tryd.results10, go_sem, t2, t3, r1, r2]
  exact hR
theorem NInv.set (h : NInv D w j s q sv) (t : ByteArray) (e : Int) : Below D.heap.size D ((w.setCell ⟨D.heap.size + 1, 0, none⟩ (.string t)).setCell ⟨D.heap.size + 1 + 1, 0, none⟩ (.int .i64 e)) ∧ ((w.setCell ⟨D.heap.size + 1, 0, none⟩ (.string t)).setCell ⟨D.heap.size + 1 + 1, 0, none⟩ (.int .i64 e)).heap[D.heap.size + 1]? = some (.cells #[.string t] 9 (0, 0)) ∧ ((w.setCell ⟨D.heap.size + 1, 0, none⟩ (.string t)).setCell ⟨D.heap.size + 1 + 1, 0, none⟩ (.int .i64 e)).heap[D.heap.size + 1 + 1]? = some (.cells #[.int .i64 e] 32 (0, 0)) := by
  have hbig := h.big
  have s1 := (set_cells h.b1 0 (.string t)).1
  have k1 : Kept (fun i => i = D.heap.size + 1) w (w.setCell ⟨D.heap.size + 1, 0, none⟩ (.string t)) := Kept.setCell _ _ _ _ _ rfl
  have q2 := (k1.block (D.heap.size + 1 + 1) (by omega) (by omega)).trans h.b2
  generalize w.setCell ⟨D.heap.size + 1, 0, none⟩ (.string t) = wq at s1 k1 q2 ⊢
  have k2 : Kept (fun i => i = D.heap.size + 1 + 1) wq (wq.setCell ⟨D.heap.size + 1 + 1, 0, none⟩ (.int .i64 e)) := Kept.setCell _ _ _ _ _ rfl
  have hs := k1.size
  refine ⟨(h.low.trans (k1.below (by omega) (fun i hi e => by omega))).trans (k2.below (by omega) (fun i hi e => by omega)), (k2.block _ (by omega) (by omega)).trans s1, (set_cells q2 0 (.int .i64 e)).1⟩
end
set_option maxHeartbeats 4000000 in
set_option maxRecDepth 1000000 in
theorem print_conf (D : World) (j s q : Int) (sv : Value) (l : List StepP) (hv : ∃ a n c, sv = .slice a n c) (hc : configB j s q = false) :
    Calls Tryd.prog 10 #[.agg #[.int .i64 j, .int .i64 s, .int .i64 q, sv]] D (PrintPost D j s q l) := by
  obtain ⟨a, n, c, rfl⟩ := hv
  have H0 := hide (ninv_start D j s q (.slice a n c))
  have hE : configE j s q = 103 := by unfold configE; rw [hc]; rfl
  have CC : Hid (∀ W, Calls Tryd.prog 25 #[.agg #[.int .i64 j, .int .i64 s, .int .i64 q]] W fun e w' => e = .returned (.int .i64 103) ∧ Below W.heap.size W w') := fun W => by rw [← hE]; exact checkConfig_any j s q W
  have HP : Hid (printR j s q l = ([], 190)) := by show _ = _; unfold printR printP; rw [if_pos hc]
  clear hE
  go_enter_defers Tryd.func10, Tryd.ntmps10
  go_wp2_with fail
  refine (CC.out _).mono ?_
  rintro e w1 ⟨rfl, b1⟩
  have h1 := H0.out.later b1 H0.out.big
  have H1 := hide h1
  obtain ⟨_, _, _, _, x1, x2, x3, x4⟩ := h1.cells
  clear b1 h1
  go_wp2_with fail
  have hs := H1.out.set ⟨#[]⟩ 190
  exact print_leaves rfl rfl hs.2.1 hs.2.2 ⟨hs.1, by rw [HP.out]⟩
set_option maxHeartbeats 4000000 in
set_option maxRecDepth 1000000 in
theorem print_many (D : World) (j s q : Int) (sv : Value) (l : List StepP) (hv : ∃ a c, sv = .slice a l.length c) (hc : configB j s q = true) (hl : 4000 < l.length) :
    Calls Tryd.prog 10 #[.agg #[.int .i64 j, .int .i64 s, .int .i64 q, sv]] D (PrintPost D j s q l) := by
  obtain ⟨a, c, rfl⟩ := hv
  have H0 := hide (ninv_start D j s q (.slice a l.length c))
  have hE : configE j s q = 0 := by unfold configE; rw [hc]; rfl
  have CC : Hid (∀ W, Calls Tryd.prog 25 #[.agg #[.int .i64 j, .int .i64 s, .int .i64 q]] W fun e w' => e = .returned (.int .i64 0) ∧ Below W.heap.size W w') := fun W => by rw [← hE]; exact checkConfig_any j s q W
  have HP : Hid (printR j s q l = ([], 194)) := by show _ = _; unfold printR printP; rw [if_neg (by rw [hc]; simp), if_pos hl]
  have hl2 : (4000 : Int) < (l.length : Int) := by omega
  clear hE
  go_enter_defers Tryd.func10, Tryd.ntmps10
  go_wp2_with fail
  refine (CC.out _).mono ?_
  rintro e w1 ⟨rfl, b1⟩
  have h1 := H0.out.later b1 H0.out.big
  have H1 := hide h1
  obtain ⟨_, _, _, y1, x1, x2, x3, x4⟩ := h1.cells
  clear b1 h1
  go_wp2_with fail
  have hs := H1.out.set ⟨#[]⟩ 194
  exact print_leaves rfl rfl hs.2.1 hs.2.2 ⟨hs.1, by rw [HP.out]⟩
/-- Where Print is, between two steps. -/
structure QInv (D w : World) (j s q : Int) (sv : Value) (tb : Nat) (L : List StepP) (t : Tx) (r : List StepP) : Prop where
  n : NInv D w j s q sv
  wt : WtAt w tb tb t
  tabs : Tabs w
  hi : D.heap.size + 1 + 1 < tb
  six : 6 ≤ tb
  len : t.length ≤ 1048576
  run : printP j s q L = writeP t r
section
variable {D w w' : World} {j s q : Int} {sv : Value} {tb : Nat} {L r : List StepP} {t : Tx} {p : StepP} {e : Ending}
theorem QInv.bsz (h : QInv D w j s q sv tb L t r) : tb < w.heap.size := h.wt.lt
theorem QInv.later (h : QInv D w j s q sv tb L t r) (hb : Below w.heap.size w w') : QInv D w' j s q sv tb L t r := by
  exact ⟨h.n.later hb h.n.big, h.wt.later hb, h.tabs.below hb, h.hi, h.six, h.len, h.run⟩
theorem QInv.step (h : QInv D w j s q sv tb L t (p :: r)) (hc : checkB p = true) (hp : AddPost w tb tb t (lineS p) e w') : (e = .returned (.tuple #[]) ∧ QInv D w' j s q sv tb L (t ++ lineS p) r) ∨ (e = pan 193 ∧ NInv D w' j s q sv ∧ printP j s q L = .error 193) := by
  obtain ⟨k1, h2⟩ := hp
  have hb := Wr.low k1 (Nat.le_of_lt h.bsz)
  have hn := h.n.later hb h.hi
  have hr := h.run
  rw [writeP, if_neg (by rw [hc]; simp)] at hr
  rcases h2 with ⟨hl, he, hw⟩ | ⟨hl, he⟩
  · rw [if_neg (by omega)] at hr
    exact .inl ⟨he, hn, hw, h.tabs.keptB (hb.mono h.six), h.hi, h.six, hl, hr⟩
  · rw [if_pos hl] at hr
    exact .inr ⟨he, hn, hr⟩
end
theorem flat_at (l : List Sq) (j : Nat) (x : Sq) (h : l[j]? = some x) (i : Nat) (hi : i < 5) (v : Value) (hv : (sqCells x)[i]? = some v) : (flatS l)[j * 5 + i]? = some v := by
  induction l generalizing j with
  | nil => simp at h
  | cons a l ih =>
    show (sqCells a ++ flatS l)[j * 5 + i]? = some v
    have hla : (sqCells a).length = 5 := rfl
    cases j with
    | zero =>
      simp only [List.getElem?_cons_zero, Option.some.injEq] at h
      subst h
      rw [List.getElem?_append_left (by omega), Nat.zero_mul, Nat.zero_add]
      exact hv
    | succ j =>
      simp only [List.getElem?_cons_succ] at h
      rw [List.getElem?_append_right (by omega), hla, show (j + 1) * 5 + i - 5 = j * 5 + i by omega]
      exact ih j h
theorem StepIn.later {D w : World} {p : StepP} {dv kv : Value} (h : StepIn D p dv kv) (hb : Below D.heap.size D w) : StepIn w p dv kv := by
  obtain ⟨⟨ad, cd, e1, h1⟩, ak, ck, e2, h2⟩ := h
  exact ⟨⟨ad, cd, e1, h1.below hb⟩, ak, ck, e2, h2.below hb⟩
set_option maxHeartbeats 4000000 in
set_option maxRecDepth 1000000 in
theorem print_walk (D : World) (j s q : Int) (sv : Value) (l : List Sq) (T : Tabs D) (h6 : 6 ≤ D.heap.size) (hp : PlayIn D sv l) (hc : configB j s q = true) (hl : l.length ≤ 4000) :
    Calls Tryd.prog 10 #[.agg #[.int .i64 j, .int .i64 s, .int .i64 q, sv]] D (PrintPost D j s q (l.map (·.p))) := by
  have hmf : ∀ (fn : Fn) (first cap : Array Value) (w : World), (Instr.makeFunc fn first cap).run Tryd.prog w = .ok (.func fn first cap) w := fun _ _ _ _ => rfl
  obtain ⟨⟨a, c, rfl, hml, hcell⟩, hin⟩ := hp
  have H0 := hide (ninv_start D j s q (.slice a l.length c))
  have hE : configE j s q = 0 := by unfold configE; rw [hc]; rfl
  have CC : Hid (∀ W, Calls Tryd.prog 25 #[.agg #[.int .i64 j, .int .i64 s, .int .i64 q]] W fun e w' => e = .returned (.int .i64 0) ∧ Below W.heap.size W w') := fun W => by rw [← hE]; exact checkConfig_any j s q W
  have HT := hide T
  have HC := hide hc
  have HIN := hide (And.intro hcell hin)
  have hl2 : ¬ (4000 : Int) < (l.length : Int) := by omega
  clear hE T hcell hin hml hc
  go_enter_defers Tryd.func10, Tryd.ntmps10
  go_wp2_with fail
  refine (CC.out _).mono ?_
  rintro e w1 ⟨rfl, b1⟩
  have h1 := H0.out.later b1 H0.out.big
  have H1 := hide h1
  obtain ⟨y0, y2, y3, y1, x1, x2, x3, x4⟩ := h1.cells
  have hbw := h1.big
  have B2 : Hid (Below w1.heap.size w1 (w1.alloc (.cells #[.slice none 0 0] 68))) := (Below.refl _ w1).alloc (Nat.le_refl _) _
  have H2 : Hid (NInv D (w1.alloc (.cells #[.slice none 0 0] 68)) j s q (.slice a l.length c)) := h1.later B2.out h1.big
  obtain ⟨z0, z2, z3, z1, _⟩ := H2.out.cells
  have CH : Hid (Calls Tryd.prog 27 #[.pointer (some ⟨w1.heap.size, 0, none⟩), .agg #[.int .i64 j, .int .i64 s, .int .i64 q]] (w1.alloc (.cells #[.slice none 0 0] 68)) fun e w' => e = .returned (.tuple #[]) ∧ QInv D w' j s q (.slice a l.length c) w1.heap.size (l.map (·.p)) (headS j s q) (l.map (·.p))) := by
    have ht : Tabs (w1.alloc (.cells #[.slice none 0 0] 68)) := HT.out.below H2.out.low
    have hw : WtAt (w1.alloc (.cells #[.slice none 0 0] 68)) w1.heap.size w1.heap.size [] := ⟨_, heap_alloc_new w1 _, Own.nil _ _, Nat.le_refl _⟩
    refine Calls.mono (whead_any _ w1.heap.size w1.heap.size j s q ht hw (by omega) HC.out) ?_
    rintro e w' ⟨he, k1, hw2⟩
    have hb := Wr.low k1 (by simp)
    refine ⟨he, H2.out.later hb hbw, hw2, ht.keptB (hb.mono (by omega)), hbw, by omega, ?_, ?_⟩
    · have := head_short HC.out
      omega
    · unfold printP
      rw [if_neg (by rw [HC.out]; simp), if_neg (by simp; omega)]
  obtain ⟨tb, htb⟩ : ∃ tb, w1.heap.size = tb := ⟨_, rfl⟩
  rw [htb] at CH hbw
  clear b1 h1
  go_wp2_with fail
  refine CH.out.mono ?_
  rintro e w3 ⟨rfl, h3⟩
  have H3 := hide h3
  obtain ⟨v0, v2, v3, v1, _⟩ := h3.n.cells
  clear h3 z0 z1 z2 z3 y0 y1 y2 y3 x1 x2 x3 x4 H2 CH CC htb
  go_wp2_with fail
  go_loopg [22] l.length (fun gk i wr => ∃ (n : Nat) (t : Tx), i = .int .i64 (n : Int) ∧ l.length - n ≤ gk ∧ n ≤ l.length ∧ Hid (QInv D wr j s q (.slice a l.length c) tb (l.map (·.p)) t ((l.drop n).map (·.p))))
  case atStart => exact ⟨0, _, rfl, by omega, by omega, H3⟩
  case round =>
    obtain ⟨n, t, rfl, hgk, hn, HQ⟩ := hrel
    clear v0 v1 v2 v3
    by_cases hlt : n < l.length
    · have tlt : (n : Int) < (l.length : Int) := by omega
      obtain ⟨x, hx⟩ : ∃ x, l[n]? = some x := ⟨_, List.getElem?_eq_getElem hlt⟩
      have hmem : x ∈ l := List.mem_of_getElem? hx
      have hdrop : (l.drop n).map (·.p) = x.p :: (l.drop (n + 1)).map (·.p) := by
        rw [List.drop_eq_getElem_cons hlt, List.map_cons]
        congr 2
        have := List.getElem?_eq_getElem hlt
        rw [hx] at this
        exact (Option.some.inj this).symm
      rw [hdrop] at HQ
      rcases HIN.out.1 with h0 | ⟨b, o, e, hb, hcq⟩
      · rw [h0] at hlt; simp at hlt
      subst e
      have hcell : ∀ i v, i < 5 → (sqCells x)[i]? = some v → wr.cell? ⟨b, o + (n * 5 + i), none⟩ = some v := fun i v hi hv => (HQ.out.n.low.cell (p := ⟨b, o + (n * 5 + i), none⟩) hb).trans (hcq _ v (flat_at l n x hx i hi v hv))
      have hsi := HIN.out.2 x hmem
      obtain ⟨p, dv, kv⟩ := x
      obtain ⟨⟨ad, cd, e1, h1⟩, ak, ck, e2, h2⟩ := hsi
      simp only [] at e1 e2 h1 h2 hcell
      subst e1 e2
      have HSI : Hid (StepIn D p (.slice ad p.data.length cd) (.slice ak p.keep.length ck)) := ⟨⟨ad, cd, rfl, h1⟩, ak, ck, rfl, h2⟩
      have k0 := hcell 0 _ (by omega) rfl
      have k1 := hcell 1 _ (by omega) rfl
      have k2 := hcell 2 _ (by omega) rfl
      have k3 := hcell 3 _ (by omega) rfl
      have k4 := hcell 4 _ (by omega) rfl
      rw [show o + (n * 5 + 0) = o + n * 5 by omega] at k0
      rw [show o + (n * 5 + 1) = o + n * 5 + 1 by omega] at k1
      rw [show o + (n * 5 + 2) = o + n * 5 + 2 by omega] at k2
      rw [show o + (n * 5 + 3) = o + n * 5 + 3 by omega] at k3
      rw [show o + (n * 5 + 4) = o + n * 5 + 4 by omega] at k4
      clear hcell hx hmem hdrop h1 h2 hcq
      have HX : Hid (QInv D (wr.alloc (.cells #[.int .i64 p.kind, .int .i64 p.conn, .slice ad p.data.length cd, .int .i64 p.brk, .slice ak p.keep.length ck] 40)) j s q (.slice (some ⟨b, o, none⟩) l.length c) tb (l.map (·.p)) t (p :: (l.drop (n + 1)).map (·.p))) := HQ.out.later ((Below.refl _ wr).alloc (Nat.le_refl _) _)
      have xb := heap_alloc_new wr (.cells #[.int .i64 p.kind, .int .i64 p.conn, .slice ad p.data.length cd, .int .i64 p.brk, .slice ak p.keep.length ck] 40)
      generalize hwa : wr.alloc (.cells #[.int .i64 p.kind, .int .i64 p.conn, .slice ad p.data.length cd, .int .i64 p.brk, .slice ak p.keep.length ck] 40) = wa at HX xb
      have HXB : Hid (StepBox wa wr.heap.size p.kind p.conn p.brk (.slice ad p.data.length cd) (.slice ak p.keep.length ck)) := xb
      have HWA := hide hwa
      have CK := hide (checkStep_any wa p _ _ HX.out.tabs (HSI.out.later HX.out.n.low))
      clear xb hwa
      cases hcb : checkB p
      · rw [hcb] at CK
        have HR : Hid (printR j s q (l.map (·.p)) = ([], 192)) := by
          show _ = _
          unfold printR
          rw [HX.out.run, writeP, if_pos hcb]
        go_wp2_with fail
        rw [HWA.out]
        refine CK.out.mono ?_
        rintro e w5 ⟨he, b5⟩
        simp only [Bool.false_eq_true, if_false] at he
        unfold pan at he
        subst he
        have H5 := hide (HX.out.n.later b5 HX.out.n.big)
        clear b5
        go_wp2_with fail
        refine leaves_cons (f := 26) (args := #[.pointer (some ⟨D.heap.size + 1, 0, none⟩), .pointer (some ⟨D.heap.size + 1 + 1, 0, none⟩)]) (by simp) (by simp [go_sem]) ?_
        refine (printD_pan _ _ 192 w5 H5.out.b1 H5.out.b2).mono ?_
        rintro e u' w'' ⟨rfl, rfl, k3, q1, q2⟩
        have hbig := H5.out.big
        exact print_leaves rfl rfl q1 q2 ⟨H5.out.low.trans (k3.below (by omega) (fun i hi e => by omega)), by rw [HR.out]⟩
      · rw [hcb] at CK
        go_wp2_with fail
        rw [HWA.out]
        refine CK.out.mono ?_
        rintro e w5 ⟨he, b5⟩
        simp only [if_true] at he
        subst he
        have H5 := hide (HX.out.later b5)
        have h5 := HXB.out.kept (P := fun _ => False) (Kept.ofBelow b5) (fun h => h)
        obtain ⟨a0, a1, a2, a3, a4, _⟩ := h5.cells
        clear b5 h5 k0 k1 k2 k3 k4
        go_wp2_with fail
        refine (wstep_any D w5 tb tb t p _ _ H5.out.tabs H5.out.wt H5.out.n.low H5.out.six (by have := H5.out.hi; omega) H5.out.len HSI.out hcb).mono ?_
        intro e w6 h6
        rcases H5.out.step hcb h6 with ⟨rfl, h7⟩ | ⟨he, h7, h8⟩
        · have H6 := hide h7
          clear h6 h7 a0 a1 a2 a3 a4
          go_wp2_with fail
          go_roundg (l.length - (n + 1))
          case measure => omega
          case rel => exact ⟨n + 1, _, by go_num, Nat.le_refl _, hlt, H6⟩
        · have HR : Hid (printR j s q (l.map (·.p)) = ([], 193)) := by
            show _ = _
            unfold printR
            rw [h8]
          unfold pan at he
          subst he
          have H6 := hide h7
          clear h6 h7 h8 a0 a1 a2 a3 a4
          go_wp2_with fail
          refine leaves_cons (f := 26) (args := #[.pointer (some ⟨D.heap.size + 1, 0, none⟩), .pointer (some ⟨D.heap.size + 1 + 1, 0, none⟩)]) (by simp) (by simp [go_sem]) ?_
          refine (printD_pan _ _ 193 w6 H6.out.b1 H6.out.b2).mono ?_
          rintro e u' w'' ⟨rfl, rfl, k3, q1, q2⟩
          have hbig := H6.out.big
          exact print_leaves rfl rfl q1 q2 ⟨H6.out.low.trans (k3.below (by omega) (fun i hi e => by omega)), by rw [HR.out]⟩
    · have tlt : ¬ (n : Int) < (l.length : Int) := by omega
      have hdrop : (l.drop n).map (·.p) = [] := by rw [List.drop_of_length_le (by omega)]; rfl
      rw [hdrop] at HQ
      have HR : Hid (printR j s q (l.map (·.p)) = (t, 0)) := by
        show _ = _
        unfold printR
        rw [HQ.out.run, writeP]
      obtain ⟨v, g1, g2, _⟩ := HQ.out.wt
      obtain ⟨va, vc, rfl, g3⟩ := g2.shape
      have u0 : wr.cell? ⟨tb, 0, none⟩ = some (.slice va t.length vc) := by simp [World.cell?, g1]
      have kv := conv_is g3 rfl
      obtain ⟨_, _, _, _, x1, x2, x3, x4⟩ := HQ.out.n.cells
      clear g1 g2 g3 hdrop
      go_wp2_with fail
      refine leaves_cons (f := 26) (args := #[.pointer (some ⟨D.heap.size + 1, 0, none⟩), .pointer (some ⟨D.heap.size + 1 + 1, 0, none⟩)]) (by simp) (by simp [go_sem]) ?_
      refine (printD_idle _ _ _).mono ?_
      rintro e u' w'' ⟨rfl, rfl, rfl⟩
      have hs := HQ.out.n.set ⟨t.toArray⟩ 0
      exact print_leaves rfl rfl hs.2.1 hs.2.2 ⟨hs.1, by rw [HR.out]⟩
theorem print_any19 (D : World) (j s q : Int) (sv : Value) (l : List Sq) (T : Tabs D) (h6 : 6 ≤ D.heap.size) (hp : PlayIn D sv l) :
    Calls Tryd.prog 10 #[.agg #[.int .i64 j, .int .i64 s, .int .i64 q, sv]] D (PrintPost D j s q (l.map (·.p))) := by
  have hv : ∃ a c, sv = .slice a l.length c := by
    obtain ⟨⟨a, c, h, _⟩, _⟩ := hp
    exact ⟨a, c, h⟩
  cases hc : configB j s q
  · obtain ⟨a, c, h⟩ := hv
    exact print_conf D j s q sv _ ⟨a, _, c, h⟩ hc
  · by_cases hl : l.length ≤ 4000
    · exact print_walk D j s q sv l T h6 hp hc hl
    · exact print_many D j s q sv _ (by simpa using hv) hc (by simp; omega)
end Go.Proofs.YteaccpolmmkclaaDoor
