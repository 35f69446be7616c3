/-
  Connections in memory.
-/
import Derived.Test.YtogmobkkpmpdcaaBook
import Derived.Test.YtogmobkkpmpdcaaAll1I
import Derived.Test.YtogmobkkpmpdcaaVTabI
namespace Go.Proofs.Ytogmobkkpmpdcaa
open Go.RowKit
abbrev ptrV (b : Nat) : Value := .pointer (some ⟨b, 0, none⟩)
/-- A connection: its block, its book's, the book's map; what it uses; how many names it watches, and which; its ticket; until when; whether it put, asked. -/
structure Cn where
  blk : Nat
  bb : Nat
  bm : Nat
  us : ByteArray
  n : Nat
  g : Text → Option Int
  tk : Int
  un : Int
  pu : Bool
  ta : Bool
def Cn.cells (x : Cn) : Array Value := #[.string x.us, ptrV x.bb, .int .i64 x.tk, .int .i64 x.un, .bool x.pu, .bool x.ta]
structure CnAt (w : World) (lab : Nat → Int) (i : Int) (x : Cn) : Prop where
  box : w.heap[x.blk]? = some (.cells x.cells 64 (0, 0))
  book : BookAt w x.bb x.bm x.n x.g
  bt : ∃ c, w.heap[x.bb]? = some (.cells c 91 (0, 0))
  l1 : lab x.blk = i
  l2 : lab x.bb = i
  l3 : lab x.bm = i
theorem CnAt.lt {w : World} {lab : Nat → Int} {i : Int} {x : Cn} (h : CnAt w lab i x) : x.blk < w.heap.size ∧ x.bb < w.heap.size ∧ x.bm < w.heap.size :=
  ⟨(Array.getElem?_eq_some_iff.1 h.box).1, cell_lt h.book.cell, h.book.tab.lt⟩
theorem CnAt.cell {w : World} {lab : Nat → Int} {i : Int} {x : Cn} (h : CnAt w lab i x) (k : Nat) : w.cell? ⟨x.blk, k, none⟩ = x.cells[k]? := by
  simp [World.cell?, h.box]
theorem CnAt.froz {w : World} {lab : Nat → Int} {i : Int} {x : Cn} (h : CnAt w lab i x) (k : Nat) : w.frozen? ⟨x.blk, k, none⟩ = false := by
  simp [World.frozen?, h.box]
theorem CnAt.kept {w w' : World} {lab lab' : Nat → Int} {i : Int} {x : Cn} (h : CnAt w lab i x) {P : Nat → Prop} (hk : Kept P w w') (hP : ∀ k, k < w.heap.size → P k → lab k ≠ i) (hl : ∀ k, k < w.heap.size → lab' k = lab k) : CnAt w' lab' i x := by
  obtain ⟨a, b, c⟩ := h.lt
  obtain ⟨cb, hcb⟩ := h.bt
  exact ⟨(hk.block _ a (fun hp => hP _ a hp h.l1)).trans h.box, h.book.kept hk (fun hp => hP _ b hp h.l2) (fun hp => hP _ c hp h.l3), ⟨cb, (hk.block _ b (fun hp => hP _ b hp h.l2)).trans hcb⟩, (hl _ a).trans h.l1, (hl _ b).trans h.l2, (hl _ c).trans h.l3⟩
/-- Connections: their map, the line and its map; how many; which; the ticket that was given last; who waits. -/
structure Sx where
  mb : Nat
  qb : Nat
  qm : Nat
  nn : Nat
  F : Int → Option Cn
  gv : Int
  R : List que.Stand
/-- Block sb has connections. Each block from B on has a mark: -1 the map's, -2 the line's, else whose connection's it is; -3 nobody's. -/
structure SAt (B : Nat) (w : World) (lab : Nat → Int) (sb : Nat) (S : Sx) : Prop where
  box : w.heap[sb]? = some (.cells #[.map (some S.mb), ptrV S.qb] 51 (0, 0))
  tab : VTabI w S.mb S.nn (fun i => (S.F i).map (fun x => ptrV x.blk))
  line : que.QueueAtI w S.qb S.qm S.gv S.R
  each : ∀ i x, S.F i = some x → CnAt w lab i x
  l0 : lab sb = -1
  l1 : lab S.mb = -1
  l2 : ∀ k, que.Mine S.qb S.qm S.R k → lab k = -2
  rng : ∀ i x, S.F i = some x → 0 ≤ i ∧ i < 64
  old : ∀ k, k < B → lab k = -3
  sz : B ≤ w.heap.size
theorem SAt.lt {B : Nat} {w : World} {lab : Nat → Int} {sb : Nat} {S : Sx} (h : SAt B w lab sb S) : sb < w.heap.size := (Array.getElem?_eq_some_iff.1 h.box).1
theorem SAt.cell0 {B : Nat} {w : World} {lab : Nat → Int} {sb : Nat} {S : Sx} (h : SAt B w lab sb S) : w.cell? ⟨sb, 0, none⟩ = some (.map (some S.mb)) ∧ w.cell? ⟨sb, 1, none⟩ = some (ptrV S.qb) := by
  constructor <;> simp [World.cell?, h.box]
/-- Nothing of it is written into. -/
theorem SAt.later {B : Nat} {w w' : World} {lab : Nat → Int} {sb : Nat} {S : Sx} (h : SAt B w lab sb S) (hb : Below w.heap.size w w') : SAt B w' lab sb S :=
  ⟨(hb.block _ h.lt).trans h.box, h.tab.block (hb.block _ h.tab.lt), h.line.below hb, fun i x hx => (h.each i x hx).kept (P := fun _ => False) (Kept.ofBelow hb) (fun _ _ h => h.elim) (fun _ _ => rfl), h.l0, h.l1, h.l2, h.rng, h.old, Nat.le_trans h.sz hb.size⟩
/-- Rows of numbers stay. -/
structure Sd (w w' : World) : Prop where
  size : w.heap.size ≤ w'.heap.size
  row : ∀ (k : Nat) (c : Array Value), w.heap[k]? = some (.cells c 3 (0, 0)) → w'.heap[k]? = w.heap[k]?
theorem Sd.refl (w : World) : Sd w w := ⟨Nat.le_refl _, fun _ _ _ => rfl⟩
theorem Sd.trans {a b c : World} (h : Sd a b) (k : Sd b c) : Sd a c := ⟨Nat.le_trans h.size k.size, fun i r hr => (k.row i r ((h.row i r hr).trans hr)).trans (h.row i r hr)⟩
theorem Sd.ofBelow {a b : World} (h : Below a.heap.size a b) : Sd a b := ⟨h.size, fun k _ hc => h.block k (Array.getElem?_eq_some_iff.1 hc).1⟩
theorem Sd.ofKept {P : Nat → Prop} {a b : World} (h : Kept P a b) (hP : ∀ k c, P k → a.heap[k]? ≠ some (.cells c 3 (0, 0))) : Sd a b := ⟨h.size, fun k c hc => h.block k (Array.getElem?_eq_some_iff.1 hc).1 (fun hp => hP k c hp hc)⟩
theorem VTabI.no {w : World} {mb n : Nat} {g : Int → Option Value} (h : VTabI w mb n g) (c : Array Value) (t : TypeId) : w.heap[mb]? ≠ some (.cells c t (0, 0)) := by
  obtain ⟨es, cl, hm⟩ := h.map
  rw [hm]
  intro e
  cases e
theorem SAt.lineNo {B : Nat} {w : World} {lab : Nat → Int} {sb : Nat} {S : Sx} (h : SAt B w lab sb S) : ∀ k c, que.Mine S.qb S.qm S.R k → w.heap[k]? ≠ some (.cells c 3 (0, 0)) := fun _ _ hm hc => h.line.not hc (by decide) (by decide) hm
theorem CnAt.no {w : World} {lab : Nat → Int} {i : Int} {x : Cn} (h : CnAt w lab i x) : (∀ c, w.heap[x.blk]? ≠ some (.cells c 3 (0, 0))) ∧ (∀ c, w.heap[x.bb]? ≠ some (.cells c 3 (0, 0))) ∧ ∀ c, w.heap[x.bm]? ≠ some (.cells c 3 (0, 0)) := by
  refine ⟨fun c e => ?_, fun c e => ?_, fun c e => ?_⟩
  · rw [h.box] at e; simp at e
  · obtain ⟨cb, hcb⟩ := h.bt; rw [hcb] at e; simp at e
  · obtain ⟨es, cl, hm⟩ := h.book.tab.map; rw [hm] at e; cases e
/-- Rows of numbers are written into. -/
theorem SAt.ints {B : Nat} {w w' : World} {lab : Nat → Int} {sb : Nat} {S : Sx} (h : SAt B w lab sb S) {P : Nat → Prop} (hk : Kept P w w') (hP : ∀ k, k < w.heap.size → P k → ∃ c, w.heap[k]? = some (.cells c 3 (0, 0))) : SAt B w' lab sb S := by
  refine ⟨(hk.block _ h.lt (fun hp => ?_)).trans h.box, h.tab.block (hk.block _ h.tab.lt (fun hp => ?_)), h.line.kept hk (fun k hm hp => ?_), fun i x hx => ?_, h.l0, h.l1, h.l2, h.rng, h.old, Nat.le_trans h.sz hk.size⟩
  · obtain ⟨c, hc⟩ := hP _ h.lt hp
    rw [h.box] at hc
    simp at hc
  · obtain ⟨c, hc⟩ := hP _ h.tab.lt hp
    exact h.tab.no c _ hc
  · obtain ⟨c, hc⟩ := hP _ (h.line.lt hm) hp
    exact h.lineNo k c hm hc
  · have hc := h.each i x hx
    obtain ⟨n1, n2, n3⟩ := hc.no
    obtain ⟨t1, t2, t3⟩ := hc.lt
    have b1 : ¬ P x.blk := fun hp => by obtain ⟨c, e⟩ := hP _ t1 hp; exact n1 c e
    have b2 : ¬ P x.bb := fun hp => by obtain ⟨c, e⟩ := hP _ t2 hp; exact n2 c e
    have b3 : ¬ P x.bm := fun hp => by obtain ⟨c, e⟩ := hP _ t3 hp; exact n3 c e
    obtain ⟨cb, hcb⟩ := hc.bt
    exact ⟨(hk.block _ t1 b1).trans hc.box, hc.book.kept hk b2 b3, ⟨cb, (hk.block _ t2 b2).trans hcb⟩, hc.l1, hc.l2, hc.l3⟩
def updF (F : Int → Option Cn) (i : Int) (v : Option Cn) : Int → Option Cn := fun j => if j = i then v else F j
/-- A connection is changed. -/
theorem SAt.turned {B : Nat} {w w' : World} {lab lab' : Nat → Int} {sb : Nat} {S : Sx} (h : SAt B w lab sb S) {i : Int} {x x' : Cn} (hx : S.F i = some x) {P : Nat → Prop} (hk : Kept P w w') (hP : ∀ k, k < w.heap.size → P k → lab k = i) (hl : ∀ k, k < w.heap.size → lab' k = lab k)
    (hx' : CnAt w' lab' i x') (hb : x'.blk = x.blk) : SAt B w' lab' sb { S with F := updF S.F i (some x') } ∧ Below B w w' := by
  have hr := h.rng i x hx
  have no : ∀ k, k < w.heap.size → lab k < 0 → ¬ P k := fun k hk hn hp => by have := hP k hk hp; omega
  refine ⟨⟨(hk.block _ h.lt (no _ h.lt (by rw [h.l0]; decide))).trans h.box, ?_, h.line.kept hk (fun k hm => no k (h.line.lt hm) (by rw [h.l2 k hm]; decide)), ?_, (hl _ h.lt).trans h.l0, (hl _ h.tab.lt).trans h.l1, fun k hm => (hl _ (h.line.lt hm)).trans (h.l2 k hm), ?_, fun k hB => (hl k (Nat.lt_of_lt_of_le hB h.sz)).trans (h.old k hB), Nat.le_trans h.sz hk.size⟩, hk.below h.sz fun k hB hp => ?_⟩
  · refine (h.tab.block (hk.block _ h.tab.lt (no _ h.tab.lt (by rw [h.l1]; decide)))).congr rfl (fun j => ?_)
    simp only [updF]
    split
    · rename_i e
      subst e
      rw [hx, Option.map_some, Option.map_some, hb]
    · rfl
  · intro j y hy
    simp only [updF] at hy
    split at hy
    · rename_i e
      subst e
      cases hy
      exact hx'
    · rename_i e
      exact (h.each j y hy).kept hk (fun k hk hp e2 => e (e2.symm.trans (hP k hk hp))) hl
  · intro j y hy
    simp only [updF] at hy
    split at hy
    · rename_i e
      subst e
      exact hr
    · exact h.rng j y hy
  · have h1 := h.old k hB
    have h2 := hP k (Nat.lt_of_lt_of_le hB h.sz) hp
    omega
/-- The line is changed. -/
theorem SAt.lined {B : Nat} {w w' : World} {lab : Nat → Int} {sb : Nat} {S : Sx} (h : SAt B w lab sb S) {gv : Int} {R : List que.Stand} {P : Nat → Prop} (hk : Kept P w w') (hP : ∀ k, P k → que.Mine S.qb S.qm S.R k) (hq : que.QueueAtI w' S.qb S.qm gv R) (hR : ∀ k, que.Mine S.qb S.qm R k → que.Mine S.qb S.qm S.R k ∨ w.heap.size ≤ k) :
    ∃ lab', SAt B w' lab' sb { S with gv := gv, R := R } ∧ Below B w w' ∧ ∀ k, k < w.heap.size → lab' k = lab k := by
  have hl : ∀ k, k < w.heap.size → (fun k => if k < w.heap.size then lab k else -2 : Nat → Int) k = lab k := fun k hk => if_pos hk
  have no : ∀ k, lab k ≠ -2 → ¬ P k := fun k hn hp => hn (h.l2 k (hP k hp))
  refine ⟨fun k => if k < w.heap.size then lab k else -2, ⟨(hk.block _ h.lt (no _ (by rw [h.l0]; decide))).trans h.box, h.tab.block (hk.block _ h.tab.lt (no _ (by rw [h.l1]; decide))), hq, fun j y hy => (h.each j y hy).kept hk (fun k _ hp e => ?_) hl, (hl _ h.lt).trans h.l0, (hl _ h.tab.lt).trans h.l1, fun k hm => ?_, h.rng, fun k hB => (hl k (Nat.lt_of_lt_of_le hB h.sz)).trans (h.old k hB), Nat.le_trans h.sz hk.size⟩, hk.below h.sz fun k hB hp => ?_, hl⟩
  · have h1 := h.rng j y hy
    have h2 := h.l2 k (hP k hp)
    omega
  · by_cases hlt : k < w.heap.size
    · rcases hR k hm with h1 | h1
      · exact (hl k hlt).trans (h.l2 k h1)
      · omega
    · exact if_neg hlt
  · have h1 := h.old k hB
    have h2 := h.l2 k (hP k hp)
    omega
/-- A connection comes. -/
theorem SAt.came {B : Nat} {w w1 w2 : World} {lab : Nat → Int} {sb : Nat} {S : Sx} (h : SAt B w lab sb S) {i : Int} {x : Cn} (hi : 0 ≤ i ∧ i < 64) (hn : S.F i = none) (h1 : Below w.heap.size w w1) (hx : ∀ lab', (∀ k, w.heap.size ≤ k → k < w1.heap.size → lab' k = i) → CnAt w1 lab' i x)
    (ht : VTabI w2 S.mb (S.nn + 1) (putVI (fun i => (S.F i).map (fun x => ptrV x.blk)) i (ptrV x.blk))) (h2 : Kept (fun k => k = S.mb) w1 w2) : ∃ lab', SAt B w2 lab' sb { S with F := updF S.F i (some x), nn := S.nn + 1 } ∧ Below B w w2 := by
  obtain ⟨lab', hlab⟩ : ∃ lab' : Nat → Int, lab' = fun k => if k < w.heap.size then lab k else i := ⟨_, rfl⟩
  have hl : ∀ k, k < w.heap.size → lab' k = lab k := fun k hk => by rw [hlab]; exact if_pos hk
  have hx1 : CnAt w1 lab' i x := hx lab' (fun k hk _ => by rw [hlab]; exact if_neg (by omega))
  have s1 := h1.size
  have hmb := h.tab.lt
  have hk : Kept (fun k => k = S.mb) w w2 := (Kept.ofBelow h1).trans h2
  have no : ∀ k, lab k ≠ -1 → ¬ k = S.mb := fun k hn e => hn (by rw [e]; exact h.l1)
  refine ⟨lab', ⟨(h2.block _ (Nat.lt_of_lt_of_le h.lt s1) (fun e => ?_)).trans ((h1.block _ h.lt).trans h.box), ht.congr rfl (fun j => ?_), h.line.kept hk (fun k hm e => no k (by rw [h.l2 k hm]; decide) e), fun j y hy => ?_, (hl _ h.lt).trans h.l0, (hl _ hmb).trans h.l1, fun k hm => (hl _ (h.line.lt hm)).trans (h.l2 k hm), fun j y hy => ?_, fun k hB => (hl k (Nat.lt_of_lt_of_le hB h.sz)).trans (h.old k hB), Nat.le_trans h.sz hk.size⟩, hk.below h.sz fun k hB e => ?_⟩
  · obtain ⟨es, cl, hm⟩ := h.tab.map
    have hb := h.box
    rw [show sb = S.mb from e, hm] at hb
    cases hb
  · simp only [updF, putVI]
    split <;> rfl
  · simp only [updF] at hy
    split at hy
    · rename_i e
      subst e
      cases hy
      exact hx1.kept h2 (fun k _ e hj => by rw [show k = S.mb from e, hl _ hmb, h.l1] at hj; omega) (fun _ _ => rfl)
    · rename_i e
      refine (h.each j y hy).kept hk (fun k _ e hj => ?_) hl
      rw [show k = S.mb from e, h.l1] at hj
      have := h.rng j y hy
      omega
  · simp only [updF] at hy
    split at hy
    · rename_i e
      subst e
      exact hi
    · exact h.rng j y hy
  · have h3 := h.old k hB
    rw [show k = S.mb from e, h.l1] at h3
    cases h3
/-- A connection goes. -/
theorem SAt.went {B : Nat} {w w2 : World} {lab : Nat → Int} {sb : Nat} {S : Sx} (h : SAt B w lab sb S) {i : Int}
    (ht : VTabI w2 S.mb (S.nn - 1) (delVI (fun i => (S.F i).map (fun x => ptrV x.blk)) i)) (hk : Kept (fun k => k = S.mb) w w2) : SAt B w2 lab sb { S with F := updF S.F i none, nn := S.nn - 1 } ∧ Below B w w2 := by
  have hmb := h.tab.lt
  have no : ∀ k, lab k ≠ -1 → ¬ k = S.mb := fun k hn e => hn (by rw [e]; exact h.l1)
  refine ⟨⟨(hk.block _ h.lt (fun e => ?_)).trans h.box, ht.congr rfl (fun j => ?_), h.line.kept hk (fun k hm e => no k (by rw [h.l2 k hm]; decide) e), fun j y hy => ?_, h.l0, h.l1, h.l2, fun j y hy => ?_, h.old, Nat.le_trans h.sz hk.size⟩, hk.below h.sz fun k hB e => ?_⟩
  · obtain ⟨es, cl, hm⟩ := h.tab.map
    have hb := h.box
    rw [show sb = S.mb from e, hm] at hb
    cases hb
  · simp only [updF, delVI]
    split <;> rfl
  · simp only [updF] at hy
    split at hy
    · cases hy
    · refine (h.each j y hy).kept hk (fun k _ e hj => ?_) (fun _ _ => rfl)
      rw [show k = S.mb from e, h.l1] at hj
      have := h.rng j y hy
      omega
  · simp only [updF] at hy
    split at hy
    · cases hy
    · exact h.rng j y hy
  · have h3 := h.old k hB
    rw [show k = S.mb from e, h.l1] at h3
    cases h3
end Go.Proofs.Ytogmobkkpmpdcaa
