/-
  LdK, OpArgs, TsK, OvW.
-/
import Derived.Test.YtnpofjeiamjioaaDkZ
import Derived.Test.YtnpofjeiamjioaaFsW
import Derived.Test.YtnpofjeiamjioaaDkC
import Derived.Test.YtnpofjeiamjioaaLnZ
import Derived.Test.YtnpofjeiamjioaaArX
import Derived.ChangeArms
namespace Go.Proofs.Ytnpofjeiamjioaa
open Go.RowKit Go.Maps

structure Ds (W : World) (B pb db mb rb hb M : Nat) (q : Int) (L : List Fl) (n : Nat) (vs : Int → Value) (fv : Value) (F : List (Fl × Value)) (vo vw : Value) (P : List Ls) (sz : Int) (w : World) : Prop where
  pr : Pr w B db mb q L vs rb fv F
  bk : Bk True w B hb vo vw P sz M
  len : P.length = n
  ap : ∀ g, FdB hb vo vw P g → ¬ PM db mb L vs rb fv F g
  box : w.heap[pb]? = some (.cells #[.pointer (some ⟨db, 0, none⟩), .pointer (some ⟨rb, 0, none⟩)] 33 (0, 0))
  np : ¬ PM db mb L vs rb fv F pb
  nf : ¬ FdB hb vo vw P pb
  bw : Below B W w
  hB : B ≤ w.heap.size
section
variable {W w w' : World} {B pb db mb rb hb M n : Nat} {q : Int} {L L' : List Fl} {vs : Int → Value} {fv : Value} {F : List (Fl × Value)} {vo vw : Value} {P : List Ls} {sz : Int}
theorem Bk.kept {S : Prop} {K : Nat → Prop} (h : Bk S w B hb vo vw P sz M) (hk : Kept K w w') (hK : ∀ g, FdB hb vo vw P g → ¬ K g) : Bk S w' B hb vo vw P sz M := ⟨h.fd.kept hk hK, h.ap, h.eq, h.few⟩
theorem Bk.later {S : Prop} (h : Bk S w B hb vo vw P sz M) (hl : Below w.heap.size w w') : Bk S w' B hb vo vw P sz M := h.kept (K := fun _ => False) (Kept.ofBelow hl) (fun _ _ e => e)
theorem Ds.blt (h : Ds W B pb db mb rb hb M q L n vs fv F vo vw P sz w) : pb < w.heap.size := (Array.getElem?_eq_some_iff.1 h.box).1
theorem Ds.cells (h : Ds W B pb db mb rb hb M q L n vs fv F vo vw P sz w) : w.cell? ⟨pb, 0, none⟩ = some (.pointer (some ⟨db, 0, none⟩)) ∧ w.cell? ⟨pb, 1, none⟩ = some (.pointer (some ⟨rb, 0, none⟩)) := by simp [World.cell?, h.box]
theorem Ds.does (h : Ds W B pb db mb rb hb M q L n vs fv F vo vw P sz w) (hp : PrP w B db mb q L vs rb fv F L' w') : ∃ vs' fv' F', Ds W B pb db mb rb hb M q L' n vs' fv' F' vo vw P sz w' := by
  obtain ⟨k, vs', fv', F', pr, hm⟩ := hp
  have hlt := h.blt
  refine ⟨vs', fv', F', pr, h.bk.kept k (fun g e => h.ap g e), h.len, fun g e e2 => ?_, (k.block _ hlt h.np).trans h.box, fun e => ?_, h.nf, h.bw.trans (k.below h.hB (fun j hj e => by have := h.pr.ge j e; omega)), Nat.le_trans h.hB k.size⟩
  · rcases hm g e2 with e3 | e3
    · exact h.ap g e e3
    · have := h.bk.fd.blt e; omega
  · rcases hm _ e with e3 | e3
    · exact h.np e3
    · omega
theorem Ds.looks (h : Ds W B pb db mb rb hb M q L n vs fv F vo vw P sz w) (hp : LooksP True w B db mb q L vs rb fv F hb vo vw P sz M w') : ∃ vo' vw' sz' P', Ds W B pb db mb rb hb M q L (n + 2) vs fv F vo' vw' P' sz' w' := by
  obtain ⟨k0, pr, vo', vw', sz', P', bk, hl, hm, _⟩ := hp
  have k : Kept (FdB hb vo vw P) w w' := k0.mono (fun g _ e => Fd3.b e)
  have hlt := h.blt
  refine ⟨vo', vw', sz', P', pr, bk, by rw [hl, h.len], fun g e e2 => ?_, (k.block _ hlt h.nf).trans h.box, h.np, fun e => ?_, h.bw.trans (k.below h.hB (fun j hj e => by have := h.bk.fd.bge e; omega)), Nat.le_trans h.hB k.size⟩
  · rcases hm g e with e3 | e3
    · exact h.ap g e3 e2
    · have := h.pr.blt e2; omega
  · rcases hm _ e with e3 | e3
    · exact h.nf e3
    · omega
theorem Ds.drew (h : Ds W B pb db mb rb hb M q L n vs fv F vo vw P sz w) : Ds W B pb db mb rb hb M q L n vs fv F vo vw P sz w.drew :=
  ⟨h.pr.later (Below.refl _ w).drew, h.bk.later (Below.refl _ w).drew, h.len, h.ap, h.box, h.np, h.nf, h.bw.drew, h.hB⟩
/-- A load of a struct that lies within a row. -/
theorem run_loadM {P : Program} {o : Oper} {a : Act} {w : World} {ty : TypeId} {x : Operand} {b ofs : Nat} {cs : List Value} {d : TypeDesc} (ho : o.op = .load ty x) (hx : a.eval x = .pointer (some ⟨b, ofs, none⟩)) (hc : w.rangeAt b ofs cs)
    (hu : P.underlying ty = some d) (hd : d.isRow = true) (hi : (P.info? ty).map (·.size) = some cs.length) : (execOp a.eval o).run P w = .ok (.value (.agg cs.toArray)) w := by
  unfold execOp
  simp only [ho, hx, Instr.loadAt, Instr.sureAddr, Sem.run_bind, Sem.run_pure, Result.andThen_ok, run_loadVar_mid w b ofs ty cs d hc hu hd hi]
theorem odb_few : ∀ (P : List Ls) (M : Nat), (∀ x ∈ P, x.l.length ≤ M) → (odb (skL P)).length ≤ P.length * M
  | [], M, _ => by simp [odb, skL]
  | x :: P, M, h => by
    have ih := odb_few P M (fun y hy => h y (List.mem_cons_of_mem _ hy))
    have hx := h x List.mem_cons_self
    have e : (odb (skL (x :: P))).length = x.l.length + (odb (skL P)).length := by simp [odb, skL, Ls.k]
    rw [e, List.length_cons, Nat.succ_mul]
    omega
theorem Ds.fews (h : Ds W B pb db mb rb hb 2097152 q L n vs fv F vo vw P sz w) (hn : n ≤ 8) : (odb (skL P)).length ≤ 16777216 := by
  have h1 := odb_few P 2097152 (fun x hx => (h.bk.few trivial x hx).1)
  have h2 : P.length * 2097152 ≤ 8 * 2097152 := Nat.mul_le_mul_right _ (by rw [h.len]; exact hn)
  omega
theorem bk_nil {ob : Nat} (hb : w.heap[ob]? = some (.cells #[.slice none 0 0, .slice none 0 0, .int .i64 0] 36 (0, 0))) (hB : B ≤ ob) (M : Nat) : Bk True w B ob (.slice none 0 0) (.slice none 0 0) [] 0 M := by
  refine ⟨⟨⟨hb, hB, World.ownsRow_nil _ _ _ _, World.ownsRow_nil _ _ _ _, fun g e => (by cases e)⟩, fun x hx => (by cases hx)⟩, fun _ => aps_nil, fun _ x hx => (by cases hx), fun _ x hx => (by cases hx)⟩
theorem fdb_nil {g : Nat} (h : FdB hb (.slice none 0 0) (.slice none 0 0) [] g) : g = hb := by
  rcases h with e | e | e | ⟨x, hx, _⟩
  · exact e
  · cases e
  · cases e
  · cases hx
end
end Go.Proofs.Ytnpofjeiamjioaa

namespace Go.Proofs.Ytnpofjeiamjioaa
open Go.ChangeShapes Go.WideShapes Go.ChangeAt Go.RowKit

/-- A step: to which disk, its kind, its act, what is kept. -/
structure OpI where
  sec : Bool
  kind : Int
  act : ActI
  keep : List Int
def opCells (x : OpI) (da : Option Addr) (dc : Nat) (ka : Option Addr) (kc : Nat) : List Value := [.bool x.sec, .int .i64 x.kind, .int .i64 x.act.kind, .int .i64 x.act.file, .slice da x.act.data.length dc, .int .i64 x.act.size, .slice ka x.keep.length kc]
/-- The cells of one. -/
def OpAt (w : World) (b o : Nat) (x : OpI) : Prop :=
  ∃ da dc ka kc, (∀ k u, (opCells x da dc ka kc)[k]? = some u → w.cell? ⟨b, o + k, none⟩ = some u) ∧ IsBytes w da dc x.act.data ∧ IsInts w ka kc x.keep
def opFits (x : OpI) : Prop := (Lit.int .i64 x.kind).wf = true ∧ actFits x.act
/-- The slice at 'a', of capacity c, has the steps l. -/
def IsOps (w : World) (a : Option Addr) (c : Nat) (l : List OpI) : Prop :=
  l.length ≤ c ∧ c ≤ maxLen ∧ (∀ x ∈ l, opFits x) ∧ (l = [] ∨ ∃ b o, a = some ⟨b, o, none⟩ ∧ b < w.heap.size ∧ ∀ (j : Nat) x, l[j]? = some x → OpAt w b (o + j * 7) x)
/-- How many steps, bytes and numbers. -/
def totO (l : List OpI) : Nat := (l.map fun x => x.act.data.length + x.keep.length + 1).sum
theorem intsLow {w w' : World} {a : Option Addr} {c : Nat} {l : List Int} (h : IsInts w a c l) (hb : Below w.heap.size w w') : IsInts w' a c l := h.block hb.size (fun b _ _ hlt _ => hb.block b hlt)
theorem OpAt.below {w w' : World} {b o : Nat} {x : OpI} (h : OpAt w b o x) (hb : b < w.heap.size) (hB : Below w.heap.size w w') : OpAt w' b o x := by
  obtain ⟨da, dc, ka, kc, h1, h2, h3⟩ := h
  exact ⟨da, dc, ka, kc, fun k u hu => (hB.cell (p := ⟨b, o + k, none⟩) hb).trans (h1 k u hu), h2.below hB, intsLow h3 hB⟩
theorem IsOps.below {w w' : World} {a : Option Addr} {c : Nat} {l : List OpI} (h : IsOps w a c l) (hB : Below w.heap.size w w') : IsOps w' a c l := by
  obtain ⟨h1, h2, h3, h4⟩ := h
  refine ⟨h1, h2, h3, ?_⟩
  rcases h4 with h | ⟨b, o, ha, hb, hc⟩
  · exact .inl h
  · exact .inr ⟨b, o, ha, Nat.lt_of_lt_of_le hb hB.size, fun j x hj => (hc j x hj).below hb hB⟩
theorem IsOps.at {w : World} {a : Option Addr} {c : Nat} {l : List OpI} (h : IsOps w a c l) {j : Nat} {x : OpI} (hx : l[j]? = some x) : ∃ b o, a = some ⟨b, o, none⟩ ∧ b < w.heap.size ∧ OpAt w b (o + j * 7) x := by
  rcases h.2.2.2 with rfl | ⟨b, o, ha, hb, hc⟩
  · simp at hx
  · exact ⟨b, o, ha, hb, hc j x hx⟩
theorem open_nums1 {H : Type} {enc : TypeId × Value → H} {W : World} {v : Value} {fuel : Nat} {x : DataW H × List MemPlace}
    (hf : DataW.trod enc Try.prog W 0 (fun _ => true) true fuel 40 [v] = some x) :
    ∃ y : List Int, ∃ a c, v = .slice a y.length c ∧ IsInts W a c y ∧ y.length + 1 ≤ Rows.uptoBulk x.1 := by
  obtain ⟨d, p⟩ := x
  have hv : ∃ a n c, v = .slice a n c := by
    rcases open_ints Try.underlying40 Try.underlying3 (by kernel_rfl) hf with ⟨hcs, _⟩ | ⟨x, l, c, zs, hcs, _⟩
    · exact ⟨none, 0, 0, by simpa using hcs⟩
    · exact ⟨some x, l, c, by simpa using hcs⟩
  obtain ⟨a, n, c, rfl⟩ := hv
  obtain ⟨l, rfl, h, hb⟩ := open_nums (a := a) (len := n) (cap := c) hf
  exact ⟨l, a, c, rfl, h.1, hb⟩

set_option maxRecDepth 100000 in
theorem open_op {H : Type} {enc : TypeId × Value → H} {W : World} {n : Nat} {cs : List Value} {x : DataW H × List MemPlace}
    (h : DataW.trod enc Try.prog W 0 (fun _ => true) true n 42 cs = some x) : ∃ (y : OpI) (da : Option Addr) (dc : Nat) (ka : Option Addr) (kc : Nat), cs = opCells y da dc ka kc ∧ IsBytes W da dc y.act.data ∧ IsInts W ka kc y.keep ∧ opFits y ∧ y.act.data.length + y.keep.length + 1 ≤ Rows.uptoBulk x.1 := by
  obtain ⟨xs, k, _, hx, hl, hlen, hfs⟩ := DataW.trod_struct Try.underlying42 h
  have hc : Try.prog.cellsOf 42 = 7 := by kernel_rfl
  rw [hc] at hl
  match cs, hl with
  | [v0, v1, v2, v3, v4, v5, v6], _ =>
    have each : ∀ (i : Nat), i < 4 → ∃ y, xs[i]? = some y := fun i hi => ⟨_, List.getElem?_eq_getElem (by rw [hlen]; exact hi)⟩
    obtain ⟨x0, e0⟩ := each 0 (by decide)
    obtain ⟨x1, e1⟩ := each 1 (by decide)
    obtain ⟨x2, e2⟩ := each 2 (by decide)
    obtain ⟨x3, e3⟩ := each 3 (by decide)
    have hcl : Try.prog.cellsOf 4 = 1 := by kernel_rfl
    have hci : Try.prog.cellsOf 3 = 1 := by kernel_rfl
    have hca : Try.prog.cellsOf 39 = 4 := by kernel_rfl
    have hcb : Try.prog.cellsOf 40 = 1 := by kernel_rfl
    have t0 : DataW.trod enc Try.prog W 0 (fun _ => true) true k 4 [v0] = some x0 := by simpa [hcb, hci, hcl, hca] using (hfs 0 _ rfl).trans e0
    have t1 : DataW.trod enc Try.prog W 0 (fun _ => true) true k 3 [v1] = some x1 := by simpa [hcb, hci, hcl, hca] using (hfs 1 _ rfl).trans e1
    have t2 : DataW.trod enc Try.prog W 0 (fun _ => true) true k 39 [v2, v3, v4, v5] = some x2 := by simpa [hcb, hci, hcl, hca] using (hfs 2 _ rfl).trans e2
    have t3 : DataW.trod enc Try.prog W 0 (fun _ => true) true k 40 [v6] = some x3 := by simpa [hcb, hci, hcl, hca] using (hfs 3 _ rfl).trans e3
    obtain ⟨a0, r0, _⟩ := DataW.trod_bool Try.underlying4 t0
    obtain ⟨a1, r1, _, f1⟩ := DataW.trod_int Try.underlying3 t1
    obtain ⟨ya, da, dc, r2, i2, f2, b2, _⟩ := open_act t2
    obtain ⟨yk, ka, kc, r3, i3, b3⟩ := open_nums1 t3
    simp only [List.cons.injEq, and_true] at r0 r1 r2
    obtain ⟨r2a, r2b, r2c, r2d⟩ := r2
    subst r0 r1 r2a r2b r2c r2d r3
    have hxs : xs = [x0, x1, x2, x3] := by
      apply List.ext_getElem?
      intro i
      match i with
      | 0 => exact e0
      | 1 => exact e1
      | 2 => exact e2
      | 3 => exact e3
      | i + 4 =>
        have hl3 : xs.length = 4 := by rw [hlen]; rfl
        rw [List.getElem?_eq_none (by omega)]
        rfl
    refine ⟨⟨a0, a1, ya, yk⟩, da, dc, ka, kc, rfl, i2, i3, ⟨f1, f2⟩, ?_⟩
    rw [hx, hxs]
    simp only [List.map_cons, List.map_nil, Rows.uptoBulk, Rows.uptoBulkAll]
    omega

theorem bulk_ops {H : Type} (D : Nat → DataW H) (y : Nat → OpI) : ∀ (l : List Nat), (∀ i ∈ l, (y i).act.data.length + (y i).keep.length + 1 ≤ Rows.uptoBulk (D i)) → totO (l.map y) ≤ Rows.uptoBulkAll (l.map D)
  | [], _ => by simp [totO]
  | i :: l, h => by
    have ih := bulk_ops D y l (fun j hj => h j (List.mem_cons_of_mem _ hj))
    have hi := h i List.mem_cons_self
    simp only [totO, List.map_cons, List.sum_cons, Rows.uptoBulkAll] at ih ⊢
    omega

set_option maxRecDepth 100000 in
theorem open_ops {H : Type} {enc : TypeId × Value → H} {W : World} {a : Option Addr} {len cap fuel : Nat} {d : DataW H} {p : List MemPlace}
    (hf : DataW.trod enc Try.prog W 0 (fun _ => true) true fuel 22 (Value.slice a len cap).cells.toList = some (d, p)) :
    ∃ l : List OpI, l.length = len ∧ IsOps W a cap l ∧ totO l + 1 ≤ Rows.uptoBulk d := by
  rcases Go.Deep.open_slice Try.underlying22 hf with ⟨hcs, hx⟩ | ⟨x, l, c, m, n, D, Pl, hcs, _, hl, hm, hmm, hx, hcell⟩
  · simp [Value.cells] at hcs
    obtain ⟨rfl, rfl, rfl⟩ := hcs
    simp only [Prod.mk.injEq] at hx
    exact ⟨[], rfl, ⟨by simp, by simp [maxLen], (fun x h => by cases h), .inl rfl⟩, by rw [hx.1]; simp [Rows.uptoBulk, totO]⟩
  · simp [Value.cells] at hcs
    obtain ⟨rfl, rfl, rfl⟩ := hcs
    simp only [if_true] at hmm
    subst hmm
    simp only [Prod.mk.injEq] at hx
    have hc : Try.prog.cellsOf 42 = 7 := by kernel_rfl
    haveI : Inhabited OpI := ⟨⟨false, 0, ⟨0, 0, 0, []⟩, []⟩⟩
    obtain ⟨y, hy⟩ := Deep.choose_lt (α := OpI) (p := fun i y => opFits y ∧ y.act.data.length + y.keep.length + 1 ≤ Rows.uptoBulk (D i) ∧ ∃ da dc ka kc, IsBytes W da dc y.act.data ∧ IsInts W ka kc y.keep ∧ ∀ k u, (opCells y da dc ka kc)[k]? = some u → W.cell? ((x.add (i * 7)).add k) = some u) (fun i hi => by
      obtain ⟨cs', h1, h2⟩ := hcell i hi
      rw [hc] at h1
      obtain ⟨_, hlen, hce⟩ := World.cells?_some h1
      obtain ⟨y, da, dc, ka, kc, rfl, hy1, hy2, hy3, hb⟩ := open_op h2
      exact ⟨y, hy3, hb, da, dc, ka, kc, hy1, hy2, fun k u hu => (hce k (by have := (List.getElem?_eq_some_iff.1 hu).1; simpa [opCells] using this)).trans hu⟩)
    refine ⟨(List.range len).map y, by simp, ⟨by simpa using hl, hm, ?_, ?_⟩, ?_⟩
    · intro z hz
      obtain ⟨i, hi, rfl⟩ := List.mem_map.1 hz
      exact (hy i (by have := List.mem_range.1 hi; omega)).1
    · by_cases h0 : len = 0
      · left; subst h0; simp
      · right
        obtain ⟨b, o, spot⟩ := x
        obtain ⟨_, _, _, _, _, _, _, _, hk0⟩ := hy 0 (by omega)
        have hc0 := hk0 0 _ rfl
        have hspot : spot = none := by simpa [Addr.add] using World.cell?_spot hc0
        subst hspot
        refine ⟨b, o, rfl, ?_, fun j z hj => ?_⟩
        · have := World.block_lt_of_cell? _ _ hc0
          simpa [Addr.add] using this
        · have hjl : j < len := by have := (List.getElem?_eq_some_iff.1 hj).1; simpa using this
          rw [List.getElem?_map, List.getElem?_range hjl] at hj
          simp only [Option.map_some, Option.some.injEq] at hj
          subst hj
          obtain ⟨_, _, da, dc, ka, kc, i1, i2, hk⟩ := hy j (by omega)
          have ea : ∀ k, ((⟨b, o, none⟩ : Addr).add (j * 7)).add k = ⟨b, o + j * 7 + k, none⟩ := fun k => by
            unfold Addr.add
            split <;> split <;> simp_all
          exact ⟨da, dc, ka, kc, fun k u hu => by rw [← ea]; exact hk k u hu, i1, i2⟩
    · have := bulk_ops D y (List.range len) (fun i hi => (hy i (by have := List.mem_range.1 hi; omega)).2.1)
      rw [hx.1]
      simp only [Rows.uptoBulk]
      omega
theorem totO_take (l : List OpI) (k : Nat) (x : OpI) (h : l[k]? = some x) : totO (l.take (k + 1)) = totO (l.take k) + (x.act.data.length + x.keep.length + 1) := by
  unfold totO
  rw [List.take_add_one, h]
  simp
theorem totO_le (l : List OpI) (k : Nat) : totO (l.take k) ≤ totO l := by
  have h : totO l = totO (l.take k) + totO (l.drop k) := by unfold totO; rw [← List.sum_append, ← List.map_append, List.take_append_drop]
  omega
theorem totO_len (l : List OpI) : l.length ≤ totO l := by
  induction l with
  | nil => simp
  | cons y l ih =>
    simp only [totO, List.map_cons, List.sum_cons, List.length_cons] at ih ⊢
    omega
end Go.Proofs.Ytnpofjeiamjioaa

namespace Go.Proofs.Ytnpofjeiamjioaa
open Go.RowKit Go.Maps

/-- A pair. -/
structure Pq where
  db : Nat
  mb : Nat
  rb : Nat
  q : Int
  L : List Fl
  vs : Int → Value
  fv : Value
  F : List (Fl × Value)
def Pq.At (p : Pq) (w : World) (B : Nat) : Prop := Pr w B p.db p.mb p.q p.L p.vs p.rb p.fv p.F
def Pq.M (p : Pq) (g : Nat) : Prop := PM p.db p.mb p.L p.vs p.rb p.fv p.F g
def ptrs (db rb : Nat) : Array Value := #[.pointer (some ⟨db, 0, none⟩), .pointer (some ⟨rb, 0, none⟩)]
def Pq.cells (p : Pq) : Array Value := ptrs p.db p.rb
/-- Two pairs and the book. -/
structure T2 (W : World) (B pb pc hb : Nat) (p o : Pq) (vo vw : Value) (P : List Ls) (sz : Int) (w : World) : Prop where
  pp : p.At w B
  po : o.At w B
  bk : Bk True w B hb vo vw P sz 2097152
  a1 : ∀ g, FdB hb vo vw P g → ¬ p.M g ∧ ¬ o.M g
  a3 : ∀ g, p.M g → ¬ o.M g
  b1 : w.heap[pb]? = some (.cells p.cells 33 (0, 0))
  b2 : w.heap[pc]? = some (.cells o.cells 33 (0, 0))
  n1 : ¬ p.M pb ∧ ¬ o.M pb ∧ ¬ FdB hb vo vw P pb
  n2 : ¬ p.M pc ∧ ¬ o.M pc ∧ ¬ FdB hb vo vw P pc
  ne : pb ≠ pc
  bw : Below B W w
  hB : B ≤ w.heap.size
  lo : B ≤ pb ∧ B ≤ pc
/-- How much there is. -/
structure Sz (n : Nat) (p o : Pq) (P : List Ls) (sz : Int) : Prop where
  lp : p.L.length ≤ n
  lo : o.L.length ≤ n
  bk : P.length ≤ n + n
  od : ((odb (skL P)).length : Int) ≤ sz
  hi : sz ≤ 1048576
section
variable {W w w' : World} {B pb pc hb n : Nat} {p o : Pq} {vo vw : Value} {P : List Ls} {sz : Int}
theorem Pq.At.blt (h : p.At w B) {g : Nat} (hg : p.M g) : g < w.heap.size := Pr.blt h hg
theorem Pq.At.bge (h : p.At w B) {g : Nat} (hg : p.M g) : B ≤ g := Pr.ge h g hg
theorem Pq.At.kept {K : Nat → Prop} (h : p.At w B) (hk : Kept K w w') (hK : ∀ g, p.M g → ¬ K g) : p.At w' B := Pr.kept h hk hK
theorem Pq.At.later (h : p.At w B) (hl : Below w.heap.size w w') : p.At w' B := Pr.later h hl
theorem T2.swap (h : T2 W B pb pc hb p o vo vw P sz w) : T2 W B pc pb hb o p vo vw P sz w :=
  ⟨h.po, h.pp, h.bk, fun g e => ⟨(h.a1 g e).2, (h.a1 g e).1⟩, fun g e e2 => h.a3 g e2 e, h.b2, h.b1, ⟨h.n2.2.1, h.n2.1, h.n2.2.2⟩, ⟨h.n1.2.1, h.n1.1, h.n1.2.2⟩, fun e => h.ne e.symm, h.bw, h.hB, ⟨h.lo.2, h.lo.1⟩⟩
theorem Sz.swap (h : Sz n p o P sz) : Sz n o p P sz := ⟨h.lo, h.lp, h.bk, h.od, h.hi⟩
theorem T2.lt (h : T2 W B pb pc hb p o vo vw P sz w) : pb < w.heap.size ∧ pc < w.heap.size := ⟨(Array.getElem?_eq_some_iff.1 h.b1).1, (Array.getElem?_eq_some_iff.1 h.b2).1⟩
theorem T2.later (h : T2 W B pb pc hb p o vo vw P sz w) (hl : Below w.heap.size w w') : T2 W B pb pc hb p o vo vw P sz w' :=
  ⟨h.pp.later hl, h.po.later hl, h.bk.later hl, h.a1, h.a3, (hl.block _ h.lt.1).trans h.b1, (hl.block _ h.lt.2).trans h.b2, h.n1, h.n2, h.ne, h.bw.trans (hl.mono h.hB), Nat.le_trans h.hB hl.size, h.lo⟩
/-- An act, a crash: of the first pair. -/
theorem T2.does {L' : List Fl} (h : T2 W B pb pc hb p o vo vw P sz w) (hp : PrP w B p.db p.mb p.q p.L p.vs p.rb p.fv p.F L' w') : ∃ p', p'.L = L' ∧ p'.cells = p.cells ∧ T2 W B pb pc hb p' o vo vw P sz w' := by
  obtain ⟨k, vs', fv', F', pr, hm⟩ := hp
  have k' : Kept p.M w w' := k
  have hm' : ∀ g, (⟨p.db, p.mb, p.rb, p.q, L', vs', fv', F'⟩ : Pq).M g → p.M g ∨ w.heap.size ≤ g := hm
  refine ⟨⟨p.db, p.mb, p.rb, p.q, L', vs', fv', F'⟩, rfl, rfl, pr, h.po.kept k' (fun g e e2 => h.a3 g e2 e), h.bk.kept k' (fun g e => (h.a1 g e).1), fun g e => ⟨fun e2 => ?_, (h.a1 g e).2⟩, fun g e e2 => ?_, (k'.block _ h.lt.1 h.n1.1).trans h.b1, (k'.block _ h.lt.2 h.n2.1).trans h.b2, ⟨fun e => ?_, h.n1.2⟩, ⟨fun e => ?_, h.n2.2⟩, h.ne, h.bw.trans (k'.below h.hB (fun j hj e => by have := h.pp.bge e; omega)), Nat.le_trans h.hB k.size, h.lo⟩
  · rcases hm' g e2 with e3 | e3
    · exact (h.a1 g e).1 e3
    · have := h.bk.fd.blt e; omega
  · rcases hm' g e with e3 | e3
    · exact h.a3 g e3 e2
    · have := h.po.blt e2; omega
  · rcases hm' _ e with e3 | e3
    · exact h.n1.1 e3
    · have := h.lt.1; omega
  · rcases hm' _ e with e3 | e3
    · exact h.n2.1 e3
    · have := h.lt.2; omega
theorem T2.looks (h : T2 W B pb pc hb p o vo vw P sz w) (hp : LooksP True w B p.db p.mb p.q p.L p.vs p.rb p.fv p.F hb vo vw P sz 2097152 w') :
    ∃ vo' vw' sz' P', T2 W B pb pc hb p o vo' vw' P' sz' w' ∧ P'.length = P.length + 2 ∧ (odb (skL P')).length = (odb (skL P)).length + (p.L.length + p.L.length) ∧ (0 ≤ sz → sz ≤ 1152921504606846976 → sz + (p.L.length + p.L.length) ≤ sz') := by
  obtain ⟨k0, pr, vo', vw', sz', P', bk, hl, hm, _, ho, hz⟩ := hp
  have k : Kept (FdB hb vo vw P) w w' := k0.mono (fun g _ e => Fd3.b e)
  refine ⟨vo', vw', sz', P', ⟨pr, h.po.kept k (fun g e e2 => (h.a1 g e2).2 e), bk, fun g e => ?_, h.a3, (k.block _ h.lt.1 h.n1.2.2).trans h.b1, (k.block _ h.lt.2 h.n2.2.2).trans h.b2, ⟨h.n1.1, h.n1.2.1, fun e => ?_⟩, ⟨h.n2.1, h.n2.2.1, fun e => ?_⟩, h.ne, h.bw.trans (k.below h.hB (fun j hj e => by have := h.bk.fd.bge e; omega)), Nat.le_trans h.hB k.size, h.lo⟩, hl, ho, hz⟩
  · rcases hm g e with e3 | e3
    · exact h.a1 g e3
    · exact ⟨fun e2 => by have := h.pp.blt e2; omega, fun e2 => by have := h.po.blt e2; omega⟩
  · rcases hm _ e with e3 | e3
    · exact h.n1.2.2 e3
    · have := h.lt.1; omega
  · rcases hm _ e with e3 | e3
    · exact h.n2.2.2 e3
    · have := h.lt.2; omega
/-- The book is let go. -/
theorem T2.over (h : T2 W B pb pc hb p o vo vw P sz w) (k : Kept (FdB hb vo vw P) w w') (hx : w'.heap[hb]? = some (.cells #[.slice none 0 0, .slice none 0 0, .int .i64 0] 36 (0, 0))) : T2 W B pb pc hb p o (.slice none 0 0) (.slice none 0 0) [] 0 w' := by
  have h0 : FdB hb vo vw P hb := .inl rfl
  exact ⟨h.pp.kept k (fun g e e2 => (h.a1 g e2).1 e), h.po.kept k (fun g e e2 => (h.a1 g e2).2 e), bk_nil hx (h.bk.fd.bge h0) _, fun g e => by rw [fdb_nil e]; exact h.a1 hb h0, h.a3, (k.block _ h.lt.1 h.n1.2.2).trans h.b1, (k.block _ h.lt.2 h.n2.2.2).trans h.b2, ⟨h.n1.1, h.n1.2.1, fun e => h.n1.2.2 (by rw [fdb_nil e]; exact h0)⟩, ⟨h.n2.1, h.n2.2.1, fun e => h.n2.2.2 (by rw [fdb_nil e]; exact h0)⟩, h.ne, h.bw.trans (k.below h.hB (fun j hj e => by have := h.bk.fd.bge e; omega)), Nat.le_trans h.hB k.size, h.lo⟩
/-- The first pair becomes another one, which was made since. -/
theorem T2.newP {w1 : World} {p' : Pq} (h : T2 W B pb pc hb p o vo vw P sz w) (hb1 : Below w.heap.size w w1) (hp : p'.At w1 B) (hm : ∀ g, p'.M g → w.heap.size ≤ g) : T2 W B pb pc hb p' o vo vw P sz (w1.setRow pb p'.cells) := by
  have h1 := h.later hb1
  have k : Kept (fun g => g = pb) w1 (w1.setRow pb p'.cells) := ⟨rfl, rfl, rfl, by simp [World.setRow], fun k _ hk => setRow_other w1 _ k _ hk⟩
  have hlt := h.lt
  refine ⟨hp.kept k (fun g e e2 => by have := hm g e; omega), h1.po.kept k (fun g e e2 => h.n1.2.1 (e2 ▸ e)), h1.bk.kept k (fun g e e2 => h.n1.2.2 (e2 ▸ e)), fun g e => ⟨fun e2 => ?_, (h.a1 g e).2⟩, fun g e e2 => ?_, setRow_heap _ _ _ _ _ _ h1.b1, (k.block _ h1.lt.2 (fun e => h.ne e.symm)).trans h1.b2, ⟨fun e => ?_, h.n1.2⟩, ⟨fun e => ?_, h.n2.2⟩, h.ne, h1.bw.trans (k.below h1.hB (fun j hj e => by have := h.lo.1; omega)), Nat.le_trans h1.hB k.size, h.lo⟩
  · have := hm g e2; have := h.bk.fd.blt e; omega
  · have := hm g e; have := h.po.blt e2; omega
  · have := hm _ e; omega
  · have := hm _ e; omega
theorem T2.fews (h : T2 W B pb pc hb p o vo vw P sz w) : ∀ x ∈ P, ∀ z ∈ x.l, z.ob.length ≤ 1073741823 := fun x hx z hz => by have := (h.bk.few trivial x hx).2 z hz; omega
end
end Go.Proofs.Ytnpofjeiamjioaa

namespace Go.Proofs.Ytnpofjeiamjioaa
open Go.RowKit Go.Maps

theorem info_filed3 : (Try.prog.info? 36).map (·.size) = some 3 := by kernel_rfl
set_option linter.unusedSimpArgs false in
set_option maxHeartbeats 4000000 in
set_option maxRecDepth 1000000 in
theorem over_any (w : World) (B hb : Nat) (vo vw : Value) (P : List Ls) (sz : Int) (M : Nat) (bk : Bk True w B hb vo vw P sz M) (hB : B ≤ w.heap.size) (hn : (odb (skL P)).length ≤ 16777216) (hP : P.length ≤ 536870911) :
    Calls Try.prog 24 #[.pointer (some ⟨hb, 0, none⟩)] w fun e w' => e = .returned (.bool true) ∧ Kept (FdB hb vo vw P) w w' ∧ w'.heap[hb]? = some (.cells #[.slice none 0 0, .slice none 0 0, .int .i64 0] 36 (0, 0)) := by
  have SP := hideR (fspoil_any w B hb vo vw P sz bk.fd (bk.ap trivial) (bk.eq trivial) hB hn (fun x hx z hz => by have := (bk.few trivial x hx).2 z hz; omega) hP)
  clear bk
  go_enter Try.func24, Try.ntmps24
  go_wp2_with fail
  refine SP.out.mono ?_
  rintro e w1 ⟨rfl, k1, vo', vw', P', sz', fd, _, _⟩
  have hbx := fd.rows.box
  have HK := hideR (And.intro k1 hbx)
  clear k1 hbx fd SP
  go_wp2_with (refine wpList_store_row rfl 36 (.tmp 8) (.tmp 7) rfl hb #[.slice none 0 0, .slice none 0 0, .int .i64 0] rfl rfl 36 #[vo', vw', .int .i64 sz'] HK.out.2 info_filed3 rfl (by simp [Value.oneCell']) ?_)
  go_ret
  have k2 : Kept (fun g => g = hb) w1 (w1.setRow hb #[.slice none 0 0, .slice none 0 0, .int .i64 0]) := ⟨rfl, rfl, rfl, by simp [World.setRow], fun k _ hk => setRow_other w1 _ k _ hk⟩
  exact ⟨rfl, HK.out.1.step k2 (fun j hj e => .inl e), setRow_heap _ _ _ _ _ _ HK.out.2⟩
end Go.Proofs.Ytnpofjeiamjioaa
