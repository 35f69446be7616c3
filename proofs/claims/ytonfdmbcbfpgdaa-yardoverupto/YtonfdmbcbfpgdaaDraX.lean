/-
  YDrainK, SHand, YDrained.
-/
import Derived.Test.YtonfdmbcbfpgdaaIvX
import Derived.Test.YtonfdmbcbfpgdaaYFirsts
import Derived.Test.YtonfdmbcbfpgdaaHand
import Derived.Laws.Tables
namespace Go.Proofs.Ytonfdmbcbfpgdaa
open Go.RowKit

/-- A job of a tube and a state. -/
def selE (t : ByteArray) (st : Int) (e : En) : Bool := decide (e.j.nm = t) && decide (e.j.st = st)
theorem selE_iff {t : ByteArray} {st : Int} {e : En} : selE t st e = true ↔ e.j.nm = t ∧ e.j.st = st := by simp [selE]
/-- By which number it stands. -/
def rkE (st : Int) (j : Jb) : Int := keyK (rkOf (kOf st)) j.mark
abbrev St3 (st : Int) : Prop := st = 1 ∨ st = 2 ∨ st = 4
theorem kOf_le (st : Int) : kOf st ≤ 2 := by
  unfold kOf
  split
  · omega
  · split <;> omega
theorem mem_ks {t : ByteArray} {st : Int} (hs : St3 st) {e : En} (hb : stB e.j.st = true) : hkT (kOf st) t ∈ ksOf e.j ↔ selE t st e = true := by
  rw [selE_iff]
  have h4 : e.j.st = 1 ∨ e.j.st = 2 ∨ e.j.st = 3 ∨ e.j.st = 4 := by simpa [stB, or_assoc] using hb
  constructor
  · intro h
    obtain ⟨h1, h2⟩ := ks_tube (kOf_le st) h
    refine ⟨h1, ?_⟩
    rcases hs with rfl | rfl | rfl
    · rcases h2 with ⟨_, h2⟩ | ⟨e0, _⟩ | ⟨e0, _⟩
      · exact h2
      · exact absurd e0 (by decide)
      · exact absurd e0 (by decide)
    · rcases h2 with ⟨e0, _⟩ | ⟨_, h2⟩ | ⟨e0, _⟩
      · exact absurd e0 (by decide)
      · exact h2
      · exact absurd e0 (by decide)
    · rcases h2 with ⟨e0, _⟩ | ⟨e0, _⟩ | ⟨_, n1, n2, n3⟩
      · exact absurd e0 (by decide)
      · exact absurd e0 (by decide)
      · omega
  · rintro ⟨rfl, rfl⟩
    unfold ksOf kOf
    rcases hs with h | h | h <;> (rw [h]; simp)
/-- The first one of a tube and a state. -/
theorem Iv.next {Y : Yd} {N : Nat} (h : Iv Y N) {st : Int} (hs : St3 st) (t : ByteArray) :
    (fstOf Y (kOf st) t = 0 ∧ ∀ e ∈ Y.L, selE t st e = false) ∨ ∃ e ∈ Y.L, selE t st e = true ∧ fstOf Y (kOf st) t = e.j.id ∧ ∀ y ∈ Y.L, selE t st y = true → rkE st e.j < rkE st y.j ∨ (rkE st e.j = rkE st y.j ∧ e.j.id ≤ y.j.id) := by
  have hm : ∀ e ∈ Y.L, (hkT (kOf st) t ∈ ksOf e.j ↔ selE t st e = true) := fun e he => mem_ks hs (h.inv.ok e he).2.2.2.1
  cases hx : Y.hp (hkT (kOf st) t) with
  | none =>
    refine .inl ⟨by unfold fstOf; rw [hx], fun e he => ?_⟩
    cases hsel : selE t st e with
    | false => rfl
    | true =>
      have := h.lk.has e he _ ((hm e he).2 hsel)
      rw [hx] at this
      cases this
  | some x =>
    rcases h.lk.first hx with ⟨hR, hno⟩ | ⟨e, he, hk, hid, hle⟩
    · refine .inl ⟨by unfold fstOf; rw [hx]; simp [hR], fun e he => ?_⟩
      cases hsel : selE t st e with
      | false => rfl
      | true => exact absurd ((hm e he).2 hsel) (hno e he)
    · refine .inr ⟨e, he, (hm e he).1 hk, by unfold fstOf; rw [hx]; exact hid, fun y hy hsel => hle y hy ((hm y hy).2 hsel)⟩
theorem lookE_at {L : List En} (hs : L.Pairwise (fun a b => a.j.id < b.j.id)) {e : En} (he : e ∈ L) : lookE L e.j.id = some e := by
  cases h : lookE L e.j.id with
  | none =>
    unfold lookE at h
    rw [List.find?_eq_none] at h
    exact absurd (beq_self_eq_true _) (h e he)
  | some x =>
    obtain ⟨h1, h2⟩ := lookE_mem h
    rw [id_uniq hs x h1 e he h2]
/-- One job is taken out. -/
theorem sel_out {L : List En} (hs : L.Pairwise (fun a b => a.j.id < b.j.id)) {e : En} (he : e ∈ L) (p : En → Bool) : (p e = true → ((outE L e.j.id).filter p).length + 1 = (L.filter p).length) ∧ (p e = false → (outE L e.j.id).filter p = L.filter p) := by
  induction L with
  | nil => cases he
  | cons x r ih =>
    rw [List.pairwise_cons] at hs
    rcases List.mem_cons.1 he with rfl | he
    · have ho : outE (e :: r) e.j.id = r := by
        unfold outE
        rw [List.filter_cons_of_neg (by simp), List.filter_eq_self.2 (fun y hy => by have := hs.1 y hy; simp; omega)]
      rw [ho]
      refine ⟨fun hp => ?_, fun hp => ?_⟩
      · rw [List.filter_cons_of_pos hp]
        rfl
      · rw [List.filter_cons_of_neg (by rw [hp]; simp)]
    · have hne : x.j.id ≠ e.j.id := by have := hs.1 e he; omega
      unfold outE
      rw [List.filter_cons_of_pos (by simp [hne])]
      have := ih hs.2 he
      unfold outE at this
      cases hx : p x with
      | true =>
        rw [List.filter_cons_of_pos hx, List.filter_cons_of_pos hx]
        exact ⟨fun hp => by have := this.1 hp; simp only [List.length_cons]; omega, fun hp => by rw [this.2 hp]⟩
      | false =>
        rw [List.filter_cons_of_neg (by rw [hx]; simp), List.filter_cons_of_neg (by rw [hx]; simp)]
        exact this
set_option maxHeartbeats 1000000 in
set_option maxRecDepth 1000000 in
theorem rank_any (j : Jb) (bv : Value) (st : Int) (hs : St3 st) (hj : j.st = st) (w : World) : Calls Try.prog 22 #[.agg (j.cells bv)] w fun e w' => e = .returned (.int .i64 (rkE st j)) ∧ Below w.heap.size w w' := by
  obtain ⟨id, pr, dl, tr, bo, sj, du, od, ho, c0, c1, c2, c3, c4, nm⟩ := j
  obtain rfl : sj = st := hj
  rcases hs with rfl | rfl | rfl
  all_goals
    go_enter Try.func22, Try.ntmps22
    unfold Jb.cells
    go_wp2
    go_ret
    exact ⟨rfl, (Below.refl _ w).alloc (Nat.le_refl _) _⟩
/-- In the midst of drained. -/
structure Dr (w : World) (lab : Nat → HK) (yb : Nat) (Y : Yd) (N : Nat) (t : ByteArray) (st : Int) (lb k : Nat) (lj : Jb) (lv : Value) (Yk : Yd) (wr : World) (labr : Nat → HK) : Prop where
  yard : YAt wr labr yb Yk
  iv : Iv Yk N
  cnt : k + (Yk.L.filter (selE t st)).length = (Y.L.filter (selE t st)).length
  rest : Yk.L.filter (fun e => !selE t st e) = Y.L.filter (fun e => !selE t st e)
  last : wr.heap[lb]? = some (.cells (lj.cells lv) 41 (0, 0))
  ord : 0 < k → lj.st = st ∧ ∀ y ∈ Yk.L, selE t st y = true → rkE st lj < rkE st y.j ∨ (rkE st lj = rkE st y.j ∧ lj.id < y.j.id)
  ll : labr lb = uT
  hlb : w.heap.size ≤ lb
  labs : ∀ k, k < w.heap.size → labr k = lab k
  kept : Kept (Ours lab) w wr
/-- What drained leaves. -/
def Drained (w : World) (lab : Nat → HK) (yb : Nat) (Y : Yd) (N : Nat) (t : ByteArray) (st : Int) (w' : World) : Prop :=
  ∃ lab' Y', YAt w' lab' yb Y' ∧ Iv Y' N ∧ Y'.L = Y.L.filter (fun e => !selE t st e) ∧ (∀ k, k < w.heap.size → lab' k = lab k) ∧ Kept (Ours lab) w w'
theorem Dr.later {w : World} {lab : Nat → HK} {yb : Nat} {Y : Yd} {N : Nat} {t : ByteArray} {st : Int} {lb k : Nat} {lj : Jb} {lv : Value} {Yk : Yd} {wr : World} {labr : Nat → HK} (h : Dr w lab yb Y N t st lb k lj lv Yk wr labr) {w' : World} (hb : Below wr.heap.size wr w') :
    Dr w lab yb Y N t st lb k lj lv Yk w' (fun k => if k < wr.heap.size then labr k else uT) := by
  have lt := (Array.getElem?_eq_some_iff.1 h.last).1
  exact ⟨h.yard.below hb (fun _ hk => if_pos hk), h.iv, h.cnt, h.rest, (hb.block lb lt).trans h.last, h.ord, (if_pos lt).trans h.ll, h.hlb, fun k hk => (if_pos (Nat.lt_of_lt_of_le hk h.kept.size)).trans (h.labs k hk), h.kept.trans (Kept.ofBelow hb)⟩
theorem Dr.done {w : World} {lab : Nat → HK} {yb : Nat} {Y : Yd} {N : Nat} {t : ByteArray} {st : Int} {lb k : Nat} {lj : Jb} {lv : Value} {Yk : Yd} {wr : World} {labr : Nat → HK} (h : Dr w lab yb Y N t st lb k lj lv Yk wr labr) (hno : ∀ e ∈ Yk.L, selE t st e = false) :
    k = (Y.L.filter (selE t st)).length ∧ Drained w lab yb Y N t st wr := by
  have e0 : Yk.L.filter (selE t st) = [] := List.filter_eq_nil_iff.2 (fun e he hs => by rw [hno e he] at hs; cases hs)
  have e1 : Yk.L.filter (fun e => !selE t st e) = Yk.L := List.filter_eq_self.2 (fun e he => by rw [hno e he]; rfl)
  have := h.cnt
  rw [e0] at this
  exact ⟨by simpa using this, labr, Yk, h.yard, h.iv, by rw [← h.rest, e1], h.labs, h.kept⟩
/-- One is taken out. -/
theorem Dr.gone {w : World} {lab : Nat → HK} {yb : Nat} {Y : Yd} {N : Nat} {t : ByteArray} {st : Int} {lb k : Nat} {lj : Jb} {lv : Value} {Yk : Yd} {wr : World} {labr : Nat → HK} (h : Dr w lab yb Y N t st lb k lj lv Yk wr labr) {e : En} (he : e ∈ Yk.L) (hsel : selE t st e = true)
    (hle : ∀ y ∈ Yk.L, selE t st y = true → rkE st e.j < rkE st y.j ∨ (rkE st e.j = rkE st y.j ∧ e.j.id ≤ y.j.id)) {w' : World} {lab' : Nat → HK} {Y' : Yd} (a : YAt w' lab' yb Y') (i' : Iv Y' N) (hL : Y'.L = outE Yk.L e.j.id) (hl : ∀ k, k < wr.heap.size → lab' k = labr k) (hk : Kept (Ours labr) wr w')
    {v : Value} {w6 : World} (hst : w6 = w'.setRow lb (e.j.cells v)) :
    Dr w lab yb Y N t st lb (k + 1) e.j v Y' w6 lab' := by
  have lt := (Array.getElem?_eq_some_iff.1 h.last).1
  have hl' : w'.heap[lb]? = some (.cells (lj.cells lv) 41 (0, 0)) := (hk.block lb lt (fun e2 => by have e2 : (labr lb).1 ≤ 7 := e2; rw [h.ll] at e2; exact absurd e2 (by decide))).trans h.last
  have ll' : lab' lb = uT := (hl lb lt).trans h.ll
  have k6 : Kept (fun k => k = lb) w' w6 := by
    rw [hst]
    exact ⟨rfl, rfl, rfl, by simp [World.setRow], fun k _ hk => setRow_other w' lb k _ hk⟩
  have a6 : YAt w6 lab' yb Y' := a.kept k6 (fun b _ e2 => by rw [show b = lb from e2, ll']; decide) (fun _ _ => rfl)
  have so := sel_out h.iv.inv.rise he (selE t st)
  have so2 := sel_out h.iv.inv.rise he (fun e => !selE t st e)
  refine ⟨a6, i', ?_, ?_, ?_, fun _ => ⟨(selE_iff.1 hsel).2, fun y hy hys => ?_⟩, ll', h.hlb, fun k hk2 => (hl k (Nat.lt_of_lt_of_le hk2 h.kept.size)).trans (h.labs k hk2), ?_⟩
  · rw [hL]
    have := so.1 hsel
    have := h.cnt
    omega
  · rw [hL, so2.2 (by rw [hsel]; rfl), h.rest]
  · rw [hst]
    exact setRow_heap w' lb _ _ _ _ hl'
  · rw [hL] at hy
    obtain ⟨hy1, hy2⟩ := mem_outE.1 hy
    rcases hle y hy1 hys with h1 | ⟨h1, h2⟩
    · exact .inl h1
    · exact .inr ⟨h1, by omega⟩
  · refine (h.kept.step hk (fun k hk2 e2 => by have e2 : (labr k).1 ≤ 7 := e2; rw [h.labs k hk2] at e2; exact e2)).step k6 (fun k hk2 e2 => ?_)
    have e2 : k = lb := e2
    have := h.hlb
    omega
end Go.Proofs.Ytonfdmbcbfpgdaa

namespace Go.Proofs.Ytonfdmbcbfpgdaa
open Go.RowKit
/-- It is not wanted. -/
theorem H_pass {P : Program} {ops : Array Oper} {Q : Exit → Act → World → Prop} {md : Region.Mode} {S : World → Prop} {i : Nat} {oi : Oper} {fuel : Nat} {listed : Array Bool} {a : Act} {w : World} (d : Option Tmp) (hi : ops[i]? = some oi) (hd : oi.dst = d)
    (hs : Region.noSelect ops = true) (hf : Region.free md ops listed i = true) (hr : (Region.ready md ops listed).contains i = true)
    (hQ : ∀ c a w, Q (.panic c) (a.put oi.dst undef) w → Q (.panic c) a w) (hw : Region.wanted oi (yielded ops a.tmps) = false) (hS : S w)
    (h : wpAnyH P md ops Q S fuel (listed.setIfInBounds i true) (a.put d undef) w) : wpAnyH P md ops Q S (fuel + 1) listed a w := by
  subst hd
  exact wpAnyH_take hi hs hf hr hQ (.inr ⟨hw, rfl⟩) hS h
theorem run_build1 {P : Program} {o : Oper} {a : Act} {w : World} {t : TypeId} {parts : Array (Nat × Operand)} {cells : Array Value} (ho : o.op = .build t parts) (hf : P.built t (parts.map fun (i, x) => (i, a.eval x)).toList = some cells) : (execOp a.eval o).run P w = .ok (.value (.agg cells)) w := by
  unfold execOp
  simp only [ho, Sem.run_bind, Sem.run_pure, Result.andThen_ok, run_build w t _ cells hf]
theorem run_storeRow {P : Program} {o : Oper} {a : Act} {w : World} {ty : TypeId} {x y : Operand} (ho : o.op = .store ty x y) (g : Nat) (cells : Array Value) (hx : a.eval x = .pointer (some ⟨g, 0, none⟩)) (hy : a.eval y = .agg cells)
    (t : TypeId) (old : Array Value) (hg : w.heap[g]? = some (.cells old t (0, 0))) (hi : (P.info? ty).map (·.size) = some cells.size) (hold : old.size = cells.size) (h1 : cells.all (·.oneCell') = true) : (execOp a.eval o).run P w = .ok .skip (w.setRow g cells) := by
  unfold execOp
  simp only [ho, hx, hy, Instr.storeAt, Instr.sureAddr, Sem.run_bind, Sem.run_pure, Result.andThen_ok, run_storeVar_row w g t ty old cells hg hi hold h1]
end Go.Proofs.Ytonfdmbcbfpgdaa

namespace Go.Proofs.Ytonfdmbcbfpgdaa
open Go.RowKit
/-- A job in its box, the last one in its own. -/
def SSt (jb : Nat) (j : Jb) (v : Value) (lb : Nat) (lj : Jb) (lv : Value) (X : World) : Prop := JobBox X jb j v ∧ JobBox X lb lj lv
theorem SSt.later {jb : Nat} {j : Jb} {v : Value} {lb : Nat} {lj : Jb} {lv : Value} {w w' : World} (h : SSt jb j v lb lj lv w) (hb : Below w.heap.size w w') : SSt jb j v lb lj lv w' := ⟨h.1.later hb, h.2.later hb⟩
/-- What Delete leaves in the midst of drained. -/
def DrOut (w : World) (lab : Nat → HK) (yb : Nat) (Y : Yd) (N : Nat) (t : ByteArray) (st : Int) (lb k jb : Nat) (e : En) (v : Value) (lj : Jb) (lv : Value) (w7 : World) : Prop :=
  SSt jb e.j v lb lj lv w7 ∧ ∃ Y' lab', Hid (Dr w lab yb Y N t st lb (k + 1) e.j v Y' (w7.setRow lb (e.j.cells v)) lab')
theorem run_buildJ0 {o : Oper} {a : Act} {w : World} (ho : o.op = .build 41 #[]) : (execOp a.eval o).run Try.prog w = .ok (.value (.agg (jb0.cells (.slice none 0 0)))) w := run_build1 ho (by kernel_rfl)
theorem lookD_len {L : List En} (h : ∀ e ∈ L, fitB e.j e.body.length = true) (i : Int) : (lookD L i).body.length ≤ 65535 := by
  unfold lookD
  cases hx : lookE L i with
  | none => exact Nat.zero_le _
  | some e =>
    have := h e (lookE_mem hx).1
    unfold fitB at this
    simp only [Bool.and_eq_true, decide_eq_true_eq] at this
    show e.body.length ≤ 65535
    omega
set_option maxHeartbeats 16000000 in
set_option maxRecDepth 1000000 in
theorem drained_any (t : ByteArray) (st : Int) (hs : St3 st) (w : World) (lab : Nat → HK) (yb : Nat) (Y : Yd) (N : Nat) (h : YAt w lab yb Y) (iv : Iv Y N) (hN : N ≤ 100000000) (ht : t.size ≤ maxLen) :
    Calls Try.prog 8 #[ptrV yb, .string t, .int .i64 st] w fun x w' => x = .returned (.int .i64 ((Y.L.filter (selE t st)).length : Nat)) ∧ Drained w lab yb Y N t st w' := by
  obtain ⟨M, hM⟩ : ∃ M, M = (Y.L.filter (selE t st)).length := ⟨_, rfl⟩
  have hMN : M ≤ 100000000 := by
    have := List.length_filter_le (selE t st) Y.L
    have := iv.inv.few.nl
    omega
  obtain ⟨lb, hlb⟩ : ∃ lb, lb = w.heap.size := ⟨_, rfl⟩
  obtain ⟨w1, hw1⟩ : ∃ w1, w1 = w.alloc (.cells (jb0.cells (.slice none 0 0)) 41) := ⟨_, rfl⟩
  have D0 : Hid (Dr w lab yb Y N t st lb 0 jb0 (.slice none 0 0) Y w1 (fun k => if k < w.heap.size then lab k else uT)) := by
    have b1 : Below w.heap.size w w1 := by rw [hw1]; exact (Below.refl _ w).alloc (Nat.le_refl _) _
    refine ⟨h.below b1 (fun _ hk => if_pos hk), iv, by rw [Nat.zero_add], rfl, ?_, fun h0 => absurd h0 (Nat.lt_irrefl 0), ?_, by omega, fun k hk => if_pos hk, Kept.ofBelow b1⟩
    · rw [hw1, hlb]; exact heap_alloc_new w _
    · show (if lb < w.heap.size then lab lb else uT) = uT
      exact if_neg (by omega)
  have HM : Hid (M = (Y.L.filter (selE t st)).length) := hM
  have HW1 : Hid (w.alloc (.cells (jb0.cells (.slice none 0 0)) 41) = w1 ∧ w.heap.size = lb) := ⟨hw1.symm, hlb.symm⟩
  have HS3 : Hid (St3 st ∧ t.size ≤ maxLen ∧ N ≤ 100000000) := ⟨hs, ht, hN⟩
  rw [← hM]
  clear h iv hM hw1 hlb hs ht hN
  go_enter Try.func8, Try.ntmps8
  go_wp2_with (first
    | (refine wpList_value rfl (run_buildJ0 rfl) ?_)
    | (refine wpList_made rfl (run_allocJ rfl) ?_)
    | (refine wpList_store_new rfl 41 (.tmp 8) (.tmp 12) rfl (jb0.cells (.slice none 0 0)) rfl rfl 41 _ (job_size _ _) rfl (job_one _ _ _ _) ?_; rw [HW1.out.1, HW1.out.2]; simp only [Act.put]))
  go_loopw [7] (fun i wr => ∃ (k : Nat) (lj : Jb) (lv : Value) (Yk : Yd) (labr : Nat → HK), i = .int .i64 k ∧ Hid (Dr w lab yb Y N t st lb k lj lv Yk wr labr)) (fun i _ => M - (intOf i).toNat)
  case atStart => exact ⟨0, jb0, _, Y, _, rfl, D0⟩
  case round =>
    obtain ⟨k, lj, lv, Yk, labr, rfl, HD⟩ := hrel
    clear D0 HW1
    have ivk := HD.out.iv
    have hl := lookD_len (fun e he => (ivk.inv.ok e he).2.2.2.2)
    obtain ⟨i, hi⟩ : ∃ i, i = fstOf Yk (kOf st) t := ⟨_, rfl⟩
    have HC : Hid ((i = 0 ∧ ∀ e ∈ Yk.L, selE t st e = false) ∨ ∃ e ∈ Yk.L, selE t st e = true ∧ i = e.j.id ∧ ∀ y ∈ Yk.L, selE t st y = true → rkE st e.j < rkE st y.j ∨ (rkE st e.j = rkE st y.j ∧ e.j.id ≤ y.j.id)) := by rw [hi]; exact ivk.next HS3.out.1 t
    have hi64 : I64 i := by
      rcases HC.out with ⟨rfl, _⟩ | ⟨e, he, _, rfl, _⟩
      · decide
      · exact (ivk.inv.ok e he).1.1
    have HI64 : Hid (I64 i) := hi64
    have CN : Hid (Calls Try.prog 21 #[ptrV yb, .string t, .int .i64 st] wr fun x w' => x = .returned (.int .i64 i) ∧ Below wr.heap.size wr w') := by rw [hi]; exact next_any st t wr labr yb Yk HD.out.yard HS3.out.2.1 (fun k hk => ivk.no k t hk)
    obtain ⟨E, hE⟩ : ∃ E, E = lookD Yk.L i := ⟨_, rfl⟩
    obtain ⟨bq, hbq⟩ : ∃ bq, bq = (lookE Yk.L i).isSome := ⟨_, rfl⟩
    have CG : Hid (∀ W, Below wr.heap.size wr W → Calls Try.prog 15 #[ptrV yb, .int .i64 i] W fun x w' => ∃ v, x = .returned (.tuple #[.agg (E.j.cells v), .bool bq]) ∧ (∃ a n c, v = Value.slice a n c) ∧ Below W.heap.size W w') := fun W hW => by
      refine (get_any i W labr yb Yk (HD.out.yard.below hW (fun _ _ => rfl)) hi64 (by have := hl i; omega)).mono ?_
      rintro x w' ⟨v, rfl, o, b⟩
      obtain ⟨a3, c3, e3, _⟩ := o.shape
      exact ⟨v, by rw [hE, hbq], ⟨a3, _, c3, e3⟩, b⟩
    have HE : Hid (E = lookD Yk.L i ∧ bq = (lookE Yk.L i).isSome) := ⟨hE, hbq⟩
    clear hi hE hbq hl ivk hi64
    go_upto_region 3 with (first
      | (go_at_call 21; refine CN.out.mono ?_; rintro x w1 ⟨rfl, b1⟩; have B1 : Hid (Below wr.heap.size wr w1) := b1; clear b1))
    go_upto_region 4 with (first
      | (go_at_call 15; refine (CG.out _ B1.out).mono ?_; rintro x w2 ⟨v, rfl, ⟨va, vn, vc, hv⟩, b2⟩; have B2 : Hid (Below w1.heap.size w1 w2) := b2; have H1v : Hid ((E.j.cells v).all (·.oneCell') = true) := (by rw [hv]; exact job_one _ _ _ _); clear b2 hv; obtain ⟨w3, hw3⟩ : ∃ w3, w3 = w2.alloc (.cells (E.j.cells v) 41) := ⟨_, rfl⟩; obtain ⟨jb, hjb⟩ : ∃ jb, jb = w2.heap.size := ⟨_, rfl⟩; have HW3 : Hid (w2.alloc (.cells (E.j.cells v) 41) = w3 ∧ w2.heap.size = jb) := ⟨hw3.symm, hjb.symm⟩; clear hw3 hjb)
      | (refine wpList_made rfl (run_allocJ rfl) ?_)
      | (refine wpList_store_new rfl 41 (.tmp 10) (.tmp 21) rfl (E.j.cells v) rfl rfl 41 _ (job_size E.j v) rfl H1v.out ?_; rw [HW3.out.1, HW3.out.2]))
    have B3 : Hid (Below wr.heap.size wr w3) := by
      rw [← HW3.out.1]
      have s1 := B1.out.size
      have s2 := B2.out.size
      exact (B1.out.trans (B2.out.mono s1)).alloc (by omega) _
    have J3 : Hid (JobBox w3 jb E.j v ∧ wr.heap.size ≤ jb) := by
      rw [← HW3.out.1, ← HW3.out.2]
      exact ⟨JobBox.new w2 E.j v, by have s1 := B1.out.size; have s2 := B2.out.size; omega⟩
    clear CN CG B1 B2 HW3
    rcases HC.out with ⟨rfl, hno⟩ | ⟨e, he, hsel, rfl, hle⟩
    · have DD : Hid (k = (Y.L.filter (selE t st)).length ∧ Drained w lab yb Y N t st w3) := (HD.out.later B3.out).done hno
      clear hno
      go_wp2_with fail
      go_ret
      exact ⟨by rw [HM.out, ← DD.out.1]; rfl, DD.out.2⟩
    · have ivk := HD.out.iv
      have hlk := lookE_at ivk.inv.rise he
      obtain ⟨rfl, rfl⟩ : E = e ∧ bq = true := by
        obtain ⟨h1, h2⟩ := HE.out
        unfold lookD at h1
        rw [hlk] at h1 h2
        exact ⟨h1, h2⟩
      have hz0 : (E.j.id == (0 : Int)) = false := by
        have := (ivk.inv.ok E he).2.1
        simp
        omega
      have HJN : E.j.nm = t := (selE_iff.1 hsel).1
      have HJS : E.j.st = st := (selE_iff.1 hsel).2
      have hkM : k < M := by
        have h1 := HD.out.cnt
        have h2 := List.length_pos_of_mem (List.mem_filter.2 ⟨he, hsel⟩)
        have h3 := HM.out
        omega
      have HO : Hid (0 < k → lj.st = st ∧ (rkE st lj < rkE st E.j ∨ (rkE st lj = rkE st E.j ∧ lj.id < E.j.id))) := fun h0 => ⟨(HD.out.ord h0).1, (HD.out.ord h0).2 E he hsel⟩
      have H3 : Hid (SSt jb E.j v lb lj lv w3) := ⟨J3.out.1, JobBox.later (show JobBox wr lb lj lv from HD.out.last) B3.out⟩
      have HDL : Hid (∀ W, Below w3.heap.size w3 W → Calls Try.prog 23 #[ptrV yb, .int .i64 E.j.id] W fun x w' => x = .returned (.int .i64 0) ∧ DrOut w lab yb Y N t st lb k jb E v lj lv w') := fun W hW => by
        have bW : Below wr.heap.size wr W := B3.out.trans (hW.mono B3.out.size)
        have d := HD.out.later bW
        have sW : SSt jb E.j v lb lj lv W := H3.out.later hW
        refine (delete_any E.j.id E W _ yb Yk N d.yard ivk HS3.out.2.2 HI64.out hlk).mono ?_
        rintro x w' ⟨rfl, lab', Y', a', i', hL, hl, hk⟩
        have keepB : ∀ b, b < W.heap.size → (if b < wr.heap.size then labr b else uT) = uT → w'.heap[b]? = W.heap[b]? := fun b hb hbl => hk.block b hb (fun e2 => by
          have e2 : (if b < wr.heap.size then labr b else uT).1 ≤ 7 := e2
          rw [hbl] at e2
          exact absurd e2 (by decide))
        refine ⟨rfl, ⟨(keepB jb sW.1.lt (if_neg (by have := J3.out.2; omega))).trans sW.1, (keepB lb sW.2.lt d.ll).trans sW.2⟩, Y', lab', ?_⟩
        exact d.gone he hsel hle a' i' hL hl hk rfl
      clear hlk ivk he hsel hle HE HC J3
      by_cases hk0 : k = 0
      · as_aux_lemma =>
          have hkn : ¬ (0 : Int) < (k : Int) := by omega
          clear hk0
          go_upto_region 6 with fail
          have sq : SSt jb E.j v lb lj lv w3.drew := H3.out.later (Below.refl _ w3).drew
          have cw3d : Below w3.heap.size w3 w3.drew := (Below.refl _ w3).drew
          refine wp_region_held_drew (S := fun X => SSt jb E.j v lb lj lv X) (by kernel_rfl) sq (fun _ => ?_)
          refine H_take (i := 0) (v := .bool true) (some 26) rfl rfl (by kernel_rfl) (by kernel_rfl) (by kernel_rfl) (fun _ _ _ h => h) rfl (fun X hX => ?_) sq ?_
          · simp [go_sem]
          simp only [Act.put, List.setIfInBounds_toArray, List.set_cons_zero, List.set_cons_succ]
          refine H_take (i := 1) (v := .bool false) (some 27) rfl rfl (by kernel_rfl) (by kernel_rfl) (by kernel_rfl) (fun _ _ _ h => h) rfl (fun X hX => ?_) sq ?_
          · simp [go_sem]
          simp only [Act.put, List.setIfInBounds_toArray, List.set_cons_zero, List.set_cons_succ]
          refine H_take (i := 2) (v := .bool false) (some 28) rfl rfl (by kernel_rfl) (by kernel_rfl) (by kernel_rfl) (fun _ _ _ h => h) rfl (fun X hX => ?_) sq ?_
          · simp [go_sem]
          simp only [Act.put, List.setIfInBounds_toArray, List.set_cons_zero, List.set_cons_succ]
          refine H_take (i := 3) (v := .pointer (some ⟨jb, 14, none⟩)) (some 29) rfl rfl (by kernel_rfl) (by kernel_rfl) (by kernel_rfl) (fun _ _ _ h => h) rfl (fun X hX => ?_) sq ?_
          · simp [go_sem]
          simp only [Act.put, List.setIfInBounds_toArray, List.set_cons_zero, List.set_cons_succ]
          refine H_take (i := 4) (v := .string t) (some 30) rfl rfl (by kernel_rfl) (by kernel_rfl) (by kernel_rfl) (fun _ _ _ h => h) rfl (fun X hX => ?_) sq ?_
          · exact run_load1 rfl rfl Try.isAgg9 (by have q := (JobBox.at hX.1); rw [HJN] at q; exact q.2.2.2.1)
          simp only [Act.put, List.setIfInBounds_toArray, List.set_cons_zero, List.set_cons_succ]
          refine H_take (i := 5) (v := .string t) (some 31) rfl rfl (by kernel_rfl) (by kernel_rfl) (by kernel_rfl) (fun _ _ _ h => h) rfl (fun X hX => ?_) sq ?_
          · simp [go_sem]
          simp only [Act.put, List.setIfInBounds_toArray, List.set_cons_zero, List.set_cons_succ]
          refine H_take (i := 6) (v := .bool false) (some 32) rfl rfl (by kernel_rfl) (by kernel_rfl) (by kernel_rfl) (fun _ _ _ h => h) rfl (fun X hX => ?_) sq ?_
          · simp [go_sem]
          simp only [Act.put, List.setIfInBounds_toArray, List.set_cons_zero, List.set_cons_succ]
          refine H_take (i := 7) (v := .bool false) (some 33) rfl rfl (by kernel_rfl) (by kernel_rfl) (by kernel_rfl) (fun _ _ _ h => h) rfl (fun X hX => ?_) sq ?_
          · simp [go_sem]
          simp only [Act.put, List.setIfInBounds_toArray, List.set_cons_zero, List.set_cons_succ]
          refine H_take (i := 8) (v := .bool false) (some 34) rfl rfl (by kernel_rfl) (by kernel_rfl) (by kernel_rfl) (fun _ _ _ h => h) rfl (fun X hX => ?_) sq ?_
          · simp [go_sem]
          simp only [Act.put, List.setIfInBounds_toArray, List.set_cons_zero, List.set_cons_succ]
          refine H_take (i := 9) (v := .pointer (some ⟨jb, 5, none⟩)) (some 35) rfl rfl (by kernel_rfl) (by kernel_rfl) (by kernel_rfl) (fun _ _ _ h => h) rfl (fun X hX => ?_) sq ?_
          · simp [go_sem]
          simp only [Act.put, List.setIfInBounds_toArray, List.set_cons_zero, List.set_cons_succ]
          refine H_take (i := 10) (v := .int .i64 st) (some 36) rfl rfl (by kernel_rfl) (by kernel_rfl) (by kernel_rfl) (fun _ _ _ h => h) rfl (fun X hX => ?_) sq ?_
          · exact run_load1 rfl rfl Try.isAgg3 (by have q := (JobBox.at hX.1); rw [HJS] at q; exact q.2.1)
          simp only [Act.put, List.setIfInBounds_toArray, List.set_cons_zero, List.set_cons_succ]
          refine H_take (i := 11) (v := .int .i64 st) (some 37) rfl rfl (by kernel_rfl) (by kernel_rfl) (by kernel_rfl) (fun _ _ _ h => h) rfl (fun X hX => ?_) sq ?_
          · simp [go_sem]
          simp only [Act.put, List.setIfInBounds_toArray, List.set_cons_zero, List.set_cons_succ]
          refine H_take (i := 12) (v := .bool false) (some 38) rfl rfl (by kernel_rfl) (by kernel_rfl) (by kernel_rfl) (fun _ _ _ h => h) rfl (fun X hX => ?_) sq ?_
          · simp [go_sem]
          simp only [Act.put, List.setIfInBounds_toArray, List.set_cons_zero, List.set_cons_succ]
          refine H_take (i := 13) (v := .bool false) (some 39) rfl rfl (by kernel_rfl) (by kernel_rfl) (by kernel_rfl) (fun _ _ _ h => h) rfl (fun X hX => ?_) sq ?_
          · simp [go_sem]
          simp only [Act.put, List.setIfInBounds_toArray, List.set_cons_zero, List.set_cons_succ]
          refine H_take (i := 14) (v := .bool false) (some 40) rfl rfl (by kernel_rfl) (by kernel_rfl) (by kernel_rfl) (fun _ _ _ h => h) rfl (fun X hX => ?_) sq ?_
          · simp [go_sem]
          simp only [Act.put, List.setIfInBounds_toArray, List.set_cons_zero, List.set_cons_succ]
          refine H_take (i := 15) (v := .int .i64 (k : Nat)) (some 41) rfl rfl (by kernel_rfl) (by kernel_rfl) (by kernel_rfl) (fun _ _ _ h => h) rfl (fun X hX => ?_) sq ?_
          · simp [go_sem]
          simp only [Act.put, List.setIfInBounds_toArray, List.set_cons_zero, List.set_cons_succ]
          refine H_take (i := 16) (v := .bool false) (some 42) rfl rfl (by kernel_rfl) (by kernel_rfl) (by kernel_rfl) (fun _ _ _ h => h) rfl (fun X hX => ?_) sq ?_
          · simp [go_sem]; omega
          simp only [Act.put, List.setIfInBounds_toArray, List.set_cons_zero, List.set_cons_succ]
          refine H_take (i := 17) (v := .bool false) (some 43) rfl rfl (by kernel_rfl) (by kernel_rfl) (by kernel_rfl) (fun _ _ _ h => h) rfl (fun X hX => ?_) sq ?_
          · simp [go_sem]
          simp only [Act.put, List.setIfInBounds_toArray, List.set_cons_zero, List.set_cons_succ]
          refine H_pass (i := 18) (some 44) rfl rfl (by kernel_rfl) (by kernel_rfl) (by kernel_rfl) (fun _ _ _ h => h) rfl sq ?_
          simp only [Act.put, List.setIfInBounds_toArray, List.set_cons_zero, List.set_cons_succ]
          refine H_pass (i := 19) (some 45) rfl rfl (by kernel_rfl) (by kernel_rfl) (by kernel_rfl) (fun _ _ _ h => h) rfl sq ?_
          simp only [Act.put, List.setIfInBounds_toArray, List.set_cons_zero, List.set_cons_succ]
          refine H_pass (i := 20) (some 46) rfl rfl (by kernel_rfl) (by kernel_rfl) (by kernel_rfl) (fun _ _ _ h => h) rfl sq ?_
          simp only [Act.put, List.setIfInBounds_toArray, List.set_cons_zero, List.set_cons_succ]
          refine H_pass (i := 21) (some 47) rfl rfl (by kernel_rfl) (by kernel_rfl) (by kernel_rfl) (fun _ _ _ h => h) rfl sq ?_
          simp only [Act.put, List.setIfInBounds_toArray, List.set_cons_zero, List.set_cons_succ]
          refine H_pass (i := 22) (some 48) rfl rfl (by kernel_rfl) (by kernel_rfl) (by kernel_rfl) (fun _ _ _ h => h) rfl sq ?_
          simp only [Act.put, List.setIfInBounds_toArray, List.set_cons_zero, List.set_cons_succ]
          refine H_pass (i := 23) (some 49) rfl rfl (by kernel_rfl) (by kernel_rfl) (by kernel_rfl) (fun _ _ _ h => h) rfl sq ?_
          simp only [Act.put, List.setIfInBounds_toArray, List.set_cons_zero, List.set_cons_succ]
          refine H_pass (i := 24) (some 50) rfl rfl (by kernel_rfl) (by kernel_rfl) (by kernel_rfl) (fun _ _ _ h => h) rfl sq ?_
          simp only [Act.put, List.setIfInBounds_toArray, List.set_cons_zero, List.set_cons_succ]
          refine H_pass (i := 25) (some 51) rfl rfl (by kernel_rfl) (by kernel_rfl) (by kernel_rfl) (fun _ _ _ h => h) rfl sq ?_
          simp only [Act.put, List.setIfInBounds_toArray, List.set_cons_zero, List.set_cons_succ]
          refine H_pass (i := 26) (some 52) rfl rfl (by kernel_rfl) (by kernel_rfl) (by kernel_rfl) (fun _ _ _ h => h) rfl sq ?_
          simp only [Act.put, List.setIfInBounds_toArray, List.set_cons_zero, List.set_cons_succ]
          refine H_pass (i := 27) (some 53) rfl rfl (by kernel_rfl) (by kernel_rfl) (by kernel_rfl) (fun _ _ _ h => h) rfl sq ?_
          simp only [Act.put, List.setIfInBounds_toArray, List.set_cons_zero, List.set_cons_succ]
          refine H_pass (i := 28) (some 54) rfl rfl (by kernel_rfl) (by kernel_rfl) (by kernel_rfl) (fun _ _ _ h => h) rfl sq ?_
          simp only [Act.put, List.setIfInBounds_toArray, List.set_cons_zero, List.set_cons_succ]
          refine H_pass (i := 29) (some 55) rfl rfl (by kernel_rfl) (by kernel_rfl) (by kernel_rfl) (fun _ _ _ h => h) rfl sq ?_
          simp only [Act.put, List.setIfInBounds_toArray, List.set_cons_zero, List.set_cons_succ]
          refine H_pass (i := 30) (some 56) rfl rfl (by kernel_rfl) (by kernel_rfl) (by kernel_rfl) (fun _ _ _ h => h) rfl sq ?_
          simp only [Act.put, List.setIfInBounds_toArray, List.set_cons_zero, List.set_cons_succ]
          refine H_pass (i := 31) (some 57) rfl rfl (by kernel_rfl) (by kernel_rfl) (by kernel_rfl) (fun _ _ _ h => h) rfl sq ?_
          simp only [Act.put, List.setIfInBounds_toArray, List.set_cons_zero, List.set_cons_succ]
          refine H_pass (i := 32) (some 58) rfl rfl (by kernel_rfl) (by kernel_rfl) (by kernel_rfl) (fun _ _ _ h => h) rfl sq ?_
          simp only [Act.put, List.setIfInBounds_toArray, List.set_cons_zero, List.set_cons_succ]
          refine H_pass (i := 33) (some 59) rfl rfl (by kernel_rfl) (by kernel_rfl) (by kernel_rfl) (fun _ _ _ h => h) rfl sq ?_
          simp only [Act.put, List.setIfInBounds_toArray, List.set_cons_zero, List.set_cons_succ]
          refine H_pass (i := 34) (some 60) rfl rfl (by kernel_rfl) (by kernel_rfl) (by kernel_rfl) (fun _ _ _ h => h) rfl sq ?_
          simp only [Act.put, List.setIfInBounds_toArray, List.set_cons_zero, List.set_cons_succ]
          refine H_pass (i := 35) (some 61) rfl rfl (by kernel_rfl) (by kernel_rfl) (by kernel_rfl) (fun _ _ _ h => h) rfl sq ?_
          simp only [Act.put, List.setIfInBounds_toArray, List.set_cons_zero, List.set_cons_succ]
          refine H_pass (i := 36) (some 62) rfl rfl (by kernel_rfl) (by kernel_rfl) (by kernel_rfl) (fun _ _ _ h => h) rfl sq ?_
          simp only [Act.put, List.setIfInBounds_toArray, List.set_cons_zero, List.set_cons_succ]
          refine H_take (i := 37) (v := .bool false) (some 63) rfl rfl (by kernel_rfl) (by kernel_rfl) (by kernel_rfl) (fun _ _ _ h => h) rfl (fun X hX => ?_) sq ?_
          · simp [go_sem]
          simp only [Act.put, List.setIfInBounds_toArray, List.set_cons_zero, List.set_cons_succ]
          refine H_take (i := 38) (v := .bool false) (some 64) rfl rfl (by kernel_rfl) (by kernel_rfl) (by kernel_rfl) (fun _ _ _ h => h) rfl (fun X hX => ?_) sq ?_
          · simp [go_sem]
          simp only [Act.put, List.setIfInBounds_toArray, List.set_cons_zero, List.set_cons_succ]
          refine H_take (i := 39) (v := .bool false) (some 65) rfl rfl (by kernel_rfl) (by kernel_rfl) (by kernel_rfl) (fun _ _ _ h => h) rfl (fun X hX => ?_) sq ?_
          · simp [go_sem]
          simp only [Act.put, List.setIfInBounds_toArray, List.set_cons_zero, List.set_cons_succ]
          refine H_take (i := 40) (v := ptrV yb) (some 66) rfl rfl (by kernel_rfl) (by kernel_rfl) (by kernel_rfl) (fun _ _ _ h => h) rfl (fun X hX => ?_) sq ?_
          · simp [go_sem]
          simp only [Act.put, List.setIfInBounds_toArray, List.set_cons_zero, List.set_cons_succ]
          refine H_take (i := 41) (v := .int .i64 E.j.id) (some 67) rfl rfl (by kernel_rfl) (by kernel_rfl) (by kernel_rfl) (fun _ _ _ h => h) rfl (fun X hX => ?_) sq ?_
          · simp [go_sem]
          simp only [Act.put, List.setIfInBounds_toArray, List.set_cons_zero, List.set_cons_succ]
          refine H_call (i := 42) (f := 23) (args := #[ptrV yb, .int .i64 E.j.id]) (some 68) rfl rfl (by kernel_rfl) rfl (by simp [go_sem]) ((HDL.out w3.drew cw3d).mono ?_)
          rintro x7 w7 ⟨rfl, t7⟩
          have T7 : Hid (DrOut w lab yb Y N t st lb k jb E v lj lv w7) := t7
          have sq : SSt jb E.j v lb lj lv w7 := t7.1
          refine ⟨_, rfl, sq, ?_⟩
          simp only [Act.put, List.setIfInBounds_toArray, List.set_cons_zero, List.set_cons_succ]
          refine H_take (i := 43) (v := .bool false) (some 69) rfl rfl (by kernel_rfl) (by kernel_rfl) (by kernel_rfl) (fun _ _ _ h => h) rfl (fun X hX => ?_) sq ?_
          · simp [go_sem]
          simp only [Act.put, List.setIfInBounds_toArray, List.set_cons_zero, List.set_cons_succ]
          refine H_take (i := 44) (v := .bool false) (some 70) rfl rfl (by kernel_rfl) (by kernel_rfl) (by kernel_rfl) (fun _ _ _ h => h) rfl (fun X hX => ?_) sq ?_
          · simp [go_sem]
          simp only [Act.put, List.setIfInBounds_toArray, List.set_cons_zero, List.set_cons_succ]
          refine wpAnyH_done (by kernel_rfl) ?_ _
          clear sq
          go_wp2_with (first
            | (refine wpList_load_row rfl 41 (.tmp 10) rfl jb rfl 41 (E.j.cells v) (0, 0) _ T7.out.1.1 Try.underlying41 rfl (job_size E.j v) ?_)
            | (refine wpList_store_row rfl 41 (.tmp 8) (.tmp 71) rfl lb (E.j.cells v) rfl rfl 41 (lj.cells lv) T7.out.1.2 (job_size E.j v) rfl H1v.out ?_))
          obtain ⟨Y', lab', d'⟩ := T7.out.2
          exact ⟨⟨k + 1, E.j, v, Y', lab', by go_num, d'⟩, by simp [intOf]; have := T7.out; omega⟩
      · as_aux_lemma =>
          have hkp : (0 : Int) < (k : Int) := by omega
          obtain ⟨HLS, HOR⟩ := HO.out (by omega)
          obtain ⟨ra, hra⟩ : ∃ ra, ra = rkE st E.j := ⟨_, rfl⟩
          obtain ⟨rb, hrb⟩ : ∃ rb, rb = rkE st lj := ⟨_, rfl⟩
          have HRJ : Hid (∀ W, Calls Try.prog 22 #[.agg (E.j.cells v)] W fun x w' => x = .returned (.int .i64 ra) ∧ Below W.heap.size W w') := fun W => by rw [hra]; exact rank_any E.j v st HS3.out.1 HJS W
          have HRL : Hid (∀ W, Calls Try.prog 22 #[.agg (lj.cells lv)] W fun x w' => x = .returned (.int .i64 rb) ∧ Below W.heap.size W w') := fun W => by rw [hrb]; exact rank_any lj lv st HS3.out.1 HLS W
          rw [← hra, ← hrb] at HOR
          clear hra hrb
          rcases HOR with hlt | ⟨heq, hlt⟩
          · as_aux_lemma =>
              go_upto_region 6 with fail
              have sq : SSt jb E.j v lb lj lv w3.drew := H3.out.later (Below.refl _ w3).drew
              have cw3d : Below w3.heap.size w3 w3.drew := (Below.refl _ w3).drew
              refine wp_region_held_drew (S := fun X => SSt jb E.j v lb lj lv X) (by kernel_rfl) sq (fun _ => ?_)
              refine H_take (i := 0) (v := .bool true) (some 26) rfl rfl (by kernel_rfl) (by kernel_rfl) (by kernel_rfl) (fun _ _ _ h => h) rfl (fun X hX => ?_) sq ?_
              · simp [go_sem]
              simp only [Act.put, List.setIfInBounds_toArray, List.set_cons_zero, List.set_cons_succ]
              refine H_take (i := 1) (v := .bool false) (some 27) rfl rfl (by kernel_rfl) (by kernel_rfl) (by kernel_rfl) (fun _ _ _ h => h) rfl (fun X hX => ?_) sq ?_
              · simp [go_sem]
              simp only [Act.put, List.setIfInBounds_toArray, List.set_cons_zero, List.set_cons_succ]
              refine H_take (i := 2) (v := .bool false) (some 28) rfl rfl (by kernel_rfl) (by kernel_rfl) (by kernel_rfl) (fun _ _ _ h => h) rfl (fun X hX => ?_) sq ?_
              · simp [go_sem]
              simp only [Act.put, List.setIfInBounds_toArray, List.set_cons_zero, List.set_cons_succ]
              refine H_take (i := 3) (v := .pointer (some ⟨jb, 14, none⟩)) (some 29) rfl rfl (by kernel_rfl) (by kernel_rfl) (by kernel_rfl) (fun _ _ _ h => h) rfl (fun X hX => ?_) sq ?_
              · simp [go_sem]
              simp only [Act.put, List.setIfInBounds_toArray, List.set_cons_zero, List.set_cons_succ]
              refine H_take (i := 4) (v := .string t) (some 30) rfl rfl (by kernel_rfl) (by kernel_rfl) (by kernel_rfl) (fun _ _ _ h => h) rfl (fun X hX => ?_) sq ?_
              · exact run_load1 rfl rfl Try.isAgg9 (by have q := (JobBox.at hX.1); rw [HJN] at q; exact q.2.2.2.1)
              simp only [Act.put, List.setIfInBounds_toArray, List.set_cons_zero, List.set_cons_succ]
              refine H_take (i := 5) (v := .string t) (some 31) rfl rfl (by kernel_rfl) (by kernel_rfl) (by kernel_rfl) (fun _ _ _ h => h) rfl (fun X hX => ?_) sq ?_
              · simp [go_sem]
              simp only [Act.put, List.setIfInBounds_toArray, List.set_cons_zero, List.set_cons_succ]
              refine H_take (i := 6) (v := .bool false) (some 32) rfl rfl (by kernel_rfl) (by kernel_rfl) (by kernel_rfl) (fun _ _ _ h => h) rfl (fun X hX => ?_) sq ?_
              · simp [go_sem]
              simp only [Act.put, List.setIfInBounds_toArray, List.set_cons_zero, List.set_cons_succ]
              refine H_take (i := 7) (v := .bool false) (some 33) rfl rfl (by kernel_rfl) (by kernel_rfl) (by kernel_rfl) (fun _ _ _ h => h) rfl (fun X hX => ?_) sq ?_
              · simp [go_sem]
              simp only [Act.put, List.setIfInBounds_toArray, List.set_cons_zero, List.set_cons_succ]
              refine H_take (i := 8) (v := .bool false) (some 34) rfl rfl (by kernel_rfl) (by kernel_rfl) (by kernel_rfl) (fun _ _ _ h => h) rfl (fun X hX => ?_) sq ?_
              · simp [go_sem]
              simp only [Act.put, List.setIfInBounds_toArray, List.set_cons_zero, List.set_cons_succ]
              refine H_take (i := 9) (v := .pointer (some ⟨jb, 5, none⟩)) (some 35) rfl rfl (by kernel_rfl) (by kernel_rfl) (by kernel_rfl) (fun _ _ _ h => h) rfl (fun X hX => ?_) sq ?_
              · simp [go_sem]
              simp only [Act.put, List.setIfInBounds_toArray, List.set_cons_zero, List.set_cons_succ]
              refine H_take (i := 10) (v := .int .i64 st) (some 36) rfl rfl (by kernel_rfl) (by kernel_rfl) (by kernel_rfl) (fun _ _ _ h => h) rfl (fun X hX => ?_) sq ?_
              · exact run_load1 rfl rfl Try.isAgg3 (by have q := (JobBox.at hX.1); rw [HJS] at q; exact q.2.1)
              simp only [Act.put, List.setIfInBounds_toArray, List.set_cons_zero, List.set_cons_succ]
              refine H_take (i := 11) (v := .int .i64 st) (some 37) rfl rfl (by kernel_rfl) (by kernel_rfl) (by kernel_rfl) (fun _ _ _ h => h) rfl (fun X hX => ?_) sq ?_
              · simp [go_sem]
              simp only [Act.put, List.setIfInBounds_toArray, List.set_cons_zero, List.set_cons_succ]
              refine H_take (i := 12) (v := .bool false) (some 38) rfl rfl (by kernel_rfl) (by kernel_rfl) (by kernel_rfl) (fun _ _ _ h => h) rfl (fun X hX => ?_) sq ?_
              · simp [go_sem]
              simp only [Act.put, List.setIfInBounds_toArray, List.set_cons_zero, List.set_cons_succ]
              refine H_take (i := 13) (v := .bool false) (some 39) rfl rfl (by kernel_rfl) (by kernel_rfl) (by kernel_rfl) (fun _ _ _ h => h) rfl (fun X hX => ?_) sq ?_
              · simp [go_sem]
              simp only [Act.put, List.setIfInBounds_toArray, List.set_cons_zero, List.set_cons_succ]
              refine H_take (i := 14) (v := .bool false) (some 40) rfl rfl (by kernel_rfl) (by kernel_rfl) (by kernel_rfl) (fun _ _ _ h => h) rfl (fun X hX => ?_) sq ?_
              · simp [go_sem]
              simp only [Act.put, List.setIfInBounds_toArray, List.set_cons_zero, List.set_cons_succ]
              refine H_take (i := 15) (v := .int .i64 (k : Nat)) (some 41) rfl rfl (by kernel_rfl) (by kernel_rfl) (by kernel_rfl) (fun _ _ _ h => h) rfl (fun X hX => ?_) sq ?_
              · simp [go_sem]
              simp only [Act.put, List.setIfInBounds_toArray, List.set_cons_zero, List.set_cons_succ]
              refine H_take (i := 16) (v := .bool true) (some 42) rfl rfl (by kernel_rfl) (by kernel_rfl) (by kernel_rfl) (fun _ _ _ h => h) rfl (fun X hX => ?_) sq ?_
              · simp [go_sem]; omega
              simp only [Act.put, List.setIfInBounds_toArray, List.set_cons_zero, List.set_cons_succ]
              refine H_take (i := 17) (v := .bool true) (some 43) rfl rfl (by kernel_rfl) (by kernel_rfl) (by kernel_rfl) (fun _ _ _ h => h) rfl (fun X hX => ?_) sq ?_
              · simp [go_sem]
              simp only [Act.put, List.setIfInBounds_toArray, List.set_cons_zero, List.set_cons_succ]
              refine H_take (i := 18) (v := .agg (E.j.cells v)) (some 44) rfl rfl (by kernel_rfl) (by kernel_rfl) (by kernel_rfl) (fun _ _ _ h => h) rfl (fun X hX => ?_) sq ?_
              · exact run_loadRow rfl rfl hX.1 Try.underlying41 rfl (job_size _ _)
              simp only [Act.put, List.setIfInBounds_toArray, List.set_cons_zero, List.set_cons_succ]
              refine H_take (i := 20) (v := .agg (lj.cells lv)) (some 46) rfl rfl (by kernel_rfl) (by kernel_rfl) (by kernel_rfl) (fun _ _ _ h => h) rfl (fun X hX => ?_) sq ?_
              · exact run_loadRow rfl rfl hX.2 Try.underlying41 rfl (job_size _ _)
              simp only [Act.put, List.setIfInBounds_toArray, List.set_cons_zero, List.set_cons_succ]
              refine H_call (i := 19) (f := 22) (args := #[.agg (E.j.cells v)]) (some 45) rfl rfl (by kernel_rfl) rfl (by simp [go_sem]) ((HRJ.out w3.drew).mono ?_)
              rintro xu1 u1 ⟨rfl, bu1⟩
              have sq : SSt jb E.j v lb lj lv u1 := sq.later bu1
              have cu1 : Below w3.heap.size w3 u1 := cw3d.trans (bu1.mono cw3d.size)
              refine ⟨_, rfl, sq, ?_⟩
              simp only [Act.put, List.setIfInBounds_toArray, List.set_cons_zero, List.set_cons_succ]
              refine H_call (i := 21) (f := 22) (args := #[.agg (lj.cells lv)]) (some 47) rfl rfl (by kernel_rfl) rfl (by simp [go_sem]) ((HRL.out u1).mono ?_)
              rintro xu2 u2 ⟨rfl, bu2⟩
              have sq : SSt jb E.j v lb lj lv u2 := sq.later bu2
              have cu2 : Below w3.heap.size w3 u2 := cu1.trans (bu2.mono cu1.size)
              refine ⟨_, rfl, sq, ?_⟩
              simp only [Act.put, List.setIfInBounds_toArray, List.set_cons_zero, List.set_cons_succ]
              refine H_take (i := 22) (v := .bool false) (some 48) rfl rfl (by kernel_rfl) (by kernel_rfl) (by kernel_rfl) (fun _ _ _ h => h) rfl (fun X hX => ?_) sq ?_
              · simp [go_sem]; omega
              simp only [Act.put, List.setIfInBounds_toArray, List.set_cons_zero, List.set_cons_succ]
              refine H_take (i := 23) (v := .bool false) (some 49) rfl rfl (by kernel_rfl) (by kernel_rfl) (by kernel_rfl) (fun _ _ _ h => h) rfl (fun X hX => ?_) sq ?_
              · simp [go_sem]
              simp only [Act.put, List.setIfInBounds_toArray, List.set_cons_zero, List.set_cons_succ]
              refine H_take (i := 24) (v := .agg (E.j.cells v)) (some 50) rfl rfl (by kernel_rfl) (by kernel_rfl) (by kernel_rfl) (fun _ _ _ h => h) rfl (fun X hX => ?_) sq ?_
              · exact run_loadRow rfl rfl hX.1 Try.underlying41 rfl (job_size _ _)
              simp only [Act.put, List.setIfInBounds_toArray, List.set_cons_zero, List.set_cons_succ]
              refine H_take (i := 26) (v := .agg (lj.cells lv)) (some 52) rfl rfl (by kernel_rfl) (by kernel_rfl) (by kernel_rfl) (fun _ _ _ h => h) rfl (fun X hX => ?_) sq ?_
              · exact run_loadRow rfl rfl hX.2 Try.underlying41 rfl (job_size _ _)
              simp only [Act.put, List.setIfInBounds_toArray, List.set_cons_zero, List.set_cons_succ]
              refine H_call (i := 25) (f := 22) (args := #[.agg (E.j.cells v)]) (some 51) rfl rfl (by kernel_rfl) rfl (by simp [go_sem]) ((HRJ.out u2).mono ?_)
              rintro xu3 u3 ⟨rfl, bu3⟩
              have sq : SSt jb E.j v lb lj lv u3 := sq.later bu3
              have cu3 : Below w3.heap.size w3 u3 := cu2.trans (bu3.mono cu2.size)
              refine ⟨_, rfl, sq, ?_⟩
              simp only [Act.put, List.setIfInBounds_toArray, List.set_cons_zero, List.set_cons_succ]
              refine H_call (i := 27) (f := 22) (args := #[.agg (lj.cells lv)]) (some 53) rfl rfl (by kernel_rfl) rfl (by simp [go_sem]) ((HRL.out u3).mono ?_)
              rintro xu4 u4 ⟨rfl, bu4⟩
              have sq : SSt jb E.j v lb lj lv u4 := sq.later bu4
              have cu4 : Below w3.heap.size w3 u4 := cu3.trans (bu4.mono cu3.size)
              refine ⟨_, rfl, sq, ?_⟩
              simp only [Act.put, List.setIfInBounds_toArray, List.set_cons_zero, List.set_cons_succ]
              refine H_take (i := 28) (v := .bool false) (some 54) rfl rfl (by kernel_rfl) (by kernel_rfl) (by kernel_rfl) (fun _ _ _ h => h) rfl (fun X hX => ?_) sq ?_
              · simp [go_sem]; omega
              simp only [Act.put, List.setIfInBounds_toArray, List.set_cons_zero, List.set_cons_succ]
              refine H_take (i := 29) (v := .bool false) (some 55) rfl rfl (by kernel_rfl) (by kernel_rfl) (by kernel_rfl) (fun _ _ _ h => h) rfl (fun X hX => ?_) sq ?_
              · simp [go_sem]
              simp only [Act.put, List.setIfInBounds_toArray, List.set_cons_zero, List.set_cons_succ]
              refine H_pass (i := 30) (some 56) rfl rfl (by kernel_rfl) (by kernel_rfl) (by kernel_rfl) (fun _ _ _ h => h) rfl sq ?_
              simp only [Act.put, List.setIfInBounds_toArray, List.set_cons_zero, List.set_cons_succ]
              refine H_pass (i := 31) (some 57) rfl rfl (by kernel_rfl) (by kernel_rfl) (by kernel_rfl) (fun _ _ _ h => h) rfl sq ?_
              simp only [Act.put, List.setIfInBounds_toArray, List.set_cons_zero, List.set_cons_succ]
              refine H_pass (i := 32) (some 58) rfl rfl (by kernel_rfl) (by kernel_rfl) (by kernel_rfl) (fun _ _ _ h => h) rfl sq ?_
              simp only [Act.put, List.setIfInBounds_toArray, List.set_cons_zero, List.set_cons_succ]
              refine H_pass (i := 33) (some 59) rfl rfl (by kernel_rfl) (by kernel_rfl) (by kernel_rfl) (fun _ _ _ h => h) rfl sq ?_
              simp only [Act.put, List.setIfInBounds_toArray, List.set_cons_zero, List.set_cons_succ]
              refine H_pass (i := 34) (some 60) rfl rfl (by kernel_rfl) (by kernel_rfl) (by kernel_rfl) (fun _ _ _ h => h) rfl sq ?_
              simp only [Act.put, List.setIfInBounds_toArray, List.set_cons_zero, List.set_cons_succ]
              refine H_take (i := 35) (v := .bool false) (some 61) rfl rfl (by kernel_rfl) (by kernel_rfl) (by kernel_rfl) (fun _ _ _ h => h) rfl (fun X hX => ?_) sq ?_
              · simp [go_sem]
              simp only [Act.put, List.setIfInBounds_toArray, List.set_cons_zero, List.set_cons_succ]
              refine H_take (i := 36) (v := .bool false) (some 62) rfl rfl (by kernel_rfl) (by kernel_rfl) (by kernel_rfl) (fun _ _ _ h => h) rfl (fun X hX => ?_) sq ?_
              · simp [go_sem]
              simp only [Act.put, List.setIfInBounds_toArray, List.set_cons_zero, List.set_cons_succ]
              refine H_take (i := 37) (v := .bool false) (some 63) rfl rfl (by kernel_rfl) (by kernel_rfl) (by kernel_rfl) (fun _ _ _ h => h) rfl (fun X hX => ?_) sq ?_
              · simp [go_sem]
              simp only [Act.put, List.setIfInBounds_toArray, List.set_cons_zero, List.set_cons_succ]
              refine H_take (i := 38) (v := .bool false) (some 64) rfl rfl (by kernel_rfl) (by kernel_rfl) (by kernel_rfl) (fun _ _ _ h => h) rfl (fun X hX => ?_) sq ?_
              · simp [go_sem]
              simp only [Act.put, List.setIfInBounds_toArray, List.set_cons_zero, List.set_cons_succ]
              refine H_take (i := 39) (v := .bool false) (some 65) rfl rfl (by kernel_rfl) (by kernel_rfl) (by kernel_rfl) (fun _ _ _ h => h) rfl (fun X hX => ?_) sq ?_
              · simp [go_sem]
              simp only [Act.put, List.setIfInBounds_toArray, List.set_cons_zero, List.set_cons_succ]
              refine H_take (i := 40) (v := ptrV yb) (some 66) rfl rfl (by kernel_rfl) (by kernel_rfl) (by kernel_rfl) (fun _ _ _ h => h) rfl (fun X hX => ?_) sq ?_
              · simp [go_sem]
              simp only [Act.put, List.setIfInBounds_toArray, List.set_cons_zero, List.set_cons_succ]
              refine H_take (i := 41) (v := .int .i64 E.j.id) (some 67) rfl rfl (by kernel_rfl) (by kernel_rfl) (by kernel_rfl) (fun _ _ _ h => h) rfl (fun X hX => ?_) sq ?_
              · simp [go_sem]
              simp only [Act.put, List.setIfInBounds_toArray, List.set_cons_zero, List.set_cons_succ]
              refine H_call (i := 42) (f := 23) (args := #[ptrV yb, .int .i64 E.j.id]) (some 68) rfl rfl (by kernel_rfl) rfl (by simp [go_sem]) ((HDL.out u4 cu4).mono ?_)
              rintro x7 w7 ⟨rfl, t7⟩
              have T7 : Hid (DrOut w lab yb Y N t st lb k jb E v lj lv w7) := t7
              have sq : SSt jb E.j v lb lj lv w7 := t7.1
              refine ⟨_, rfl, sq, ?_⟩
              simp only [Act.put, List.setIfInBounds_toArray, List.set_cons_zero, List.set_cons_succ]
              refine H_take (i := 43) (v := .bool false) (some 69) rfl rfl (by kernel_rfl) (by kernel_rfl) (by kernel_rfl) (fun _ _ _ h => h) rfl (fun X hX => ?_) sq ?_
              · simp [go_sem]
              simp only [Act.put, List.setIfInBounds_toArray, List.set_cons_zero, List.set_cons_succ]
              refine H_take (i := 44) (v := .bool false) (some 70) rfl rfl (by kernel_rfl) (by kernel_rfl) (by kernel_rfl) (fun _ _ _ h => h) rfl (fun X hX => ?_) sq ?_
              · simp [go_sem]
              simp only [Act.put, List.setIfInBounds_toArray, List.set_cons_zero, List.set_cons_succ]
              refine wpAnyH_done (by kernel_rfl) ?_ _
              clear sq
              go_wp2_with (first
                | (refine wpList_load_row rfl 41 (.tmp 10) rfl jb rfl 41 (E.j.cells v) (0, 0) _ T7.out.1.1 Try.underlying41 rfl (job_size E.j v) ?_)
                | (refine wpList_store_row rfl 41 (.tmp 8) (.tmp 71) rfl lb (E.j.cells v) rfl rfl 41 (lj.cells lv) T7.out.1.2 (job_size E.j v) rfl H1v.out ?_))
              obtain ⟨Y', lab', d'⟩ := T7.out.2
              exact ⟨⟨k + 1, E.j, v, Y', lab', by go_num, d'⟩, by simp [intOf]; have := T7.out; omega⟩
          · as_aux_lemma =>
              go_upto_region 6 with fail
              have sq : SSt jb E.j v lb lj lv w3.drew := H3.out.later (Below.refl _ w3).drew
              have cw3d : Below w3.heap.size w3 w3.drew := (Below.refl _ w3).drew
              refine wp_region_held_drew (S := fun X => SSt jb E.j v lb lj lv X) (by kernel_rfl) sq (fun _ => ?_)
              refine H_take (i := 0) (v := .bool true) (some 26) rfl rfl (by kernel_rfl) (by kernel_rfl) (by kernel_rfl) (fun _ _ _ h => h) rfl (fun X hX => ?_) sq ?_
              · simp [go_sem]
              simp only [Act.put, List.setIfInBounds_toArray, List.set_cons_zero, List.set_cons_succ]
              refine H_take (i := 1) (v := .bool false) (some 27) rfl rfl (by kernel_rfl) (by kernel_rfl) (by kernel_rfl) (fun _ _ _ h => h) rfl (fun X hX => ?_) sq ?_
              · simp [go_sem]
              simp only [Act.put, List.setIfInBounds_toArray, List.set_cons_zero, List.set_cons_succ]
              refine H_take (i := 2) (v := .bool false) (some 28) rfl rfl (by kernel_rfl) (by kernel_rfl) (by kernel_rfl) (fun _ _ _ h => h) rfl (fun X hX => ?_) sq ?_
              · simp [go_sem]
              simp only [Act.put, List.setIfInBounds_toArray, List.set_cons_zero, List.set_cons_succ]
              refine H_take (i := 3) (v := .pointer (some ⟨jb, 14, none⟩)) (some 29) rfl rfl (by kernel_rfl) (by kernel_rfl) (by kernel_rfl) (fun _ _ _ h => h) rfl (fun X hX => ?_) sq ?_
              · simp [go_sem]
              simp only [Act.put, List.setIfInBounds_toArray, List.set_cons_zero, List.set_cons_succ]
              refine H_take (i := 4) (v := .string t) (some 30) rfl rfl (by kernel_rfl) (by kernel_rfl) (by kernel_rfl) (fun _ _ _ h => h) rfl (fun X hX => ?_) sq ?_
              · exact run_load1 rfl rfl Try.isAgg9 (by have q := (JobBox.at hX.1); rw [HJN] at q; exact q.2.2.2.1)
              simp only [Act.put, List.setIfInBounds_toArray, List.set_cons_zero, List.set_cons_succ]
              refine H_take (i := 5) (v := .string t) (some 31) rfl rfl (by kernel_rfl) (by kernel_rfl) (by kernel_rfl) (fun _ _ _ h => h) rfl (fun X hX => ?_) sq ?_
              · simp [go_sem]
              simp only [Act.put, List.setIfInBounds_toArray, List.set_cons_zero, List.set_cons_succ]
              refine H_take (i := 6) (v := .bool false) (some 32) rfl rfl (by kernel_rfl) (by kernel_rfl) (by kernel_rfl) (fun _ _ _ h => h) rfl (fun X hX => ?_) sq ?_
              · simp [go_sem]
              simp only [Act.put, List.setIfInBounds_toArray, List.set_cons_zero, List.set_cons_succ]
              refine H_take (i := 7) (v := .bool false) (some 33) rfl rfl (by kernel_rfl) (by kernel_rfl) (by kernel_rfl) (fun _ _ _ h => h) rfl (fun X hX => ?_) sq ?_
              · simp [go_sem]
              simp only [Act.put, List.setIfInBounds_toArray, List.set_cons_zero, List.set_cons_succ]
              refine H_take (i := 8) (v := .bool false) (some 34) rfl rfl (by kernel_rfl) (by kernel_rfl) (by kernel_rfl) (fun _ _ _ h => h) rfl (fun X hX => ?_) sq ?_
              · simp [go_sem]
              simp only [Act.put, List.setIfInBounds_toArray, List.set_cons_zero, List.set_cons_succ]
              refine H_take (i := 9) (v := .pointer (some ⟨jb, 5, none⟩)) (some 35) rfl rfl (by kernel_rfl) (by kernel_rfl) (by kernel_rfl) (fun _ _ _ h => h) rfl (fun X hX => ?_) sq ?_
              · simp [go_sem]
              simp only [Act.put, List.setIfInBounds_toArray, List.set_cons_zero, List.set_cons_succ]
              refine H_take (i := 10) (v := .int .i64 st) (some 36) rfl rfl (by kernel_rfl) (by kernel_rfl) (by kernel_rfl) (fun _ _ _ h => h) rfl (fun X hX => ?_) sq ?_
              · exact run_load1 rfl rfl Try.isAgg3 (by have q := (JobBox.at hX.1); rw [HJS] at q; exact q.2.1)
              simp only [Act.put, List.setIfInBounds_toArray, List.set_cons_zero, List.set_cons_succ]
              refine H_take (i := 11) (v := .int .i64 st) (some 37) rfl rfl (by kernel_rfl) (by kernel_rfl) (by kernel_rfl) (fun _ _ _ h => h) rfl (fun X hX => ?_) sq ?_
              · simp [go_sem]
              simp only [Act.put, List.setIfInBounds_toArray, List.set_cons_zero, List.set_cons_succ]
              refine H_take (i := 12) (v := .bool false) (some 38) rfl rfl (by kernel_rfl) (by kernel_rfl) (by kernel_rfl) (fun _ _ _ h => h) rfl (fun X hX => ?_) sq ?_
              · simp [go_sem]
              simp only [Act.put, List.setIfInBounds_toArray, List.set_cons_zero, List.set_cons_succ]
              refine H_take (i := 13) (v := .bool false) (some 39) rfl rfl (by kernel_rfl) (by kernel_rfl) (by kernel_rfl) (fun _ _ _ h => h) rfl (fun X hX => ?_) sq ?_
              · simp [go_sem]
              simp only [Act.put, List.setIfInBounds_toArray, List.set_cons_zero, List.set_cons_succ]
              refine H_take (i := 14) (v := .bool false) (some 40) rfl rfl (by kernel_rfl) (by kernel_rfl) (by kernel_rfl) (fun _ _ _ h => h) rfl (fun X hX => ?_) sq ?_
              · simp [go_sem]
              simp only [Act.put, List.setIfInBounds_toArray, List.set_cons_zero, List.set_cons_succ]
              refine H_take (i := 15) (v := .int .i64 (k : Nat)) (some 41) rfl rfl (by kernel_rfl) (by kernel_rfl) (by kernel_rfl) (fun _ _ _ h => h) rfl (fun X hX => ?_) sq ?_
              · simp [go_sem]
              simp only [Act.put, List.setIfInBounds_toArray, List.set_cons_zero, List.set_cons_succ]
              refine H_take (i := 16) (v := .bool true) (some 42) rfl rfl (by kernel_rfl) (by kernel_rfl) (by kernel_rfl) (fun _ _ _ h => h) rfl (fun X hX => ?_) sq ?_
              · simp [go_sem]; omega
              simp only [Act.put, List.setIfInBounds_toArray, List.set_cons_zero, List.set_cons_succ]
              refine H_take (i := 17) (v := .bool true) (some 43) rfl rfl (by kernel_rfl) (by kernel_rfl) (by kernel_rfl) (fun _ _ _ h => h) rfl (fun X hX => ?_) sq ?_
              · simp [go_sem]
              simp only [Act.put, List.setIfInBounds_toArray, List.set_cons_zero, List.set_cons_succ]
              refine H_take (i := 18) (v := .agg (E.j.cells v)) (some 44) rfl rfl (by kernel_rfl) (by kernel_rfl) (by kernel_rfl) (fun _ _ _ h => h) rfl (fun X hX => ?_) sq ?_
              · exact run_loadRow rfl rfl hX.1 Try.underlying41 rfl (job_size _ _)
              simp only [Act.put, List.setIfInBounds_toArray, List.set_cons_zero, List.set_cons_succ]
              refine H_take (i := 20) (v := .agg (lj.cells lv)) (some 46) rfl rfl (by kernel_rfl) (by kernel_rfl) (by kernel_rfl) (fun _ _ _ h => h) rfl (fun X hX => ?_) sq ?_
              · exact run_loadRow rfl rfl hX.2 Try.underlying41 rfl (job_size _ _)
              simp only [Act.put, List.setIfInBounds_toArray, List.set_cons_zero, List.set_cons_succ]
              refine H_call (i := 19) (f := 22) (args := #[.agg (E.j.cells v)]) (some 45) rfl rfl (by kernel_rfl) rfl (by simp [go_sem]) ((HRJ.out w3.drew).mono ?_)
              rintro xu1 u1 ⟨rfl, bu1⟩
              have sq : SSt jb E.j v lb lj lv u1 := sq.later bu1
              have cu1 : Below w3.heap.size w3 u1 := cw3d.trans (bu1.mono cw3d.size)
              refine ⟨_, rfl, sq, ?_⟩
              simp only [Act.put, List.setIfInBounds_toArray, List.set_cons_zero, List.set_cons_succ]
              refine H_call (i := 21) (f := 22) (args := #[.agg (lj.cells lv)]) (some 47) rfl rfl (by kernel_rfl) rfl (by simp [go_sem]) ((HRL.out u1).mono ?_)
              rintro xu2 u2 ⟨rfl, bu2⟩
              have sq : SSt jb E.j v lb lj lv u2 := sq.later bu2
              have cu2 : Below w3.heap.size w3 u2 := cu1.trans (bu2.mono cu1.size)
              refine ⟨_, rfl, sq, ?_⟩
              simp only [Act.put, List.setIfInBounds_toArray, List.set_cons_zero, List.set_cons_succ]
              refine H_take (i := 22) (v := .bool false) (some 48) rfl rfl (by kernel_rfl) (by kernel_rfl) (by kernel_rfl) (fun _ _ _ h => h) rfl (fun X hX => ?_) sq ?_
              · simp [go_sem]; omega
              simp only [Act.put, List.setIfInBounds_toArray, List.set_cons_zero, List.set_cons_succ]
              refine H_take (i := 23) (v := .bool false) (some 49) rfl rfl (by kernel_rfl) (by kernel_rfl) (by kernel_rfl) (fun _ _ _ h => h) rfl (fun X hX => ?_) sq ?_
              · simp [go_sem]
              simp only [Act.put, List.setIfInBounds_toArray, List.set_cons_zero, List.set_cons_succ]
              refine H_take (i := 24) (v := .agg (E.j.cells v)) (some 50) rfl rfl (by kernel_rfl) (by kernel_rfl) (by kernel_rfl) (fun _ _ _ h => h) rfl (fun X hX => ?_) sq ?_
              · exact run_loadRow rfl rfl hX.1 Try.underlying41 rfl (job_size _ _)
              simp only [Act.put, List.setIfInBounds_toArray, List.set_cons_zero, List.set_cons_succ]
              refine H_take (i := 26) (v := .agg (lj.cells lv)) (some 52) rfl rfl (by kernel_rfl) (by kernel_rfl) (by kernel_rfl) (fun _ _ _ h => h) rfl (fun X hX => ?_) sq ?_
              · exact run_loadRow rfl rfl hX.2 Try.underlying41 rfl (job_size _ _)
              simp only [Act.put, List.setIfInBounds_toArray, List.set_cons_zero, List.set_cons_succ]
              refine H_call (i := 25) (f := 22) (args := #[.agg (E.j.cells v)]) (some 51) rfl rfl (by kernel_rfl) rfl (by simp [go_sem]) ((HRJ.out u2).mono ?_)
              rintro xu3 u3 ⟨rfl, bu3⟩
              have sq : SSt jb E.j v lb lj lv u3 := sq.later bu3
              have cu3 : Below w3.heap.size w3 u3 := cu2.trans (bu3.mono cu2.size)
              refine ⟨_, rfl, sq, ?_⟩
              simp only [Act.put, List.setIfInBounds_toArray, List.set_cons_zero, List.set_cons_succ]
              refine H_call (i := 27) (f := 22) (args := #[.agg (lj.cells lv)]) (some 53) rfl rfl (by kernel_rfl) rfl (by simp [go_sem]) ((HRL.out u3).mono ?_)
              rintro xu4 u4 ⟨rfl, bu4⟩
              have sq : SSt jb E.j v lb lj lv u4 := sq.later bu4
              have cu4 : Below w3.heap.size w3 u4 := cu3.trans (bu4.mono cu3.size)
              refine ⟨_, rfl, sq, ?_⟩
              simp only [Act.put, List.setIfInBounds_toArray, List.set_cons_zero, List.set_cons_succ]
              refine H_take (i := 28) (v := .bool true) (some 54) rfl rfl (by kernel_rfl) (by kernel_rfl) (by kernel_rfl) (fun _ _ _ h => h) rfl (fun X hX => ?_) sq ?_
              · simp [go_sem]; omega
              simp only [Act.put, List.setIfInBounds_toArray, List.set_cons_zero, List.set_cons_succ]
              refine H_take (i := 29) (v := .bool true) (some 55) rfl rfl (by kernel_rfl) (by kernel_rfl) (by kernel_rfl) (fun _ _ _ h => h) rfl (fun X hX => ?_) sq ?_
              · simp [go_sem]
              simp only [Act.put, List.setIfInBounds_toArray, List.set_cons_zero, List.set_cons_succ]
              refine H_take (i := 30) (v := .pointer (some ⟨jb, 0, none⟩)) (some 56) rfl rfl (by kernel_rfl) (by kernel_rfl) (by kernel_rfl) (fun _ _ _ h => h) rfl (fun X hX => ?_) sq ?_
              · simp [go_sem]
              simp only [Act.put, List.setIfInBounds_toArray, List.set_cons_zero, List.set_cons_succ]
              refine H_take (i := 31) (v := .int .i64 E.j.id) (some 57) rfl rfl (by kernel_rfl) (by kernel_rfl) (by kernel_rfl) (fun _ _ _ h => h) rfl (fun X hX => ?_) sq ?_
              · exact run_load1 rfl rfl Try.isAgg3 (by have q := (JobBox.at hX.1); exact q.1)
              simp only [Act.put, List.setIfInBounds_toArray, List.set_cons_zero, List.set_cons_succ]
              refine H_take (i := 32) (v := .pointer (some ⟨lb, 0, none⟩)) (some 58) rfl rfl (by kernel_rfl) (by kernel_rfl) (by kernel_rfl) (fun _ _ _ h => h) rfl (fun X hX => ?_) sq ?_
              · simp [go_sem]
              simp only [Act.put, List.setIfInBounds_toArray, List.set_cons_zero, List.set_cons_succ]
              refine H_take (i := 33) (v := .int .i64 lj.id) (some 59) rfl rfl (by kernel_rfl) (by kernel_rfl) (by kernel_rfl) (fun _ _ _ h => h) rfl (fun X hX => ?_) sq ?_
              · exact run_load1 rfl rfl Try.isAgg3 (by have q := (JobBox.at hX.2); exact q.1)
              simp only [Act.put, List.setIfInBounds_toArray, List.set_cons_zero, List.set_cons_succ]
              refine H_take (i := 34) (v := .bool false) (some 60) rfl rfl (by kernel_rfl) (by kernel_rfl) (by kernel_rfl) (fun _ _ _ h => h) rfl (fun X hX => ?_) sq ?_
              · simp [go_sem]; omega
              simp only [Act.put, List.setIfInBounds_toArray, List.set_cons_zero, List.set_cons_succ]
              refine H_take (i := 35) (v := .bool false) (some 61) rfl rfl (by kernel_rfl) (by kernel_rfl) (by kernel_rfl) (fun _ _ _ h => h) rfl (fun X hX => ?_) sq ?_
              · simp [go_sem]
              simp only [Act.put, List.setIfInBounds_toArray, List.set_cons_zero, List.set_cons_succ]
              refine H_take (i := 36) (v := .bool false) (some 62) rfl rfl (by kernel_rfl) (by kernel_rfl) (by kernel_rfl) (fun _ _ _ h => h) rfl (fun X hX => ?_) sq ?_
              · simp [go_sem]
              simp only [Act.put, List.setIfInBounds_toArray, List.set_cons_zero, List.set_cons_succ]
              refine H_take (i := 37) (v := .bool false) (some 63) rfl rfl (by kernel_rfl) (by kernel_rfl) (by kernel_rfl) (fun _ _ _ h => h) rfl (fun X hX => ?_) sq ?_
              · simp [go_sem]
              simp only [Act.put, List.setIfInBounds_toArray, List.set_cons_zero, List.set_cons_succ]
              refine H_take (i := 38) (v := .bool false) (some 64) rfl rfl (by kernel_rfl) (by kernel_rfl) (by kernel_rfl) (fun _ _ _ h => h) rfl (fun X hX => ?_) sq ?_
              · simp [go_sem]
              simp only [Act.put, List.setIfInBounds_toArray, List.set_cons_zero, List.set_cons_succ]
              refine H_take (i := 39) (v := .bool false) (some 65) rfl rfl (by kernel_rfl) (by kernel_rfl) (by kernel_rfl) (fun _ _ _ h => h) rfl (fun X hX => ?_) sq ?_
              · simp [go_sem]
              simp only [Act.put, List.setIfInBounds_toArray, List.set_cons_zero, List.set_cons_succ]
              refine H_take (i := 40) (v := ptrV yb) (some 66) rfl rfl (by kernel_rfl) (by kernel_rfl) (by kernel_rfl) (fun _ _ _ h => h) rfl (fun X hX => ?_) sq ?_
              · simp [go_sem]
              simp only [Act.put, List.setIfInBounds_toArray, List.set_cons_zero, List.set_cons_succ]
              refine H_take (i := 41) (v := .int .i64 E.j.id) (some 67) rfl rfl (by kernel_rfl) (by kernel_rfl) (by kernel_rfl) (fun _ _ _ h => h) rfl (fun X hX => ?_) sq ?_
              · simp [go_sem]
              simp only [Act.put, List.setIfInBounds_toArray, List.set_cons_zero, List.set_cons_succ]
              refine H_call (i := 42) (f := 23) (args := #[ptrV yb, .int .i64 E.j.id]) (some 68) rfl rfl (by kernel_rfl) rfl (by simp [go_sem]) ((HDL.out u4 cu4).mono ?_)
              rintro x7 w7 ⟨rfl, t7⟩
              have T7 : Hid (DrOut w lab yb Y N t st lb k jb E v lj lv w7) := t7
              have sq : SSt jb E.j v lb lj lv w7 := t7.1
              refine ⟨_, rfl, sq, ?_⟩
              simp only [Act.put, List.setIfInBounds_toArray, List.set_cons_zero, List.set_cons_succ]
              refine H_take (i := 43) (v := .bool false) (some 69) rfl rfl (by kernel_rfl) (by kernel_rfl) (by kernel_rfl) (fun _ _ _ h => h) rfl (fun X hX => ?_) sq ?_
              · simp [go_sem]
              simp only [Act.put, List.setIfInBounds_toArray, List.set_cons_zero, List.set_cons_succ]
              refine H_take (i := 44) (v := .bool false) (some 70) rfl rfl (by kernel_rfl) (by kernel_rfl) (by kernel_rfl) (fun _ _ _ h => h) rfl (fun X hX => ?_) sq ?_
              · simp [go_sem]
              simp only [Act.put, List.setIfInBounds_toArray, List.set_cons_zero, List.set_cons_succ]
              refine wpAnyH_done (by kernel_rfl) ?_ _
              clear sq
              go_wp2_with (first
                | (refine wpList_load_row rfl 41 (.tmp 10) rfl jb rfl 41 (E.j.cells v) (0, 0) _ T7.out.1.1 Try.underlying41 rfl (job_size E.j v) ?_)
                | (refine wpList_store_row rfl 41 (.tmp 8) (.tmp 71) rfl lb (E.j.cells v) rfl rfl 41 (lj.cells lv) T7.out.1.2 (job_size E.j v) rfl H1v.out ?_))
              obtain ⟨Y', lab', d'⟩ := T7.out.2
              exact ⟨⟨k + 1, E.j, v, Y', lab', by go_num, d'⟩, by simp [intOf]; have := T7.out; omega⟩
end Go.Proofs.Ytonfdmbcbfpgdaa
