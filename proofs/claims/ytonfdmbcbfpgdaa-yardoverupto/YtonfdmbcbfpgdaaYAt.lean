/-
  A yard in memory.
-/
import Derived.Test.YtonfdmbcbfpgdaaYCount
import Derived.Test.YtonfdmbcbfpgdaaPushM
import Derived.Test.YtonfdmbcbfpgdaaSmX
import Derived.Test.YtonfdmbcbfpgdaaMem
namespace Go.Proofs.Ytonfdmbcbfpgdaa
open Go.RowKit

/-- Whose a block is: 0, 1, 2 the heaps of a tube (ready, delayed, buried); 3 the heap of a holder; 4, 5 those of all delayed, all reserved; 6 a tube; 7 the yard and its maps; 8 bodies; 9 somebody else's. -/
abbrev HK := Nat × ByteArray × Int
abbrev eB : ByteArray := ⟨#[]⟩
abbrev hkD : HK := ⟨4, eB, 0⟩
abbrev hkR : HK := ⟨5, eB, 0⟩
abbrev hkH (n : Int) : HK := ⟨3, eB, n⟩
abbrev hkT (i : Nat) (t : ByteArray) : HK := ⟨i, t, 0⟩
abbrev ptrV (b : Nat) : Value := .pointer (some ⟨b, 0, none⟩)
/-- A heap. -/
structure HM where
  hb : Nat
  mb : Nat
  v : Value
  last : Int
  R : List (Int × Mk)
def rkOf (k : Nat) : Int := if k = 0 then 0 else if k = 2 then 2 else 1
structure HM.At (h : HM) (w : World) (lab : Nat → HK) (K : HK) : Prop where
  at_ : HeapAtM w h.hb h.v h.mb 32 (rkOf K.1) h.last h.R
  lab : ∀ b, Mine h.hb h.v h.mb b → lab b = K
/-- A job that is there. -/
structure En where
  j : Jb
  bv : Value
  body : List UInt8
  t0 : Int
  t1 : Int
def En.cells (e : En) : Array Value := e.j.cells e.bv ++ #[.int .i64 e.t0, .int .i64 e.t1]
def En.val (e : En) : Value := .agg e.cells
def lookE (L : List En) (i : Int) : Option En := L.find? (fun e => e.j.id == i)
/-- Bytes that nobody writes into. -/
def BodyAt (w : World) (lab : Nat → HK) (bv : Value) (body : List UInt8) : Prop := ∃ a c, bv = .slice a body.length c ∧ IsBytes w a c body ∧ (body = [] ∨ ∃ b o, a = some ⟨b, o, none⟩ ∧ b < w.heap.size ∧ (lab b).1 = 8)
structure Yd where
  jm : Nat
  tm : Nat
  hm : Nat
  nt : Nat
  nh : Nat
  L : List En
  tb : ByteArray → Option Nat
  hp : HK → Option HM
  ts : ByteArray → Sm
  sm : Sm
structure YAt (w : World) (lab : Nat → HK) (yb : Nat) (Y : Yd) : Prop where
  box : ∃ d r, Y.hp hkD = some d ∧ Y.hp hkR = some r ∧ w.heap[yb]? = some (.cells ([.map (some Y.jm), .map (some Y.tm), .map (some Y.hm), ptrV d.hb, ptrV r.hb] ++ Y.sm.cells).toArray 59 (0, 0))
  jobs : VTabI w Y.jm Y.L.length (fun i => (lookE Y.L i).map En.val)
  tubs : VTabS w Y.tm Y.nt (fun t => (Y.tb t).map ptrV)
  hels : VTabI w Y.hm Y.nh (fun n => (Y.hp (hkH n)).map (fun h => ptrV h.hb))
  heap : ∀ K h, Y.hp K = some h → K.1 ≤ 5 ∧ h.At w lab K
  tube : ∀ t b, Y.tb t = some b → lab b = hkT 6 t ∧ ∃ h0 h1 h2, Y.hp (hkT 0 t) = some h0 ∧ Y.hp (hkT 1 t) = some h1 ∧ Y.hp (hkT 2 t) = some h2 ∧ w.heap[b]? = some (.cells ([ptrV h0.hb, ptrV h1.hb, ptrV h2.hb] ++ (Y.ts t).cells).toArray 61 (0, 0))
  body : ∀ e ∈ Y.L, BodyAt w lab e.bv e.body
  labs : lab yb = ⟨7, eB, 0⟩ ∧ lab Y.jm = ⟨7, eB, 1⟩ ∧ lab Y.tm = ⟨7, eB, 2⟩ ∧ lab Y.hm = ⟨7, eB, 3⟩

theorem YAt.yb_lt {w : World} {lab : Nat → HK} {yb : Nat} {Y : Yd} (h : YAt w lab yb Y) : yb < w.heap.size := by
  obtain ⟨d, r, _, _, hb⟩ := h.box
  exact (Array.getElem?_eq_some_iff.1 hb).1
theorem BodyAt.kept {P : Nat → Prop} {w w' : World} {lab lab' : Nat → HK} {bv : Value} {body : List UInt8} (h : BodyAt w lab bv body) (hk : Kept P w w') (hP : ∀ b, b < w.heap.size → (lab b).1 = 8 → ¬ P b) (hl : ∀ b, b < w.heap.size → lab' b = lab b) : BodyAt w' lab' bv body := by
  obtain ⟨a, c, rfl, ⟨h1, h2, h3⟩, h4⟩ := h
  rcases h4 with rfl | ⟨b, o, rfl, hlt, h8⟩
  · exact ⟨a, c, rfl, ⟨h1, h2, .inl rfl⟩, .inl rfl⟩
  · refine ⟨_, c, rfl, ⟨h1, h2, ?_⟩, .inr ⟨b, o, rfl, Nat.lt_of_lt_of_le hlt hk.size, by rw [hl b hlt]; exact h8⟩⟩
    rcases h3 with h3 | ⟨b', o', e, hb', hc⟩
    · exact .inl h3
    · simp only [Option.some.injEq, Addr.mk.injEq, and_true] at e
      obtain ⟨rfl, rfl⟩ := e
      exact .inr ⟨b, o, rfl, Nat.lt_of_lt_of_le hlt hk.size, fun j x hj => hk.cell (hP b hlt h8) (hc j x hj)⟩
theorem HM.At.kept {P : Nat → Prop} {w w' : World} {lab lab' : Nat → HK} {h : HM} {K : HK} (hh : h.At w lab K) (hk : Kept P w w') (hP : ∀ b, b < w.heap.size → lab b = K → ¬ P b) (hl : ∀ b, b < w.heap.size → lab' b = lab b) : h.At w' lab' K :=
  ⟨hh.at_.kept hk (fun b hb => hP b (hh.at_.lt b hb) (hh.lab b hb)), fun b hb => (hl b (hh.at_.lt b hb)).trans (hh.lab b hb)⟩
/-- What a change leaves of a yard, as far as the blocks that it may turn are those of T. -/
theorem YAt.jobs_kept {P : Nat → Prop} {w w' : World} {lab : Nat → HK} {yb : Nat} {Y : Yd} (h : YAt w lab yb Y) (hk : Kept P w w') (hP : ¬ P Y.jm) : VTabI w' Y.jm Y.L.length (fun i => (lookE Y.L i).map En.val) := h.jobs.kept hk hP
/-- Nothing of a yard is turned. -/
theorem YAt.kept {P : Nat → Prop} {w w' : World} {lab lab' : Nat → HK} {yb : Nat} {Y : Yd} (h : YAt w lab yb Y) (hk : Kept P w w') (hP : ∀ b, b < w.heap.size → P b → 9 ≤ (lab b).1) (hl : ∀ b, b < w.heap.size → lab' b = lab b) : YAt w' lab' yb Y := by
  have hno : ∀ b, b < w.heap.size → (lab b).1 ≤ 8 → ¬ P b := fun b hb h8 hp => by have := hP b hb hp; omega
  obtain ⟨d, r, hd, hr, hb⟩ := h.box
  have l0 := h.labs
  refine ⟨⟨d, r, hd, hr, (hk.block yb h.yb_lt (hno yb h.yb_lt (by rw [l0.1]; decide))).trans hb⟩, h.jobs.kept hk (hno _ h.jobs.lt (by rw [l0.2.1]; decide)), h.tubs.kept hk (hno _ h.tubs.lt (by rw [l0.2.2.1]; decide)), h.hels.kept hk (hno _ h.hels.lt (by rw [l0.2.2.2]; decide)), fun K g hg => ?_, fun t b ht => ?_, fun e he => ?_, ?_⟩
  · obtain ⟨k5, ha⟩ := h.heap K g hg
    exact ⟨k5, ha.kept hk (fun b hb e => hno b hb (by rw [e]; omega)) hl⟩
  · obtain ⟨lb, h0, h1, h2, e0, e1, e2, hbk⟩ := h.tube t b ht
    have hlt := (Array.getElem?_eq_some_iff.1 hbk).1
    exact ⟨(hl b hlt).trans lb, h0, h1, h2, e0, e1, e2, (hk.block b hlt (hno b hlt (by rw [lb]; show (6 : Nat) ≤ 8; omega))).trans hbk⟩
  · exact (h.body e he).kept hk (fun b hb e8 => hno b hb (by omega)) hl
  · rw [hl _ h.yb_lt, hl _ h.jobs.lt, hl _ h.tubs.lt, hl _ h.hels.lt]
    exact l0
theorem YAt.below {w w' : World} {lab lab' : Nat → HK} {yb : Nat} {Y : Yd} (h : YAt w lab yb Y) (hb : Below w.heap.size w w') (hl : ∀ b, b < w.heap.size → lab' b = lab b) : YAt w' lab' yb Y :=
  h.kept (P := fun _ => False) (Kept.ofBelow hb) (fun _ _ hp => hp.elim) hl
/-- What is ours may turn, nothing else. -/
abbrev Ours (lab : Nat → HK) (b : Nat) : Prop := (lab b).1 ≤ 7
end Go.Proofs.Ytonfdmbcbfpgdaa
