/-
  The walk of the words' step.
-/
import Derived.Test.YteecmbpabkndlaaDoorKindW
import Derived.Test.YteecmbpabkndlaaDoorKeepW
import Derived.Deep.CutRange
namespace Go.Proofs.YteecmbpabkndlaaDoor
open Go.RowKit

/-- The cells of a kind's form. -/
def FormAt (w : World) (k : Nat) (bc bd bb bk : Bool) : Prop := ∃ x, w.cell? ⟨0, k * 5, none⟩ = some (.string x) ∧ w.cell? ⟨0, k * 5 + 1, none⟩ = some (.bool bc) ∧ w.cell? ⟨0, k * 5 + 2, none⟩ = some (.bool bd) ∧ w.cell? ⟨0, k * 5 + 3, none⟩ = some (.bool bb) ∧ w.cell? ⟨0, k * 5 + 4, none⟩ = some (.bool bk)
/-- A step in its box. -/
def StepBox (w : World) (sb : Nat) (k conn brk : Int) (dv kv : Value) : Prop := w.heap[sb]? = some (.cells #[.int .i64 k, .int .i64 conn, dv, .int .i64 brk, kv] 44 (0, 0))
theorem StepBox.set {w : World} {sb : Nat} {k conn brk : Int} {dv kv : Value} (h : StepBox w sb k conn brk dv kv) (i : Nat) (v : Value) : (w.setCell ⟨sb, i, none⟩ v).heap[sb]? = some (.cells ((#[.int .i64 k, .int .i64 conn, dv, .int .i64 brk, kv] : Array Value).setIfInBounds i v) 44 (0, 0)) := (set_cells h i v).1
theorem StepBox.kept {w w' : World} {sb : Nat} {k conn brk : Int} {dv kv : Value} {P : Nat → Prop} (h : StepBox w sb k conn brk dv kv) (hk : Kept P w w') (hP : ¬ P sb) : StepBox w' sb k conn brk dv kv := (hk.block sb (Array.getElem?_eq_some_iff.1 h).1 hP).trans h
theorem StepBox.cells {w : World} {sb : Nat} {k conn brk : Int} {dv kv : Value} (h : StepBox w sb k conn brk dv kv) : w.cell? ⟨sb, 0, none⟩ = some (.int .i64 k) ∧ w.cell? ⟨sb, 1, none⟩ = some (.int .i64 conn) ∧ w.cell? ⟨sb, 2, none⟩ = some dv ∧ w.cell? ⟨sb, 3, none⟩ = some (.int .i64 brk) ∧ w.cell? ⟨sb, 4, none⟩ = some kv ∧ ∀ i, w.frozen? ⟨sb, i, none⟩ = false := by
  unfold StepBox at h
  simp [World.cell?, World.frozen?, h]
/-- Where a step is being read: the words that are left, the step's box; nothing but the words' box has turned of what was there. -/
structure At (W w : World) (wb fb sb rb : Nat) (bc bd bb bk : Bool) (rest : List ByteArray) (k conn brk : Int) (dv kv : Value) (data : List UInt8) (keep : List Int) : Prop where
  words : WordsAt w wb rest
  form : w.cell? ⟨fb, 1, none⟩ = some (.bool bc) ∧ w.cell? ⟨fb, 2, none⟩ = some (.bool bd) ∧ w.cell? ⟨fb, 3, none⟩ = some (.bool bb) ∧ w.cell? ⟨fb, 4, none⟩ = some (.bool bk)
  step : StepBox w sb k conn brk dv kv
  res : StepBox w rb 0 0 0 (.slice none 0 0) (.slice none 0 0)
  data : Own w W.heap.size dv data
  keep : OwnI w W.heap.size kv keep
  kept : Kept (fun j => j = wb) W w
  wl : wb < W.heap.size
  low : W.heap.size ≤ fb ∧ W.heap.size ≤ sb ∧ W.heap.size ≤ rb
  ne : fb ≠ sb ∧ rb ≠ sb
  flt : fb < w.heap.size
section
variable {W w w' : World} {wb fb sb rb : Nat} {bc bd bb bk : Bool} {rest rest' : List ByteArray} {k conn brk : Int} {dv kv : Value} {data : List UInt8} {keep : List Int}
theorem own_not_step {e : TypeId} {B sb : Nat} {v : Value} {xs : List Value} {n : Nat} (h : w.ownsRow B e 1 v n xs) (hs : StepBox w sb k conn brk dv kv) (he : e ≠ 44) : ∀ g, v.ownBlock = some g → ¬ g = sb := by
  intro g hg e2
  rcases h.2 with ⟨rfl, _⟩ | ⟨g', cap, cur, rfl, _, hc, _⟩
  · cases hg
  · simp only [Value.ownBlock, Option.some.injEq] at hg
    rw [hg, e2] at hc
    unfold StepBox at hs
    rw [hs] at hc
    simp only [Option.some.injEq, Obj.cells.injEq] at hc
    exact he hc.2.1.symm
theorem words_not_step {sb : Nat} (h : WordsAt w wb rest) (hs : StepBox w sb k conn brk dv kv) : wb ≠ sb := by
  intro e
  obtain ⟨a, c, h1, _⟩ := h
  unfold StepBox at hs
  rw [e, hs] at h1
  simp at h1
/-- A call on the words. -/
theorem At.call (h : At W w wb fb sb rb bc bd bb bk rest k conn brk dv kv data keep) (hw : WordsAt w' wb rest') (hk : Kept (fun j => j = wb) w w') : At W w' wb fb sb rb bc bd bb bk rest' k conn brk dv kv data keep where
  words := hw
  form := by
    have hf : ¬ fb = wb := by have := h.wl; have := h.low; omega
    exact ⟨hk.cell hf h.form.1, hk.cell hf h.form.2.1, hk.cell hf h.form.2.2.1, hk.cell hf h.form.2.2.2⟩
  step := h.step.kept hk (fun e => words_not_step h.words h.step e.symm)
  res := h.res.kept hk (fun e => words_not_step h.words h.res e.symm)
  data := by
    refine Kept.own hk h.data (fun g hg e => ?_)
    have h1 := (h.data.lt g hg).1
    have := h.wl
    omega
  keep := by
    refine Kept.own hk h.keep (fun g hg e => ?_)
    have h1 := (h.keep.lt g hg).1
    have := h.wl
    omega
  kept := h.kept.trans hk
  wl := h.wl
  low := h.low
  ne := h.ne
  flt := Nat.lt_of_lt_of_le h.flt hk.size
theorem At.later (h : At W w wb fb sb rb bc bd bb bk rest k conn brk dv kv data keep) (hb : Below w.heap.size w w') : At W w' wb fb sb rb bc bd bb bk rest k conn brk dv kv data keep := h.call (h.words.later hb) (Kept.ofBelow hb)
/-- A store into the step's box. -/
theorem At.store (h : At W w wb fb sb rb bc bd bb bk rest k conn brk dv kv data keep) (i : Nat) (v : Value) {conn' brk' : Int} {dv' kv' : Value} {data' : List UInt8} {keep' : List Int} (he : (#[.int .i64 k, .int .i64 conn, dv, .int .i64 brk, kv] : Array Value).setIfInBounds i v = #[.int .i64 k, .int .i64 conn', dv', .int .i64 brk', kv'])
    (hd : Own w W.heap.size dv' data') (hkp : OwnI w W.heap.size kv' keep') : At W (w.setCell ⟨sb, i, none⟩ v) wb fb sb rb bc bd bb bk rest k conn' brk' dv' kv' data' keep' := by
  have ks : Kept (fun j => j = sb) w (w.setCell ⟨sb, i, none⟩ v) := Kept.setCell _ _ _ _ _ rfl
  have hf : ¬ fb = sb := h.ne.1
  exact {
    words := h.words.kept2 ks (words_not_step h.words h.step) (fun b cur hb e => by
      have hs := h.step
      unfold StepBox at hs
      rw [e, hs] at hb
      simp at hb)
    form := ⟨ks.cell hf h.form.1, ks.cell hf h.form.2.1, ks.cell hf h.form.2.2.1, ks.cell hf h.form.2.2.2⟩
    step := by
      have := h.step.set i v
      rw [he] at this
      exact this
    res := h.res.kept ks h.ne.2
    data := Kept.own ks hd (own_not_step hd h.step (by decide))
    keep := Kept.own ks hkp (own_not_step hkp h.step (by decide))
    kept := h.kept.step ks (fun j hj e => by have := h.low; omega)
    wl := h.wl
    low := h.low
    ne := h.ne
    flt := Nat.lt_of_lt_of_le h.flt ks.size }
end
/-- What the words' step answers. -/
def StepPost (W : World) (wb : Nat) (k : Int) (bc bd bb bk : Bool) (l : List Tx) (e : Ending) (w' : World) : Prop :=
  Kept (fun j => j = wb) W w' ∧ ((∃ p dv kv, stepP k bc bd bb bk l = some p ∧ p.kind = k ∧ e = .returned (.agg #[.int .i64 k, .int .i64 p.conn, dv, .int .i64 p.brk, kv]) ∧ Own w' W.heap.size dv p.data ∧ OwnI w' W.heap.size kv p.keep) ∨ (stepP k bc bd bb bk l = none ∧ e = pan 192))
end Go.Proofs.YteecmbpabkndlaaDoor
