/-
  StepW, StepL.
-/
import Derived.Test.YteaccpolmmkclaaDoorDatA
import Derived.Deep.CutRange
namespace Go.Proofs.YteaccpolmmkclaaDoor
open Go.RowKit

/-- The cells of a kind's form. -/
def FormAt (w : World) (k : Nat) (bc bd bb bk : Bool) : Prop := ∃ x, w.cell? ⟨0, k * 5, none⟩ = some (.string x) ∧ w.cell? ⟨0, k * 5 + 1, none⟩ = some (.bool bc) ∧ w.cell? ⟨0, k * 5 + 2, none⟩ = some (.bool bd) ∧ w.cell? ⟨0, k * 5 + 3, none⟩ = some (.bool bb) ∧ w.cell? ⟨0, k * 5 + 4, none⟩ = some (.bool bk)
/-- A step in its box. -/
def StepBox (w : World) (sb : Nat) (k conn brk : Int) (dv kv : Value) : Prop := w.heap[sb]? = some (.cells #[.int .i64 k, .int .i64 conn, dv, .int .i64 brk, kv] 40 (0, 0))
theorem StepBox.set {w : World} {sb : Nat} {k conn brk : Int} {dv kv : Value} (h : StepBox w sb k conn brk dv kv) (i : Nat) (v : Value) : (w.setCell ⟨sb, i, none⟩ v).heap[sb]? = some (.cells ((#[.int .i64 k, .int .i64 conn, dv, .int .i64 brk, kv] : Array Value).setIfInBounds i v) 40 (0, 0)) := (set_cells h i v).1
theorem StepBox.kept {w w' : World} {sb : Nat} {k conn brk : Int} {dv kv : Value} {P : Nat → Prop} (h : StepBox w sb k conn brk dv kv) (hk : Kept P w w') (hP : ¬ P sb) : StepBox w' sb k conn brk dv kv := (hk.block sb (Array.getElem?_eq_some_iff.1 h).1 hP).trans h
theorem StepBox.cells {w : World} {sb : Nat} {k conn brk : Int} {dv kv : Value} (h : StepBox w sb k conn brk dv kv) : w.cell? ⟨sb, 0, none⟩ = some (.int .i64 k) ∧ w.cell? ⟨sb, 1, none⟩ = some (.int .i64 conn) ∧ w.cell? ⟨sb, 2, none⟩ = some dv ∧ w.cell? ⟨sb, 3, none⟩ = some (.int .i64 brk) ∧ w.cell? ⟨sb, 4, none⟩ = some kv ∧ ∀ i, w.frozen? ⟨sb, i, none⟩ = false := by
  unfold StepBox at h
  simp [World.cell?, World.frozen?, h]
/-- Where a step is being read: the words that are left, the step's box; nothing but the words' box has turned of what was there. -/
structure At (W w : World) (wb fb sb rb : Nat) (bc bd bb bk : Bool) (rest : List ByteArray) (k conn brk : Int) (dv kv : Value) (data : List UInt8) (keep : List Int) : Prop where
  words : WordsAt w wb rest
  form : w.cell? ⟨fb, 1, none⟩ = some (.bool bc) ∧ w.cell? ⟨fb, 2, none⟩ = some (.bool bd) ∧ w.cell? ⟨fb, 3, none⟩ = some (.bool bb) ∧ w.cell? ⟨fb, 4, none⟩ = some (.bool bk)
  step : StepBox w sb k conn brk dv kv
  res : StepBox w rb 0 0 0 (.slice none 0 0) (.slice none 0 0)
  data : Own w W.heap.size dv data
  keep : OwnI w W.heap.size kv keep
  kept : Kept (fun j => j = wb) W w
  wl : wb < W.heap.size
  low : W.heap.size ≤ fb ∧ W.heap.size ≤ sb ∧ W.heap.size ≤ rb
  ne : fb ≠ sb ∧ rb ≠ sb
  flt : fb < w.heap.size
section
variable {W w w' : World} {wb fb sb rb : Nat} {bc bd bb bk : Bool} {rest rest' : List ByteArray} {k conn brk : Int} {dv kv : Value} {data : List UInt8} {keep : List Int}
theorem own_not_step {e : TypeId} {B sb : Nat} {v : Value} {xs : List Value} {n : Nat} (h : w.ownsRow B e 1 v n xs) (hs : StepBox w sb k conn brk dv kv) (he : e ≠ 40) : ∀ g, v.ownBlock = some g → ¬ g = sb := by
  intro g hg e2
  rcases h.2 with ⟨rfl, _⟩ | ⟨g', cap, cur, rfl, _, hc, _⟩
  · cases hg
  · simp only [Value.ownBlock, Option.some.injEq] at hg
    rw [hg, e2] at hc
    unfold StepBox at hs
    rw [hs] at hc
    simp only [Option.some.injEq, Obj.cells.injEq] at hc
    exact he hc.2.1.symm
theorem words_not_step {sb : Nat} (h : WordsAt w wb rest) (hs : StepBox w sb k conn brk dv kv) : wb ≠ sb := by
  intro e
  obtain ⟨a, c, h1, _⟩ := h
  unfold StepBox at hs
  rw [e, hs] at h1
  simp at h1
/-- A call on the words. -/
theorem At.call (h : At W w wb fb sb rb bc bd bb bk rest k conn brk dv kv data keep) (hw : WordsAt w' wb rest') (hk : Kept (fun j => j = wb) w w') : At W w' wb fb sb rb bc bd bb bk rest' k conn brk dv kv data keep where
  words := hw
  form := by
    have hf : ¬ fb = wb := by have := h.wl; have := h.low; omega
    exact ⟨hk.cell hf h.form.1, hk.cell hf h.form.2.1, hk.cell hf h.form.2.2.1, hk.cell hf h.form.2.2.2⟩
  step := h.step.kept hk (fun e => words_not_step h.words h.step e.symm)
  res := h.res.kept hk (fun e => words_not_step h.words h.res e.symm)
  data := by
    refine Kept.own hk h.data (fun g hg e => ?_)
    have h1 := (h.data.lt g hg).1
    have := h.wl
    omega
  keep := by
    refine Kept.own hk h.keep (fun g hg e => ?_)
    have h1 := (h.keep.lt g hg).1
    have := h.wl
    omega
  kept := h.kept.trans hk
  wl := h.wl
  low := h.low
  ne := h.ne
  flt := Nat.lt_of_lt_of_le h.flt hk.size
theorem At.later (h : At W w wb fb sb rb bc bd bb bk rest k conn brk dv kv data keep) (hb : Below w.heap.size w w') : At W w' wb fb sb rb bc bd bb bk rest k conn brk dv kv data keep := h.call (h.words.later hb) (Kept.ofBelow hb)
/-- A store into the step's box. -/
theorem At.store (h : At W w wb fb sb rb bc bd bb bk rest k conn brk dv kv data keep) (i : Nat) (v : Value) {conn' brk' : Int} {dv' kv' : Value} {data' : List UInt8} {keep' : List Int} (he : (#[.int .i64 k, .int .i64 conn, dv, .int .i64 brk, kv] : Array Value).setIfInBounds i v = #[.int .i64 k, .int .i64 conn', dv', .int .i64 brk', kv'])
    (hd : Own w W.heap.size dv' data') (hkp : OwnI w W.heap.size kv' keep') : At W (w.setCell ⟨sb, i, none⟩ v) wb fb sb rb bc bd bb bk rest k conn' brk' dv' kv' data' keep' := by
  have ks : Kept (fun j => j = sb) w (w.setCell ⟨sb, i, none⟩ v) := Kept.setCell _ _ _ _ _ rfl
  have hf : ¬ fb = sb := h.ne.1
  exact {
    words := h.words.kept2 ks (words_not_step h.words h.step) (fun b cur hb e => by
      have hs := h.step
      unfold StepBox at hs
      rw [e, hs] at hb
      simp at hb)
    form := ⟨ks.cell hf h.form.1, ks.cell hf h.form.2.1, ks.cell hf h.form.2.2.1, ks.cell hf h.form.2.2.2⟩
    step := by
      have := h.step.set i v
      rw [he] at this
      exact this
    res := h.res.kept ks h.ne.2
    data := Kept.own ks hd (own_not_step hd h.step (by decide))
    keep := Kept.own ks hkp (own_not_step hkp h.step (by decide))
    kept := h.kept.step ks (fun j hj e => by have := h.low; omega)
    wl := h.wl
    low := h.low
    ne := h.ne
    flt := Nat.lt_of_lt_of_le h.flt ks.size }
end
/-- What the words' step answers. -/
def StepPost (W : World) (wb : Nat) (k : Int) (bc bd bb bk : Bool) (l : List Tx) (e : Ending) (w' : World) : Prop :=
  Kept (fun j => j = wb) W w' ∧ ((∃ p dv kv, stepP k bc bd bb bk l = some p ∧ p.kind = k ∧ e = .returned (.agg #[.int .i64 k, .int .i64 p.conn, dv, .int .i64 p.brk, kv]) ∧ Own w' W.heap.size dv p.data ∧ OwnI w' W.heap.size kv p.keep) ∨ (stepP k bc bd bb bk l = none ∧ e = pan 192))
end Go.Proofs.YteaccpolmmkclaaDoor

namespace Go.Proofs.YteaccpolmmkclaaDoor
open Go.RowKit

theorem numOk (W : World) (wb : Nat) (x : ByteArray) (r : List ByteArray) (h : WordsAt W wb (x :: r)) {v : Int} (hp : parseB x.data.toList maxWord = true ∧ parseV x.data.toList maxWord = v) :
    Calls Tryd.prog 51 #[.pointer (some ⟨wb, 0, none⟩)] W fun e w' => e = .returned (.int .i64 v) ∧ WordsAt w' wb r ∧ Kept (fun j => j = wb) W w' := by
  refine (number_any W wb x r h).mono ?_
  rintro e w' ⟨he, h1⟩
  rw [hp.1, if_pos rfl, hp.2] at he
  exact ⟨he, h1⟩
theorem numBad (W : World) (wb : Nat) (x : ByteArray) (r : List ByteArray) (h : WordsAt W wb (x :: r)) (hp : parseB x.data.toList maxWord = false) :
    Calls Tryd.prog 51 #[.pointer (some ⟨wb, 0, none⟩)] W fun e w' => e = pan 192 ∧ Kept (fun j => j = wb) W w' := by
  refine (number_any W wb x r h).mono ?_
  rintro e w' ⟨he, _, h1⟩
  rw [hp, if_neg (by simp)] at he
  exact ⟨he, h1⟩
theorem dataOk (s : ByteArray) (w : World) (T : Tabs w) (hs : s.size ≤ 1073741823) {b : List UInt8} (hd : dataP s.data.toList = some b) :
    Calls Tryd.prog 60 #[.string s] w fun e w' => ∃ a c, e = .returned (.slice a b.length c) ∧ Own w' w.heap.size (.slice a b.length c) b ∧ Below w.heap.size w w' := by
  refine (data_any s w T hs).mono ?_
  rintro e w' ⟨h1, ⟨b', v, h2, rfl, h3⟩ | ⟨h2, _⟩⟩
  · rw [hd] at h2
    cases h2
    obtain ⟨a, c, rfl, _⟩ := h3.shape
    exact ⟨a, c, rfl, h3, h1⟩
  · rw [hd] at h2
    cases h2
theorem dataBad (s : ByteArray) (w : World) (T : Tabs w) (hs : s.size ≤ 1073741823) (hd : dataP s.data.toList = none) :
    Calls Tryd.prog 60 #[.string s] w fun e w' => e = pan 192 ∧ Below w.heap.size w w' := by
  refine (data_any s w T hs).mono ?_
  rintro e w' ⟨h1, ⟨b', v, h2, _⟩ | ⟨_, h3⟩⟩
  · rw [hd] at h2
    cases h2
  · exact ⟨h3, h1⟩
theorem keepOk (W : World) (wb : Nat) (z : ByteArray) (t : List ByteArray) (h : WordsAt W wb (z :: t)) (hz : z = keepT) (hl : t.length ≤ 1048576) {l : List Int} (hn : numsP (tl t) = some l) (hne : l ≠ []) :
    Calls Tryd.prog 63 #[.pointer (some ⟨wb, 0, none⟩)] W fun e w' => ∃ a c, e = .returned (.slice a l.length c) ∧ OwnI w' W.heap.size (.slice a l.length c) l ∧ WordsAt w' wb [] ∧ Kept (fun j => j = wb) W w' := by
  refine (keep_any W wb z t hz h hl).mono ?_
  rintro e w' ⟨h1, ⟨l', v, _, h2, rfl, h3, h4⟩ | ⟨h2, _⟩⟩
  · rw [hn] at h2
    cases h2
    obtain ⟨a, c, rfl, _⟩ := h3.shape
    exact ⟨a, c, rfl, h3, h4, h1⟩
  · exact absurd (h2 l hn) hne
theorem keepBad (W : World) (wb : Nat) (z : ByteArray) (t : List ByteArray) (h : WordsAt W wb (z :: t)) (hz : z = keepT) (hl : t.length ≤ 1048576) (hn : ∀ l, numsP (tl t) = some l → l = []) :
    Calls Tryd.prog 63 #[.pointer (some ⟨wb, 0, none⟩)] W fun e w' => e = pan 192 ∧ Kept (fun j => j = wb) W w' := by
  refine (keep_any W wb z t hz h hl).mono ?_
  rintro e w' ⟨h1, ⟨l', v, hne, h2, _⟩ | ⟨_, h3⟩⟩
  · exact absurd (hn l' h2) hne
  · exact ⟨h3, h1⟩
section
variable {W w : World} {wb fb sb rb : Nat} {bc bd bb bk : Bool} {rest : List ByteArray} {k conn brk : Int} {dv kv : Value} {data : List UInt8} {keep : List Int}
theorem At.tabs (h : At W w wb fb sb rb bc bd bb bk rest k conn brk dv kv data keep) (T : Tabs W ∧ 6 ≤ wb) : Tabs w := T.1.keptB (h.kept.below (B := 6) (by have := h.wl; omega) (fun j hj e => by omega))
theorem At.final (h : At W w wb fb sb rb bc bd bb bk rest k conn brk dv kv data keep) : (w.setRow rb #[.int .i64 k, .int .i64 conn, dv, .int .i64 brk, kv]).heap[rb]? = some (.cells #[.int .i64 k, .int .i64 conn, dv, .int .i64 brk, kv] 40 (0, 0)) ∧ Own (w.setRow rb #[.int .i64 k, .int .i64 conn, dv, .int .i64 brk, kv]) W.heap.size dv data ∧ OwnI (w.setRow rb #[.int .i64 k, .int .i64 conn, dv, .int .i64 brk, kv]) W.heap.size kv keep ∧ Kept (fun j => j = wb) W (w.setRow rb #[.int .i64 k, .int .i64 conn, dv, .int .i64 brk, kv]) := by
  have ks : Kept (fun j => j = rb) w (w.setRow rb #[.int .i64 k, .int .i64 conn, dv, .int .i64 brk, kv]) := ⟨rfl, rfl, rfl, by simp [World.setRow], fun j _ hj => setRow_other w rb j _ hj⟩
  exact ⟨setRow_heap w rb _ _ _ _ h.res, Kept.own ks h.data (own_not_step h.data h.res (by decide)), Kept.own ks h.keep (own_not_step h.keep h.res (by decide)), h.kept.step ks (fun j hj e => by have := h.low; omega)⟩
end
theorem at_start (W : World) (wb : Nat) (ss : List ByteArray) (k : Nat) (x : ByteArray) (bc bd bb bk : Bool) (h : WordsAt W wb ss) : ∃ w0 fb sb rb, ((W.alloc (.cells #[.int .i64 0, .int .i64 0, .slice none 0 0, .int .i64 0, .slice none 0 0] 40)).alloc (.cells #[.string x, .bool bc, .bool bd, .bool bb, .bool bk] 87)).alloc (.cells #[.int .i64 (k : Int), .int .i64 0, .slice none 0 0, .int .i64 0, .slice none 0 0] 40) = w0 ∧ W.heap.size + 1 + 1 = sb ∧ W.heap.size + 1 = fb ∧ W.heap.size = rb ∧ At W w0 wb fb sb rb bc bd bb bk ss (k : Int) 0 0 (.slice none 0 0) (.slice none 0 0) [] [] := by
  refine ⟨_, _, _, _, rfl, rfl, rfl, rfl, ?_⟩
  have b1 : Below W.heap.size W (W.alloc (.cells #[.int .i64 0, .int .i64 0, .slice none 0 0, .int .i64 0, .slice none 0 0] 40)) := (Below.refl _ W).alloc (Nat.le_refl _) _
  generalize h1 : W.alloc (.cells #[.int .i64 0, .int .i64 0, .slice none 0 0, .int .i64 0, .slice none 0 0] 40) = w1 at b1 ⊢
  have z1 : w1.heap.size = W.heap.size + 1 := by rw [← h1]; simp
  have r1 : w1.heap[W.heap.size]? = some (.cells #[.int .i64 0, .int .i64 0, .slice none 0 0, .int .i64 0, .slice none 0 0] 40 (0, 0)) := by rw [← h1]; exact heap_alloc_new W _
  have b2 : Below w1.heap.size w1 (w1.alloc (.cells #[.string x, .bool bc, .bool bd, .bool bb, .bool bk] 87)) := (Below.refl _ w1).alloc (Nat.le_refl _) _
  generalize h2 : w1.alloc (.cells #[.string x, .bool bc, .bool bd, .bool bb, .bool bk] 87) = w2 at b2 ⊢
  have z2 : w2.heap.size = w1.heap.size + 1 := by rw [← h2]; simp
  have r2 : w2.heap[w1.heap.size]? = some (.cells #[.string x, .bool bc, .bool bd, .bool bb, .bool bk] 87 (0, 0)) := by rw [← h2]; exact heap_alloc_new w1 _
  have b3 : Below w2.heap.size w2 (w2.alloc (.cells #[.int .i64 (k : Int), .int .i64 0, .slice none 0 0, .int .i64 0, .slice none 0 0] 40)) := (Below.refl _ w2).alloc (Nat.le_refl _) _
  generalize h3 : w2.alloc (.cells #[.int .i64 (k : Int), .int .i64 0, .slice none 0 0, .int .i64 0, .slice none 0 0] 40) = w3 at b3 ⊢
  have z3 : w3.heap.size = w2.heap.size + 1 := by rw [← h3]; simp
  have r3 : w3.heap[w2.heap.size]? = some (.cells #[.int .i64 (k : Int), .int .i64 0, .slice none 0 0, .int .i64 0, .slice none 0 0] 40 (0, 0)) := by rw [← h3]; exact heap_alloc_new w2 _
  have f3 : w3.heap[W.heap.size + 1]? = some (.cells #[.string x, .bool bc, .bool bd, .bool bb, .bool bk] 87 (0, 0)) := by
    rw [← z1]
    exact (b3.block _ (by omega)).trans r2
  have s3 : w3.heap[W.heap.size]? = some (.cells #[.int .i64 0, .int .i64 0, .slice none 0 0, .int .i64 0, .slice none 0 0] 40 (0, 0)) := (b3.block _ (by omega)).trans ((b2.block _ (by omega)).trans r1)
  rw [z2, z1] at r3
  have hl := h.lt
  exact {
    words := ((h.later b1).later b2).later b3
    form := by simp [World.cell?, f3]
    step := r3
    res := s3
    data := Own.nil _ _
    keep := OwnI.nil _ _
    kept := Kept.ofBelow ((b1.trans (b2.mono (by omega))).trans (b3.mono (by omega)))
    wl := hl
    low := by omega
    ne := by omega
    flt := by omega }
end Go.Proofs.YteaccpolmmkclaaDoor
