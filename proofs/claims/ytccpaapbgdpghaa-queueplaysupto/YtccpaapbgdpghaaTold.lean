/-
  A range over a function whose iterator tells of what it hands over: the fact 'Fx pre x A W' reaches the body (A: the world behind the round before; W: the round's own).
-/
import Derived.Test.YtccpaapbgdpghaaTailIn
import Derived.RangeFuncNested
import Derived.RangeFuncBound
import Derived.RangeFuncCalls
import Derived.RangeFuncLeaves
namespace Go.Proofs.Ytccpaapbgdpghaa
open Go.RowKit

variable {F : Fence} {n : Nat} {P : Program}

/-- The iterator's word: each round is asked for at a value of which 'Fx' holds in the round's world. -/
def SeqTold {α : Type} (F : Fence) (n : Nat) (P : Program) (g : Nat) (lb : Array Value) (encs : α → Array Value) (Kp : World → World → Prop) (Fx : List α → α → World → World → Prop) (S Sp : List α → Prop) (N : Nat) (w : World) : Prop :=
  ∀ (l : Nat) (J Jx : List α → World → Prop) (W : World), Below w.heap.size w W → AbidesFrom W.heap.size J → AbidesFrom W.heap.size Jx →
    (∀ pre x A W1, J pre A → Below A.heap.size A W1 → Fx pre x A W1 → pre.length < N → YieldAt F (n - 1) P l (encs x) W1 fun e W' =>
      (e = .returned (.bool true) ∧ J (pre ++ [x]) W' ∧ Kp W1 W') ∨ (e = .returned (.bool false) ∧ Jx (pre ++ [x]) W')) →
    J [] W →
    CallsIn F n P g (#[.func (.yield l) #[] #[]] ++ lb) W fun e W' => (∃ v, e = .returned v) ∧ ((∃ xs, S xs ∧ J xs W') ∨ (∃ pre, Sp pre ∧ Jx pre W'))

theorem SeqTold.inRound {α : Type} {g : Nat} {lb : Array Value} {encs : α → Array Value} {Kp : World → World → Prop} {Fx : List α → α → World → World → Prop} {S Sp : List α → Prop} {N : Nat} {w : World} (l : Nat)
    (h : SeqTold F n P g lb encs Kp Fx S Sp N w) : SeqTold (F.inRound l) n P g lb encs Kp Fx S Sp N w := h

/-- A statement that goes on behind its end alone. -/
theorem wp_onward {c : Code} {K : Act → World → Prop} {Q' : Exit → Act → World → Prop} {a : Act} {w : World} (h : c.wp P (Exit.then K (fun _ _ _ => False)) a w) : c.wp P (Exit.then K Q') a w :=
  wp_mono h (fun e _ _ h => by cases e <;> first | exact h | exact h.elim)
theorem wpIn_onward {c : Code} {K : Act → World → Prop} {Q' : Exit → Act → World → Prop} {a : Act} {w : World} (h : c.wpIn F n P (Exit.then K (fun _ _ _ => False)) a w) : c.wpIn F n P (Exit.then K Q') a w :=
  wpIn_mono h (fun e _ _ h => by cases e <;> first | exact h | exact h.elim)

/-- The record of a loop. -/
def record (fn : FuncId) (tmps : Array Value) (ps : Array Tmp) (assign body : Code) (d : Nat) (st : LoopState) (pe : Option Code) : Loop := { state := st, pending := pe, fn, tmps, params := ps, assign, body, defers := d }
/-- The block for the rounds' deferred calls, if the loop has laid one. -/
def Shelved (dd : Option Nat) (W : World) : Prop := ∀ d, dd = some d → W.heap[d]? = some (.deferred (some []))

theorem Shelved.put {dd : Option Nat} {W : World} {l : Nat} (h : Shelved dd W) (hne : ∀ d, dd = some d → d ≠ l) (o : Obj) : Shelved dd (W.putObj l o) :=
  fun d e => (World.putObj_heap_other (hne d e)).trans (h d e)
theorem Shelved.from {dd : Option Nat} {B : Nat} {W W' : World} (h : Shelved dd W) (hB : ∀ d, dd = some d → B ≤ d) (hk : KeepsFrom B W W') : Shelved dd W' :=
  fun d e => hk.same d _ (hB d e) (h d e) rfl
theorem Shelved.walks {dd : Option Nat} {W W' : World} {row : Option Nat} (h : Shelved dd W) (hg : W.grownBy W' row) (hr : ∀ r, row = some r → ∃ o : Obj, W.heap[r]? = some o ∧ o.isWalk = true) : Shelved dd W' :=
  fun d e => (grownBy_keeps hg hr (h d e) rfl).trans (h d e)

/-- All rounds. -/
theorem told_rounds {α : Type} {ps : Array Tmp} {assign body : Code} {a : Act} {fn : FuncId} {gf : Nat} {lb : Array Value} {encs : α → Array Value} {Kp : World → World → Prop} {Fx : List α → α → World → World → Prop} {S Sp : List α → Prop} {N : Nat} {w0 W1 : World}
    (hfn : F.fn fn) (hseq : SeqTold F (n - 1) P gf lb encs Kp Fx S Sp N w0) (B l df : Nat) (dd : Option Nat) (hBl : B ≤ l) (hdB : ∀ d, dd = some d → B ≤ d) (hdl : ∀ d, dd = some d → d ≠ l) (hBW : B ≤ W1.heap.size)
    (hKt : ∀ {A B C : World}, Kp A B → Kp B C → Kp A C) (hKb : ∀ (W : World) (l : Nat) (o o' : Obj), B ≤ l → W.heap[l]? = some o → o.isCells = false → o.isWalk = false → Kp W (W.putObj l o')) (hb0 : Below w0.heap.size w0 W1) (hps : ∀ x, (encs x).size = ps.size)
    (I : List α → World → Prop) (Ix : Code → List α → World → Prop) (hI : OwnFrom B I) (hIx : ∀ c, OwnFrom B (Ix c)) (hFx : ∀ pre x A, OwnFrom B (fun (_ : Unit) W => Fx pre x A W)) (a1 : α → Act)
    (hassign : ∀ (l : Nat) (x : α) (W : World) (K : Act → World → Prop), K (a1 x) W →
      assign.wpIn (F.inRound l) (n - 1 - 1) P (Exit.then K (fun _ _ _ => False)) { tmps := (ps.zip (encs x)).foldl (fun t (p, v) => t.setIfInBounds p v) a.tmps, defers := [] } W)
    (hbody : ∀ (pre : List α) (x : α) (A W : World), (∃ r, A.heap[l]? = some (.loop r)) → (∃ r, W.heap[l]? = some (.loop r)) → A.grownBy W (some l) → I pre A → I pre W → Fx pre x A W → pre.length < N → body.wpIn (F.inRound l) (n - 1 - 1) P (ownPostG B Kp I Ix (pre ++ [x]) W) (a1 x) W)
    (h0 : I [] W1) (hl1 : W1.heap[l]? = some (.loop (record fn a.tmps ps assign body df .ready none))) (hk1 : Shelved dd W1) :
    CallsIn F (n - 1) P gf (#[.func (.yield l) #[] #[]] ++ lb) W1 fun e W2 => (∃ v, e = .returned v) ∧
      ((∃ xs, S xs ∧ I xs W2 ∧ W2.heap[l]? = some (.loop (record fn a.tmps ps assign body df .ready none)) ∧ Shelved dd W2) ∨
       (∃ pre, Sp pre ∧ ∃ c, Ix c pre W2 ∧ W2.heap[l]? = some (.loop (record fn a.tmps ps assign body df .done (some c))) ∧ Shelved dd W2)) := by
  have walked : ∀ {A C : World} {row : Option Nat}, (∀ r, row = some r → W1.heap.size ≤ r ∧ ∃ o : Obj, A.heap[r]? = some o ∧ o.isWalk = true) → (∀ r, row = some r → B ≤ r ∧ ∃ o : Obj, A.heap[r]? = some o ∧ o.isCells = false) := by
    intro A C row hr r e
    obtain ⟨h1, o, h2, h3⟩ := hr r e
    exact ⟨Nat.le_trans hBW h1, o, h2, Obj.not_cells_of_walk h3⟩
  refine hseq l (fun pre W => I pre W ∧ W.heap[l]? = some (.loop (record fn a.tmps ps assign body df .ready none)) ∧ Shelved dd W)
    (fun pre W => ∃ c, Ix c pre W ∧ W.heap[l]? = some (.loop (record fn a.tmps ps assign body df .done (some c))) ∧ Shelved dd W) W1 hb0 ?_ ?_ ?_ ⟨h0, hl1, hk1⟩
  · rintro s A C row ⟨h1, h2, h3⟩ hg hr
    exact ⟨hI s A C row h1 hg (walked (C := C) hr), (grownBy_keeps hg (fun r e => (hr r e).2) h2 rfl).trans h2, h3.walks hg (fun r e => (hr r e).2)⟩
  · rintro s A C row ⟨c, h1, h2, h3⟩ hg hr
    exact ⟨c, hIx c s A C row h1 hg (walked (C := C) hr), (grownBy_keeps hg (fun r e => (hr r e).2) h2 rfl).trans h2, h3.walks hg (fun r e => (hr r e).2)⟩
  rintro pre x A W ⟨hiA, hlA, hkA⟩ hAW hfx hlen
  have hgAW : A.grownBy W none := ⟨hAW.os, hAW.tape, hAW.output, hAW.size, fun k hk _ => hAW.block k hk⟩
  have hgl : A.grownBy W (some l) := ⟨hAW.os, hAW.tape, hAW.output, hAW.size, fun k hk _ => hAW.block k hk⟩
  have hi : I pre W := hI pre A W none hiA hgAW (fun r e => by cases e)
  have hl : W.heap[l]? = some (.loop (record fn a.tmps ps assign body df .ready none)) := (hAW.block l (Array.getElem?_eq_some_iff.1 hlA).1).trans hlA
  have hk : Shelved dd W := hkA.walks hgAW (fun r e => by cases e)
  refine ⟨fn, _, assign, body, run_yield (P := P) (args := encs x) hl (hps x), roundIn_of_wpIn hfn (hassign _ x W _ ?_)⟩
  refine ⟨_, run_beginRound hl rfl, ?_⟩
  have hlt : l < W.heap.size := (Array.getElem?_eq_some_iff.1 hl).1
  obtain ⟨Wb, hWb⟩ : ∃ Wb, Wb = W.putObj l (.loop { record fn a.tmps ps assign body df .ready none with state := .busy }) := ⟨_, rfl⟩
  have hlb : Wb.heap[l]? = some (.loop (record fn a.tmps ps assign body df .busy none)) := by rw [hWb]; exact World.putObj_heap_same hlt
  have hkb : Shelved dd Wb := by rw [hWb]; exact hk.put hdl _
  have hib : I pre Wb := by rw [hWb]; exact hI.putObj _ hi hBl hl rfl
  have hfb : Fx pre x A Wb := by rw [hWb]; exact (hFx pre x A).putObj (s := ()) _ hfx hBl hl rfl
  have hgb : A.grownBy Wb (some l) := by rw [hWb]; exact grown_trans hgl (grownBy_putObj' W l _)
  have hKW : Kp W Wb := by rw [hWb]; exact hKb _ _ _ _ hBl hl rfl rfl
  rw [← hWb]
  clear hWb
  refine wpIn_mono (hbody pre x A Wb ⟨_, hlA⟩ ⟨_, hlb⟩ hgb hiA hib hfb hlen) ?_
  have leave : ∀ (c : Code) (W3 : World), KeepsFrom B Wb W3 → Ix c (pre ++ [x]) W3 → ∃ v w', (Instr.endRound l (some c)).run P W3 = .ok v w' ∧ ((Ending.returned v = .returned (.bool true) ∧ (I (pre ++ [x]) w' ∧ w'.heap[l]? = some (.loop (record fn a.tmps ps assign body df .ready none)) ∧ Shelved dd w') ∧ Kp W w') ∨
      (Ending.returned v = .returned (.bool false) ∧ ∃ c, Ix c (pre ++ [x]) w' ∧ w'.heap[l]? = some (.loop (record fn a.tmps ps assign body df .done (some c))) ∧ Shelved dd w')) := by
    intro c W3 hk3 hi3
    have hl3 := hk3.same _ _ hBl hlb rfl
    exact ⟨_, _, run_endRound (some c) hl3, .inr ⟨rfl, c, (hIx c).putObj _ hi3 hBl hl3 rfl, World.putObj_heap_same (Array.getElem?_eq_some_iff.1 hl3).1, (hkb.from hdB hk3).put hdl _⟩⟩
  rintro e a3 W3 hp
  cases e with
  | normal =>
    obtain ⟨hk3, hkp3, hi3⟩ := hp
    have hl3 := hk3.same _ _ hBl hlb rfl
    exact ⟨_, _, run_endRound none hl3, .inl ⟨rfl, ⟨hI.putObj _ hi3 hBl hl3 rfl, World.putObj_heap_same (Array.getElem?_eq_some_iff.1 hl3).1, (hkb.from hdB hk3).put hdl _⟩, hKt (hKt hKW hkp3) (hKb _ _ _ _ hBl hl3 rfl rfl)⟩⟩
  | ret => exact leave .ret W3 hp.1 hp.2
  | exit id => exact leave (.exit id) W3 hp.1 hp.2
  | goto t => exact leave (.goto t) W3 hp.1 hp.2
  | panic ch => exact hp.elim
  | outgrown => exact hp.elim

/-- The statement, in no round. -/
theorem wpIn_told {α : Type} {g : Operand} {ps : Array Tmp} {assign body : Code} {Q : Exit → Act → World → Prop} {a : Act} {w : World}
    (hro : F.round = none) (h1 : 1 ≤ n) {gf : Nat} {lb : Array Value} (hg : a.eval g = .func (.func gf) #[] lb) (hFg : F.fn gf) (eg : ∀ args w, (callFunc gf args).run P w = .ok (.enter gf args) w)
    {encs : α → Array Value} {Kp : World → World → Prop} {Fx : List α → α → World → World → Prop} {S Sp : List α → Prop} {N : Nat} {w0 : World} (hseq : SeqTold F (n - 1) P gf lb encs Kp Fx S Sp N w0)
    (hKt : ∀ {A B C : World}, Kp A B → Kp B C → Kp A C) (hKb : ∀ (W : World) (l : Nat) (o o' : Obj), w.heap.size ≤ l → W.heap[l]? = some o → o.isCells = false → o.isWalk = false → Kp W (W.putObj l o')) (hb0 : Below w0.heap.size w0 w) (hps : ∀ x, (encs x).size = ps.size)
    (I : List α → World → Prop) (Ix : Code → List α → World → Prop) (hI : OwnFrom w.heap.size I) (hIx : ∀ c, OwnFrom w.heap.size (Ix c)) (hFx : ∀ pre x A, OwnFrom w.heap.size (fun (_ : Unit) W => Fx pre x A W)) (h0 : I [] w) (a1 : α → Act)
    (hassign : ∀ (l : Nat) (x : α) (W : World) (K : Act → World → Prop), K (a1 x) W →
      assign.wpIn (F.inRound l) (n - 1 - 1) P (Exit.then K (fun _ _ _ => False)) { tmps := (ps.zip (encs x)).foldl (fun t (p, v) => t.setIfInBounds p v) a.tmps, defers := [] } W)
    (hbody : ∀ (l : Nat) (pre : List α) (x : α) (A W : World), w.heap.size ≤ l → (∃ r, A.heap[l]? = some (.loop r)) → (∃ r, W.heap[l]? = some (.loop r)) → A.grownBy W (some l) → I pre A → I pre W → Fx pre x A W → pre.length < N → body.wpIn (F.inRound l) (n - 1 - 1) P (ownPostG w.heap.size Kp I Ix (pre ++ [x]) W) (a1 x) W)
    (hdone : ∀ (D : Nat) (xs : List α) (W : World), w.heap.size ≤ D → S xs → I xs W → W.heap[D]? = some (.deferred (some [])) → Q .normal { a with defers := { target := .collected D, args := #[] } :: a.defers } W)
    (hstop : ∀ (D : Nat) (c : Code) (pre : List α) (W : World), w.heap.size ≤ D → Sp pre → Ix c pre W → W.heap[D]? = some (.deferred (some [])) → c.wpIn F n P Q { a with defers := { target := .collected D, args := #[] } :: a.defers } W) :
    (Code.rangeFunc g ps assign body).wpIn F n P Q a w := by
  refine wpIn_rangeFunc ?_
  intro fn hfn
  rw [hro]
  obtain ⟨W1, hW1⟩ : ∃ W1, W1 = (w.alloc (.deferred (some []))).alloc (.loop (record fn a.tmps ps assign body w.heap.size .ready none)) := ⟨_, rfl⟩
  have hz1 : W1.heap.size = w.heap.size + 2 := by rw [hW1]; simp
  have hB1 : Below w.heap.size w W1 := by rw [hW1]; exact ((Below.refl _ w).alloc (Nat.le_refl _) _).alloc (by simp) _
  have hL1 : W1.heap[w.heap.size + 1]? = some (.loop (record fn a.tmps ps assign body w.heap.size .ready none)) := by
    rw [hW1]; have := World.alloc_heap_new (w.alloc (.deferred (some []))) (.loop (record fn a.tmps ps assign body w.heap.size .ready none)); rwa [World.size_alloc] at this
  have hK1 : Shelved (some w.heap.size) W1 := by
    rintro d ⟨⟩
    rw [hW1]; exact (Below.heap_alloc _ _ _ (by simp)).trans (World.alloc_heap_new w _)
  have hI1 : I [] W1 := by rw [hW1]; exact hI.alloc _ (hI.alloc _ h0)
  refine ⟨w.heap.size + 1, [{ target := .collected w.heap.size, args := #[] }], W1, { target := .fn (.func gf) lb, args := #[.func (.yield (w.heap.size + 1)) #[] #[]] }, W1, gf,
    #[.func (.yield (w.heap.size + 1)) #[] #[]] ++ lb, W1, ?_, ?_, ?_, ?_, fun _ => h1, ?_⟩
  · rw [hW1]; exact run_enterLoop_outer _ _ _ _ _
  · simp only [resolve, hg]
    simp [go_sem]
  · intro f' hf'; simp [Target.leads] at hf'; subst hf'; exact hFg
  · simp [invoke, go_sem, eg]
  · refine (told_rounds hfn hseq w.heap.size (w.heap.size + 1) w.heap.size (some w.heap.size) (by omega) (fun d e => by cases e; exact Nat.le_refl _) (fun d e => by cases e; omega) (by omega) hKt hKb (hb0.trans (hB1.mono hb0.size)) hps I Ix hI hIx hFx a1 hassign (fun pre x A W => hbody _ pre x A W (by omega)) hI1 hL1 hK1).mono ?_
    rintro e W2 ⟨⟨v, rfl⟩, (⟨xs, hS, hi, hl, hk⟩ | ⟨pre, hSp, c, hi, hl, hk⟩)⟩
    · exact ⟨none, _, run_endLoop hl (by simp [record]), hdone _ xs _ (Nat.le_refl _) hS (hI.putObj _ hi (by omega) hl rfl) (hk.put (fun d e => by cases e; omega) _ _ rfl)⟩
    · exact ⟨some c, _, run_endLoop hl (by simp [record]), hstop _ c pre _ (Nat.le_refl _) hSp ((hIx c).putObj _ hi (by omega) hl rfl) (hk.put (fun d e => by cases e; omega) _ _ rfl)⟩

/-- The statement, in a round. -/
theorem wpIn_told_in {α : Type} {g : Operand} {ps : Array Tmp} {assign body : Code} {Q : Exit → Act → World → Prop} {a : Act} {w : World}
    {l₀ : Nat} {r₀ : Loop} (hro : F.round = some l₀) (hl₀ : w.heap[l₀]? = some (.loop r₀)) (h1 : 1 ≤ n) {gf : Nat} {lb : Array Value} (hg : a.eval g = .func (.func gf) #[] lb) (hFg : F.fn gf) (eg : ∀ args w, (callFunc gf args).run P w = .ok (.enter gf args) w)
    {encs : α → Array Value} {Kp : World → World → Prop} {Fx : List α → α → World → World → Prop} {S Sp : List α → Prop} {N : Nat} {w0 : World} (hseq : SeqTold F (n - 1) P gf lb encs Kp Fx S Sp N w0)
    (hKt : ∀ {A B C : World}, Kp A B → Kp B C → Kp A C) (hKb : ∀ (W : World) (l : Nat) (o o' : Obj), w.heap.size ≤ l → W.heap[l]? = some o → o.isCells = false → o.isWalk = false → Kp W (W.putObj l o')) (hb0 : Below w0.heap.size w0 w) (hps : ∀ x, (encs x).size = ps.size)
    (I : List α → World → Prop) (Ix : Code → List α → World → Prop) (hI : OwnFrom w.heap.size I) (hIx : ∀ c, OwnFrom w.heap.size (Ix c)) (hFx : ∀ pre x A, OwnFrom w.heap.size (fun (_ : Unit) W => Fx pre x A W)) (h0 : I [] w) (a1 : α → Act)
    (hassign : ∀ (l : Nat) (x : α) (W : World) (K : Act → World → Prop), K (a1 x) W →
      assign.wpIn (F.inRound l) (n - 1 - 1) P (Exit.then K (fun _ _ _ => False)) { tmps := (ps.zip (encs x)).foldl (fun t (p, v) => t.setIfInBounds p v) a.tmps, defers := [] } W)
    (hbody : ∀ (l : Nat) (pre : List α) (x : α) (A W : World), w.heap.size ≤ l → (∃ r, A.heap[l]? = some (.loop r)) → (∃ r, W.heap[l]? = some (.loop r)) → A.grownBy W (some l) → I pre A → I pre W → Fx pre x A W → pre.length < N → body.wpIn (F.inRound l) (n - 1 - 1) P (ownPostG w.heap.size Kp I Ix (pre ++ [x]) W) (a1 x) W)
    (hdone : ∀ (xs : List α) (W : World), S xs → I xs W → Q .normal a W)
    (hstop : ∀ (c : Code) (pre : List α) (W : World), Sp pre → Ix c pre W → c.wpIn F n P Q a W) :
    (Code.rangeFunc g ps assign body).wpIn F n P Q a w := by
  refine wpIn_rangeFunc ?_
  intro fn hfn
  rw [hro]
  obtain ⟨W1, hW1⟩ : ∃ W1, W1 = w.alloc (.loop (record fn a.tmps ps assign body r₀.defers .ready none)) := ⟨_, rfl⟩
  have hz1 : W1.heap.size = w.heap.size + 1 := by rw [hW1]; simp
  have hB1 : Below w.heap.size w W1 := by rw [hW1]; exact (Below.refl _ w).alloc (Nat.le_refl _) _
  have hL1 : W1.heap[w.heap.size]? = some (.loop (record fn a.tmps ps assign body r₀.defers .ready none)) := by rw [hW1]; exact World.alloc_heap_new w _
  have hI1 : I [] W1 := by rw [hW1]; exact hI.alloc _ h0
  refine ⟨w.heap.size, [], W1, { target := .fn (.func gf) lb, args := #[.func (.yield w.heap.size) #[] #[]] }, W1, gf,
    #[.func (.yield w.heap.size) #[] #[]] ++ lb, W1, ?_, ?_, ?_, ?_, fun _ => h1, ?_⟩
  · rw [hW1]; exact run_enterLoop_inner hl₀ _ _ _ _ _
  · simp only [resolve, hg]
    simp [go_sem]
  · intro f' hf'; simp [Target.leads] at hf'; subst hf'; exact hFg
  · simp [invoke, go_sem, eg]
  · refine (told_rounds hfn hseq w.heap.size w.heap.size r₀.defers none (Nat.le_refl _) (fun d e => by cases e) (fun d e => by cases e) (by omega) hKt hKb (hb0.trans (hB1.mono hb0.size)) hps I Ix hI hIx hFx a1 hassign (fun pre x A W => hbody _ pre x A W (Nat.le_refl _)) hI1 hL1 (fun d e => by cases e)).mono ?_
    rintro e W2 ⟨⟨v, rfl⟩, (⟨xs, hS, hi, hl, hk⟩ | ⟨pre, hSp, c, hi, hl, hk⟩)⟩
    · exact ⟨none, _, run_endLoop hl (by simp [record]), hdone xs _ hS (hI.putObj _ hi (Nat.le_refl _) hl rfl)⟩
    · exact ⟨some c, _, run_endLoop hl (by simp [record]), hstop c pre _ hSp ((hIx c).putObj _ hi (Nat.le_refl _) hl rfl)⟩
end Go.Proofs.Ytccpaapbgdpghaa
