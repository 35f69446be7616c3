/-
  WStepL, WStepF.
-/
import Derived.Test.YtpfbfkjmdlogcaaDoorCheckS
import Derived.Test.YtpfbfkjmdlogcaaDoorShortW
import Derived.Test.YtpfbfkjmdlogcaaDoorPlB
import Derived.Deep.LoopGhost
namespace Go.Proofs.YtpfbfkjmdlogcaaDoor
open Go.RowKit

/-- A step as it is handed in, in a world in which its lists lie. -/
def StepIn (D : World) (p : StepP) (dv kv : Value) : Prop := (∃ ad cd, dv = .slice ad p.data.length cd ∧ IsBytes D ad cd p.data) ∧ ∃ ak ck, kv = .slice ak p.keep.length ck ∧ IsInts D ak ck p.keep
theorem form_at {w : World} (T : Tabs w) {k : Int} {bc bd bb bk : Bool} (h : formP k = some (bc, bd, bb, bk)) : 1 ≤ k ∧ k ≤ 7 ∧ FormAt w k.toNat bc bd bb bk ∧ w.cell? ⟨0, k.toNat * 5, none⟩ = some (.string ⟨(wordP k.toNat).toArray⟩) := by
  obtain ⟨f1, f2, f3, f4, f5, f6, f7⟩ := T.form
  obtain ⟨t, fz, hl⟩ := T.forms
  rcases form_cases h with ⟨rfl, rfl, rfl, rfl, rfl⟩ | ⟨rfl, rfl, rfl, rfl, rfl⟩ | ⟨rfl, rfl, rfl, rfl, rfl⟩ | ⟨rfl, rfl, rfl, rfl, rfl⟩ | ⟨rfl, rfl, rfl, rfl, rfl⟩ | ⟨rfl, rfl, rfl, rfl, rfl⟩ | ⟨rfl, rfl, rfl, rfl, rfl⟩
  · exact ⟨by omega, by omega, f1, by simp [World.cell?, hl, formsA, wordP]⟩
  · exact ⟨by omega, by omega, f2, by simp [World.cell?, hl, formsA, wordP]⟩
  · exact ⟨by omega, by omega, f3, by simp [World.cell?, hl, formsA, wordP]⟩
  · exact ⟨by omega, by omega, f4, by simp [World.cell?, hl, formsA, wordP]⟩
  · exact ⟨by omega, by omega, f5, by simp [World.cell?, hl, formsA, wordP]⟩
  · exact ⟨by omega, by omega, f6, by simp [World.cell?, hl, formsA, wordP]⟩
  · exact ⟨by omega, by omega, f7, by simp [World.cell?, hl, formsA, wordP]⟩
theorem form_none {k : Int} (h : formP k = none) : k < 1 ∨ 7 < k := by
  unfold formP at h
  repeat' split at h
  all_goals (try cases h)
  omega
/-- checkStep, of whatever step. -/
theorem checkStep_any (W : World) (p : StepP) (dv kv : Value) (T : Tabs W) (h : StepIn W p dv kv) :
    Calls Tryd.prog 36 #[.agg #[.int .i64 p.kind, .int .i64 p.conn, dv, .int .i64 p.brk, kv]] W fun e w' => e = (if checkB p = true then .returned (.tuple #[]) else pan 192) ∧ Below W.heap.size W w' := by
  obtain ⟨⟨ad, cd, rfl, hd⟩, ak, ck, rfl, hk⟩ := h
  cases hf : formP p.kind with
  | none =>
    have e : checkB p = false := by unfold checkB; rw [hf]
    rw [e]
    exact check_kind W p.kind p.conn p.brk ad ak p.data.length cd p.keep.length ck (form_none hf)
  | some f =>
    obtain ⟨bc, bd, bb, bk⟩ := f
    obtain ⟨k1, k7, hfa, _⟩ := form_at T hf
    have hkk : ((p.kind.toNat : Nat) : Int) = p.kind := by omega
    have e : checkB p = (numOkB p.conn bc && numOkB p.brk bb && (bd || p.data.isEmpty) && (bk || p.keep.isEmpty || p.brk != 0) && p.keep.all (numOkB · true)) := by
      unfold checkB
      rw [hf]
    rw [← hkk]
    have hkr : 1 ≤ p.kind.toNat ∧ p.kind.toNat ≤ 7 := by omega
    cases h1 : numOkB p.conn bc
    · rw [show checkB p = false by rw [e, h1]; rfl]
      exact check_conn W p.kind.toNat p.conn p.brk ad ak p.data.length cd p.keep.length ck bc bd bb bk hkr T hfa h1
    · cases h2 : numOkB p.brk bb
      · rw [show checkB p = false by rw [e, h1, h2]; rfl]
        exact check_brk W p.kind.toNat p.conn p.brk ad ak p.data.length cd p.keep.length ck bc bd bb bk hkr T hfa h1 h2
      · rw [h1, h2] at e
        simp only [Bool.and_self, Bool.true_and] at e
        by_cases h3 : 0 < p.data.length ∧ bd = false
        · have : checkB p = false := by
            rw [e, h3.2]
            cases hdd : p.data with
            | nil => rw [hdd] at h3; simp at h3
            | cons a b => rfl
          rw [this]
          exact check_data W p.kind.toNat p.conn p.brk ad ak p.data.length cd p.keep.length ck bc bd bb bk hkr T hfa h1 h2 h3
        · have e3 : (bd || p.data.isEmpty) = true := by
            cases hdd : p.data with
            | nil => simp
            | cons a b =>
              cases bd
              · exact absurd ⟨by rw [hdd]; simp, rfl⟩ h3
              · rfl
          rw [e3, Bool.true_and] at e
          by_cases h4 : 0 < p.keep.length ∧ bk = false ∧ p.brk = 0
          · have : checkB p = false := by
              rw [e, h4.2.1, h4.2.2]
              cases hkk : p.keep with
              | nil => rw [hkk] at h4; simp at h4
              | cons a b => rfl
            rw [this]
            exact check_keep W p.kind.toNat p.conn p.brk ad ak p.data.length cd p.keep.length ck bc bd bb bk hkr T hfa h1 h2 (by
              by_cases hz : p.data.length = 0
              · exact .inl hz
              · right
                cases bd
                · exact absurd ⟨by omega, rfl⟩ h3
                · rfl) h4
          · have e4 : (bk || p.keep.isEmpty || p.brk != 0) = true := by
              cases hkk : p.keep with
              | nil => simp
              | cons a b =>
                cases bk
                · have : p.brk ≠ 0 := fun hb => h4 ⟨by rw [hkk]; simp, rfl, hb⟩
                  simpa using this
                · rfl
            rw [e4, Bool.true_and] at e
            rw [e]
            have hE : (p.keep.all (numOkB · true) = true → (if p.keep.all (numOkB · true) = true then Ending.returned (.tuple #[]) else pan 192) = .returned (.tuple #[])) ∧ (p.keep.all (numOkB · true) = false → (if p.keep.all (numOkB · true) = true then Ending.returned (.tuple #[]) else pan 192) = pan 192) :=
              ⟨fun h => by rw [if_pos h], fun h => by rw [if_neg (by rw [h]; simp)]⟩
            by_cases hz : p.data.length = 0
            · by_cases hk0 : p.keep = []
              · rw [hk0, if_pos (show [].all (numOkB · true) = true from rfl)]
                exact check_A0 W p.kind.toNat p.conn p.brk ad ak p.data.length cd ck bc bd bb bk hkr T hfa h1 h2 hz
              · cases hbk : bk
                · rw [hbk] at hfa
                  exact check_A2 _ W p.kind.toNat p.conn p.brk ad ak p.data.length cd ck p.keep bc bd bb false hkr T hfa h1 h2 hz hk hk0 rfl (fun hb => h4 ⟨List.length_pos_iff.2 hk0, hbk, hb⟩) hE
                · rw [hbk] at hfa
                  exact check_A1 _ W p.kind.toNat p.conn p.brk ad ak p.data.length cd ck p.keep bc bd bb true hkr T hfa h1 h2 hz hk hk0 rfl hE
            · have hbd : bd = true := by
                cases bd
                · exact absurd ⟨by omega, rfl⟩ h3
                · rfl
              by_cases hk0 : p.keep = []
              · rw [hk0, if_pos (show [].all (numOkB · true) = true from rfl)]
                exact check_B0 W p.kind.toNat p.conn p.brk ad ak p.data.length cd ck bc bd bb bk hkr T hfa h1 h2 (by omega) hbd
              · cases hbk : bk
                · rw [hbk] at hfa
                  exact check_B2 _ W p.kind.toNat p.conn p.brk ad ak p.data.length cd ck p.keep bc bd bb false hkr T hfa h1 h2 (by omega) hbd hk hk0 rfl (fun hb => h4 ⟨List.length_pos_iff.2 hk0, hbk, hb⟩) hE
                · rw [hbk] at hfa
                  exact check_B1 _ W p.kind.toNat p.conn p.brk ad ak p.data.length cd ck p.keep bc bd bb true hkr T hfa h1 h2 (by omega) hbd hk hk0 rfl hE
/-- Where a step's line is being written: the entry's world D, the world W at the call, now w. -/
structure WS (D W w : World) (B tb sb fb : Nat) (t : Tx) (k conn brk : Int) (dv kv : Value) (x : ByteArray) (bc bd bb bk : Bool) : Prop where
  wt : WtAt w B tb t
  step : StepBox w sb k conn brk dv kv
  form : w.heap[fb]? = some (.cells #[.string x, .bool bc, .bool bd, .bool bb, .bool bk] 94 (0, 0))
  kept : Kept (Wr B tb W) W w
  low : Below D.heap.size D w
  tabs : Tabs w
  six : 6 ≤ B
  dB : D.heap.size ≤ B
section
variable {D W w w' : World} {B tb sb fb : Nat} {t s : Tx} {k conn brk : Int} {dv kv : Value} {x : ByteArray} {bc bd bb bk : Bool} {e : Ending}
theorem WS.fcells (h : WS D W w B tb sb fb t k conn brk dv kv x bc bd bb bk) : w.cell? ⟨fb, 0, none⟩ = some (.string x) ∧ w.cell? ⟨fb, 1, none⟩ = some (.bool bc) ∧ w.cell? ⟨fb, 2, none⟩ = some (.bool bd) ∧ w.cell? ⟨fb, 3, none⟩ = some (.bool bb) ∧ w.cell? ⟨fb, 4, none⟩ = some (.bool bk) := by
  have := h.form
  simp [World.cell?, this]
theorem Wr.low {W w' : World} {B tb : Nat} (h : Kept (Wr B tb W) W w') (hB : B ≤ W.heap.size) : Below B W w' := h.below hB (fun i hi hp => by have := hp.1; omega)
theorem WS.bsz (h : WS D W w B tb sb fb t k conn brk dv kv x bc bd bb bk) : B ≤ w.heap.size := by
  obtain ⟨v, h1, _, h3⟩ := h.wt
  have := (Array.getElem?_eq_some_iff.1 h1).1
  omega
/-- A call that writes. -/
theorem WS.call (h : WS D W w B tb sb fb t k conn brk dv kv x bc bd bb bk) (hp : AddPost w B tb t s e w') :
    (e = .returned (.tuple #[]) ∧ (t ++ s).length ≤ 1048576 ∧ WS D W w' B tb sb fb (t ++ s) k conn brk dv kv x bc bd bb bk) ∨ (1048576 < (t ++ s).length ∧ e = pan 193 ∧ Kept (Wr B tb W) W w') := by
  obtain ⟨k1, h2⟩ := hp
  have kk := Wr.trans h.kept k1
  rcases h2 with ⟨hl, he, hw⟩ | ⟨hl, he⟩
  · refine .inl ⟨he, hl, hw, h.step.kept k1 (fun hp => ?_), (k1.block fb (Array.getElem?_eq_some_iff.1 h.form).1 (fun hp => ?_)).trans h.form, kk, ?_, ?_, h.six, h.dB⟩
    · have hs := h.step
      unfold StepBox at hs
      rcases hp.2 with e1 | ⟨cur, hc⟩
      · obtain ⟨v, h1, _⟩ := h.wt
        rw [← e1, hs] at h1
        simp at h1
      · rw [hs] at hc
        simp at hc
    · rcases hp.2 with e1 | ⟨cur, hc⟩
      · obtain ⟨v, h1, _⟩ := h.wt
        rw [← e1, h.form] at h1
        simp at h1
      · rw [h.form] at hc
        simp at hc
    · exact h.low.trans ((Wr.low k1 h.bsz).mono h.dB)
    · exact h.tabs.keptB ((Wr.low k1 h.bsz).mono h.six)
  · exact .inr ⟨hl, he, kk⟩
theorem WS.later (h : WS D W w B tb sb fb t k conn brk dv kv x bc bd bb bk) (hb : Below w.heap.size w w') : WS D W w' B tb sb fb t k conn brk dv kv x bc bd bb bk := by
  have hs := h.bsz
  refine ⟨h.wt.later hb, h.step.kept (P := fun _ => False) (Kept.ofBelow hb) (fun h => h), (hb.block fb (Array.getElem?_eq_some_iff.1 h.form).1).trans h.form, Wr.trans h.kept (Wr.ofBelow hb), h.low.trans (hb.mono ?_), h.tabs.below hb, h.six, h.dB⟩
  have := h.dB
  omega
theorem WS.start (D W : World) (B tb : Nat) (t : Tx) (hw : WtAt W B tb t) (T : Tabs W) (low : Below D.heap.size D W) (six : 6 ≤ B) (dB : D.heap.size ≤ B) (x : ByteArray) (k conn brk : Int) (dv kv : Value) (bc bd bb bk : Bool) :
    WS D W ((W.alloc (.cells #[.int .i64 k, .int .i64 conn, dv, .int .i64 brk, kv] 44)).alloc (.cells #[.string x, .bool bc, .bool bd, .bool bb, .bool bk] 94)) B tb W.heap.size (W.heap.size + 1) t k conn brk dv kv x bc bd bb bk := by
  have hl := hw.lt
  obtain ⟨v, h1, h2, h3⟩ := hw
  have b2 : Below W.heap.size W ((W.alloc (.cells #[.int .i64 k, .int .i64 conn, dv, .int .i64 brk, kv] 44)).alloc (.cells #[.string x, .bool bc, .bool bd, .bool bb, .bool bk] 94)) := ((Below.refl _ W).alloc (Nat.le_refl _) _).alloc (by simp) _
  have a1 := heap_alloc_new W (.cells #[.int .i64 k, .int .i64 conn, dv, .int .i64 brk, kv] 44)
  have e1 : (W.alloc (.cells #[.int .i64 k, .int .i64 conn, dv, .int .i64 brk, kv] 44)).heap.size = W.heap.size + 1 := by simp
  refine ⟨WtAt.later ⟨v, h1, h2, h3⟩ b2, (heap_alloc_old _ _ (by omega)).trans a1, ?_, Kept.ofBelow b2, low.trans (b2.mono (by omega)), T.below b2, six, dB⟩
  have a2 := heap_alloc_new (W.alloc (.cells #[.int .i64 k, .int .i64 conn, dv, .int .i64 brk, kv] 44)) (.cells #[.string x, .bool bc, .bool bd, .bool bb, .bool bk] 94)
  rwa [e1] at a2
end
end Go.Proofs.YtpfbfkjmdlogcaaDoor

namespace Go.Proofs.YtpfbfkjmdlogcaaDoor
open Go.RowKit

theorem take_flat {α : Type} (f : α → Tx) (l : List α) (j : Nat) (y : α) (h : l[j]? = some y) : (l.take (j + 1)).flatMap f = (l.take j).flatMap f ++ f y := by
  rw [List.take_add_one, h, List.flatMap_append]
  simp
theorem flat_le {α : Type} (f : α → Tx) (l : List α) (j : Nat) : ((l.take j).flatMap f).length ≤ (l.flatMap f).length := by
  have h : (l.take j).flatMap f ++ (l.drop j).flatMap f = l.flatMap f := by rw [← List.flatMap_append, List.take_append_drop]
  have := congrArg List.length h
  rw [List.length_append] at this
  omega
theorem short_len (c : UInt8) : (shortP c).length ≤ 4 := by
  unfold shortP
  repeat' split
  all_goals simp
end Go.Proofs.YtpfbfkjmdlogcaaDoor
