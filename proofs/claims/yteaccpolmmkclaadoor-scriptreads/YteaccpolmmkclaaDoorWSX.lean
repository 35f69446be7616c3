/-
  WSL, WSA, WSB, WSC.
-/
import Derived.Test.YteaccpolmmkclaaDoorCheckS
import Derived.Test.YteaccpolmmkclaaDoorShortW
import Derived.Test.YteaccpolmmkclaaDoorPlB
import Derived.Deep.LoopGhost
namespace Go.Proofs.YteaccpolmmkclaaDoor
open Go.RowKit

/-- A step as it is handed in, in a world in which its lists lie. -/
def StepIn (D : World) (p : StepP) (dv kv : Value) : Prop := (∃ ad cd, dv = .slice ad p.data.length cd ∧ IsBytes D ad cd p.data) ∧ ∃ ak ck, kv = .slice ak p.keep.length ck ∧ IsInts D ak ck p.keep
theorem form_at {w : World} (T : Tabs w) {k : Int} {bc bd bb bk : Bool} (h : formP k = some (bc, bd, bb, bk)) : 1 ≤ k ∧ k ≤ 7 ∧ FormAt w k.toNat bc bd bb bk ∧ w.cell? ⟨0, k.toNat * 5, none⟩ = some (.string ⟨(wordP k.toNat).toArray⟩) := by
  obtain ⟨f1, f2, f3, f4, f5, f6, f7⟩ := T.form
  obtain ⟨t, fz, hl⟩ := T.forms
  rcases form_cases h with ⟨rfl, rfl, rfl, rfl, rfl⟩ | ⟨rfl, rfl, rfl, rfl, rfl⟩ | ⟨rfl, rfl, rfl, rfl, rfl⟩ | ⟨rfl, rfl, rfl, rfl, rfl⟩ | ⟨rfl, rfl, rfl, rfl, rfl⟩ | ⟨rfl, rfl, rfl, rfl, rfl⟩ | ⟨rfl, rfl, rfl, rfl, rfl⟩
  · exact ⟨by omega, by omega, f1, by simp [World.cell?, hl, formsA, wordP]⟩
  · exact ⟨by omega, by omega, f2, by simp [World.cell?, hl, formsA, wordP]⟩
  · exact ⟨by omega, by omega, f3, by simp [World.cell?, hl, formsA, wordP]⟩
  · exact ⟨by omega, by omega, f4, by simp [World.cell?, hl, formsA, wordP]⟩
  · exact ⟨by omega, by omega, f5, by simp [World.cell?, hl, formsA, wordP]⟩
  · exact ⟨by omega, by omega, f6, by simp [World.cell?, hl, formsA, wordP]⟩
  · exact ⟨by omega, by omega, f7, by simp [World.cell?, hl, formsA, wordP]⟩
theorem form_none {k : Int} (h : formP k = none) : k < 1 ∨ 7 < k := by
  unfold formP at h
  repeat' split at h
  all_goals (try cases h)
  omega
/-- checkStep, of whatever step. -/
theorem checkStep_any (W : World) (p : StepP) (dv kv : Value) (T : Tabs W) (h : StepIn W p dv kv) :
    Calls Tryd.prog 28 #[.agg #[.int .i64 p.kind, .int .i64 p.conn, dv, .int .i64 p.brk, kv]] W fun e w' => e = (if checkB p = true then .returned (.tuple #[]) else pan 192) ∧ Below W.heap.size W w' := by
  obtain ⟨⟨ad, cd, rfl, hd⟩, ak, ck, rfl, hk⟩ := h
  cases hf : formP p.kind with
  | none =>
    have e : checkB p = false := by unfold checkB; rw [hf]
    rw [e]
    exact check_kind W p.kind p.conn p.brk ad ak p.data.length cd p.keep.length ck (form_none hf)
  | some f =>
    obtain ⟨bc, bd, bb, bk⟩ := f
    obtain ⟨k1, k7, hfa, _⟩ := form_at T hf
    have hkk : ((p.kind.toNat : Nat) : Int) = p.kind := by omega
    have e : checkB p = (numOkB p.conn bc && numOkB p.brk bb && (bd || p.data.isEmpty) && (bk || p.keep.isEmpty || p.brk != 0) && p.keep.all (numOkB · true)) := by
      unfold checkB
      rw [hf]
    rw [← hkk]
    have hkr : 1 ≤ p.kind.toNat ∧ p.kind.toNat ≤ 7 := by omega
    cases h1 : numOkB p.conn bc
    · rw [show checkB p = false by rw [e, h1]; rfl]
      exact check_conn W p.kind.toNat p.conn p.brk ad ak p.data.length cd p.keep.length ck bc bd bb bk hkr T hfa h1
    · cases h2 : numOkB p.brk bb
      · rw [show checkB p = false by rw [e, h1, h2]; rfl]
        exact check_brk W p.kind.toNat p.conn p.brk ad ak p.data.length cd p.keep.length ck bc bd bb bk hkr T hfa h1 h2
      · rw [h1, h2] at e
        simp only [Bool.and_self, Bool.true_and] at e
        by_cases h3 : 0 < p.data.length ∧ bd = false
        · have : checkB p = false := by
            rw [e, h3.2]
            cases hdd : p.data with
            | nil => rw [hdd] at h3; simp at h3
            | cons a b => rfl
          rw [this]
          exact check_data W p.kind.toNat p.conn p.brk ad ak p.data.length cd p.keep.length ck bc bd bb bk hkr T hfa h1 h2 h3
        · have e3 : (bd || p.data.isEmpty) = true := by
            cases hdd : p.data with
            | nil => simp
            | cons a b =>
              cases bd
              · exact absurd ⟨by rw [hdd]; simp, rfl⟩ h3
              · rfl
          rw [e3, Bool.true_and] at e
          by_cases h4 : 0 < p.keep.length ∧ bk = false ∧ p.brk = 0
          · have : checkB p = false := by
              rw [e, h4.2.1, h4.2.2]
              cases hkk : p.keep with
              | nil => rw [hkk] at h4; simp at h4
              | cons a b => rfl
            rw [this]
            exact check_keep W p.kind.toNat p.conn p.brk ad ak p.data.length cd p.keep.length ck bc bd bb bk hkr T hfa h1 h2 (by
              by_cases hz : p.data.length = 0
              · exact .inl hz
              · right
                cases bd
                · exact absurd ⟨by omega, rfl⟩ h3
                · rfl) h4
          · have e4 : (bk || p.keep.isEmpty || p.brk != 0) = true := by
              cases hkk : p.keep with
              | nil => simp
              | cons a b =>
                cases bk
                · have : p.brk ≠ 0 := fun hb => h4 ⟨by rw [hkk]; simp, rfl, hb⟩
                  simpa using this
                · rfl
            rw [e4, Bool.true_and] at e
            rw [e]
            have hE : (p.keep.all (numOkB · true) = true → (if p.keep.all (numOkB · true) = true then Ending.returned (.tuple #[]) else pan 192) = .returned (.tuple #[])) ∧ (p.keep.all (numOkB · true) = false → (if p.keep.all (numOkB · true) = true then Ending.returned (.tuple #[]) else pan 192) = pan 192) :=
              ⟨fun h => by rw [if_pos h], fun h => by rw [if_neg (by rw [h]; simp)]⟩
            by_cases hz : p.data.length = 0
            · by_cases hk0 : p.keep = []
              · rw [hk0, if_pos (show [].all (numOkB · true) = true from rfl)]
                exact check_A0 W p.kind.toNat p.conn p.brk ad ak p.data.length cd ck bc bd bb bk hkr T hfa h1 h2 hz
              · cases hbk : bk
                · rw [hbk] at hfa
                  exact check_A2 _ W p.kind.toNat p.conn p.brk ad ak p.data.length cd ck p.keep bc bd bb false hkr T hfa h1 h2 hz hk hk0 rfl (fun hb => h4 ⟨List.length_pos_iff.2 hk0, hbk, hb⟩) hE
                · rw [hbk] at hfa
                  exact check_A1 _ W p.kind.toNat p.conn p.brk ad ak p.data.length cd ck p.keep bc bd bb true hkr T hfa h1 h2 hz hk hk0 rfl hE
            · have hbd : bd = true := by
                cases bd
                · exact absurd ⟨by omega, rfl⟩ h3
                · rfl
              by_cases hk0 : p.keep = []
              · rw [hk0, if_pos (show [].all (numOkB · true) = true from rfl)]
                exact check_B0 W p.kind.toNat p.conn p.brk ad ak p.data.length cd ck bc bd bb bk hkr T hfa h1 h2 (by omega) hbd
              · cases hbk : bk
                · rw [hbk] at hfa
                  exact check_B2 _ W p.kind.toNat p.conn p.brk ad ak p.data.length cd ck p.keep bc bd bb false hkr T hfa h1 h2 (by omega) hbd hk hk0 rfl (fun hb => h4 ⟨List.length_pos_iff.2 hk0, hbk, hb⟩) hE
                · rw [hbk] at hfa
                  exact check_B1 _ W p.kind.toNat p.conn p.brk ad ak p.data.length cd ck p.keep bc bd bb true hkr T hfa h1 h2 (by omega) hbd hk hk0 rfl hE
/-- Where a step's line is being written: the entry's world D, the world W at the call, now w. -/
structure WS (D W w : World) (B tb sb fb : Nat) (t : Tx) (k conn brk : Int) (dv kv : Value) (x : ByteArray) (bc bd bb bk : Bool) : Prop where
  wt : WtAt w B tb t
  step : StepBox w sb k conn brk dv kv
  form : w.heap[fb]? = some (.cells #[.string x, .bool bc, .bool bd, .bool bb, .bool bk] 87 (0, 0))
  kept : Kept (Wr B tb W) W w
  low : Below D.heap.size D w
  tabs : Tabs w
  six : 6 ≤ B
  dB : D.heap.size ≤ B
section
variable {D W w w' : World} {B tb sb fb : Nat} {t s : Tx} {k conn brk : Int} {dv kv : Value} {x : ByteArray} {bc bd bb bk : Bool} {e : Ending}
theorem WS.fcells (h : WS D W w B tb sb fb t k conn brk dv kv x bc bd bb bk) : w.cell? ⟨fb, 0, none⟩ = some (.string x) ∧ w.cell? ⟨fb, 1, none⟩ = some (.bool bc) ∧ w.cell? ⟨fb, 2, none⟩ = some (.bool bd) ∧ w.cell? ⟨fb, 3, none⟩ = some (.bool bb) ∧ w.cell? ⟨fb, 4, none⟩ = some (.bool bk) := by
  have := h.form
  simp [World.cell?, this]
theorem Wr.low {W w' : World} {B tb : Nat} (h : Kept (Wr B tb W) W w') (hB : B ≤ W.heap.size) : Below B W w' := h.below hB (fun i hi hp => by have := hp.1; omega)
theorem WS.bsz (h : WS D W w B tb sb fb t k conn brk dv kv x bc bd bb bk) : B ≤ w.heap.size := by
  obtain ⟨v, h1, _, h3⟩ := h.wt
  have := (Array.getElem?_eq_some_iff.1 h1).1
  omega
/-- A call that writes. -/
theorem WS.call (h : WS D W w B tb sb fb t k conn brk dv kv x bc bd bb bk) (hp : AddPost w B tb t s e w') :
    (e = .returned (.tuple #[]) ∧ (t ++ s).length ≤ 1048576 ∧ WS D W w' B tb sb fb (t ++ s) k conn brk dv kv x bc bd bb bk) ∨ (1048576 < (t ++ s).length ∧ e = pan 193 ∧ Kept (Wr B tb W) W w') := by
  obtain ⟨k1, h2⟩ := hp
  have kk := Wr.trans h.kept k1
  rcases h2 with ⟨hl, he, hw⟩ | ⟨hl, he⟩
  · refine .inl ⟨he, hl, hw, h.step.kept k1 (fun hp => ?_), (k1.block fb (Array.getElem?_eq_some_iff.1 h.form).1 (fun hp => ?_)).trans h.form, kk, ?_, ?_, h.six, h.dB⟩
    · have hs := h.step
      unfold StepBox at hs
      rcases hp.2 with e1 | ⟨cur, hc⟩
      · obtain ⟨v, h1, _⟩ := h.wt
        rw [← e1, hs] at h1
        simp at h1
      · rw [hs] at hc
        simp at hc
    · rcases hp.2 with e1 | ⟨cur, hc⟩
      · obtain ⟨v, h1, _⟩ := h.wt
        rw [← e1, h.form] at h1
        simp at h1
      · rw [h.form] at hc
        simp at hc
    · exact h.low.trans ((Wr.low k1 h.bsz).mono h.dB)
    · exact h.tabs.keptB ((Wr.low k1 h.bsz).mono h.six)
  · exact .inr ⟨hl, he, kk⟩
theorem WS.later (h : WS D W w B tb sb fb t k conn brk dv kv x bc bd bb bk) (hb : Below w.heap.size w w') : WS D W w' B tb sb fb t k conn brk dv kv x bc bd bb bk := by
  have hs := h.bsz
  refine ⟨h.wt.later hb, h.step.kept (P := fun _ => False) (Kept.ofBelow hb) (fun h => h), (hb.block fb (Array.getElem?_eq_some_iff.1 h.form).1).trans h.form, Wr.trans h.kept (Wr.ofBelow hb), h.low.trans (hb.mono ?_), h.tabs.below hb, h.six, h.dB⟩
  have := h.dB
  omega
theorem WS.start (D W : World) (B tb : Nat) (t : Tx) (hw : WtAt W B tb t) (T : Tabs W) (low : Below D.heap.size D W) (six : 6 ≤ B) (dB : D.heap.size ≤ B) (x : ByteArray) (k conn brk : Int) (dv kv : Value) (bc bd bb bk : Bool) :
    WS D W ((W.alloc (.cells #[.int .i64 k, .int .i64 conn, dv, .int .i64 brk, kv] 40)).alloc (.cells #[.string x, .bool bc, .bool bd, .bool bb, .bool bk] 87)) B tb W.heap.size (W.heap.size + 1) t k conn brk dv kv x bc bd bb bk := by
  have hl := hw.lt
  obtain ⟨v, h1, h2, h3⟩ := hw
  have b2 : Below W.heap.size W ((W.alloc (.cells #[.int .i64 k, .int .i64 conn, dv, .int .i64 brk, kv] 40)).alloc (.cells #[.string x, .bool bc, .bool bd, .bool bb, .bool bk] 87)) := ((Below.refl _ W).alloc (Nat.le_refl _) _).alloc (by simp) _
  have a1 := heap_alloc_new W (.cells #[.int .i64 k, .int .i64 conn, dv, .int .i64 brk, kv] 40)
  have e1 : (W.alloc (.cells #[.int .i64 k, .int .i64 conn, dv, .int .i64 brk, kv] 40)).heap.size = W.heap.size + 1 := by simp
  refine ⟨WtAt.later ⟨v, h1, h2, h3⟩ b2, (heap_alloc_old _ _ (by omega)).trans a1, ?_, Kept.ofBelow b2, low.trans (b2.mono (by omega)), T.below b2, six, dB⟩
  have a2 := heap_alloc_new (W.alloc (.cells #[.int .i64 k, .int .i64 conn, dv, .int .i64 brk, kv] 40)) (.cells #[.string x, .bool bc, .bool bd, .bool bb, .bool bk] 87)
  rwa [e1] at a2
end
end Go.Proofs.YteaccpolmmkclaaDoor

namespace Go.Proofs.YteaccpolmmkclaaDoor
open Go.RowKit

theorem take_flat {α : Type} (f : α → Tx) (l : List α) (j : Nat) (y : α) (h : l[j]? = some y) : (l.take (j + 1)).flatMap f = (l.take j).flatMap f ++ f y := by
  rw [List.take_add_one, h, List.flatMap_append]
  simp
theorem flat_le {α : Type} (f : α → Tx) (l : List α) (j : Nat) : ((l.take j).flatMap f).length ≤ (l.flatMap f).length := by
  have h : (l.take j).flatMap f ++ (l.drop j).flatMap f = l.flatMap f := by rw [← List.flatMap_append, List.take_append_drop]
  have := congrArg List.length h
  rw [List.length_append] at this
  omega
theorem short_len (c : UInt8) : (shortP c).length ≤ 4 := by
  unfold shortP
  repeat' split
  all_goals simp
end Go.Proofs.YteaccpolmmkclaaDoor

namespace Go.Proofs.YteaccpolmmkclaaDoor
open Go.RowKit

set_option maxHeartbeats 8000000 in
set_option maxRecDepth 1000000 in
theorem wstep_A00 (D W : World) (B tb : Nat) (t L : Tx) (k : Nat) (conn : Int) (data : List UInt8) (ad ak : Option Addr) (cd ck : Nat) (bb bk : Bool) (hk : 1 ≤ k ∧ k ≤ 7) (T : Tabs W) (hw : WtAt W B tb t) (low : Below D.heap.size D W) (six : 6 ≤ B) (dB : D.heap.size ≤ B) (ht : t.length ≤ 1048576) (hf : FormAt W k true false bb bk) (hx : W.cell? ⟨0, k * 5, none⟩ = some (.string ⟨(wordP k).toArray⟩)) (hwl : (wordP k).length ≤ 100) (hd : IsBytes D ad cd data) (hc : 0 ≤ conn ∧ conn ≤ maxWord) (hL : L = wordP k ++ (32 :: printL conn) ++ [10]) :
    Calls Tryd.prog 29 #[.pointer (some ⟨tb, 0, none⟩), .agg #[.int .i64 (k : Int), .int .i64 conn, .slice ad data.length cd, .int .i64 0, .slice ak 0 ck]] W (AddPost W B tb t L) := by
  obtain ⟨x, _, f1, f2, f3, f4⟩ := hf
  have hfl := T.lt.1
  have i1 : (0 : Int) ≤ (k : Int) := by omega
  have i2 : (k : Int) < 8 := by omega
  have h1 := WS.start D W B tb t hw T low six dB ⟨(wordP k).toArray⟩ (k : Int) conn 0 (.slice ad data.length cd) (.slice ak 0 ck) true false bb bk
  have g0 : Below W.heap.size W (W.alloc (.cells #[.int .i64 (k : Int), .int .i64 conn, .slice ad data.length cd, .int .i64 0, .slice ak 0 ck] 40)) := (Below.refl _ W).alloc (Nat.le_refl _) _
  have e0 := (g0.cell (p := ⟨0, k * 5, none⟩) hfl).trans hx
  have e1 := (g0.cell (p := ⟨0, k * 5 + 1, none⟩) hfl).trans f1
  have e2 := (g0.cell (p := ⟨0, k * 5 + 2, none⟩) hfl).trans f2
  have e3 := (g0.cell (p := ⟨0, k * 5 + 3, none⟩) hfl).trans f3
  have e4 := (g0.cell (p := ⟨0, k * 5 + 4, none⟩) hfl).trans f4
  have H1 := hide h1
  have HT1 := hide ht
  have HL := hide hL
  have HI := hide (And.intro hd True.intro)
  have hdl : data.length ≤ 9223372036854775807 := by have := hd.1; have := hd.2.1; unfold maxLen at this; omega
  have hnd : (0 : Int) ≤ (data.length : Int) := by omega
  clear f1 f2 f3 f4 hx T g0 h1 hw low hL hd
  have h0b : True := trivial
  go_enter Tryd.func29, Tryd.ntmps29
  go_wp2_with fail
  refine (add_any _ B tb (t) ⟨(wordP k).toArray⟩ H1.out.wt H1.out.bsz HT1.out (by simp [ByteArray.size]; omega)).mono ?_
  intro e w2 h2
  have h2 : AddPost _ B tb (t) (wordP k) e w2 := h2
  rcases H1.out.call h2 with ⟨rfl, hl, h3⟩ | ⟨hl, he, hkk⟩
  rotate_left
  · unfold pan at he
    subst he
    clear h2
    go_wp2_with fail
    exact ⟨rfl, hkk, .inr ⟨by rw [HL.out]; simp only [List.length_append] at hl ⊢; omega, rfl⟩⟩
  have H2 := hide h3
  have HT2 := hide hl
  clear h2 h3 hl e0 e1 e2 e3 e4
  obtain ⟨a0, a1, a2, a3, a4, _⟩ := H2.out.step.cells
  obtain ⟨b0, b1, b2, b3, b4⟩ := H2.out.fcells
  go_wp2_with fail
  refine (number_anyW _ B tb (t ++ wordP k) conn H2.out.tabs H2.out.wt H2.out.bsz HT2.out hc.1 hc.2).mono ?_
  intro e w3 h2
  have h2 : AddPost _ B tb (t ++ wordP k) ((32 :: printL conn)) e w3 := h2
  rcases H2.out.call h2 with ⟨rfl, hl, h3⟩ | ⟨hl, he, hkk⟩
  rotate_left
  · unfold pan at he
    subst he
    clear h2
    go_wp2_with fail
    exact ⟨rfl, hkk, .inr ⟨by rw [HL.out]; simp only [List.length_append] at hl ⊢; omega, rfl⟩⟩
  have H3 := hide h3
  have HT3 := hide hl
  clear h2 h3 hl a0 a1 a2 a3 a4 b0 b1 b2 b3 b4
  obtain ⟨a0, a1, a2, a3, a4, _⟩ := H3.out.step.cells
  obtain ⟨b0, b1, b2, b3, b4⟩ := H3.out.fcells
  go_wp2_with fail
  go_loopg [57] 0 (fun gk i wr => i = .int .i64 0 ∧ Hid (WS D W wr B tb W.heap.size (W.heap.size + 1) (t ++ wordP k ++ (32 :: printL conn)) (k : Int) conn 0 (.slice ad data.length cd) (.slice ak 0 ck) ⟨(wordP k).toArray⟩ true false bb bk) ∧ Hid ((t ++ wordP k ++ (32 :: printL conn)).length ≤ 1048576))
  case atStart => exact ⟨rfl, H3, HT3⟩
  case round =>
    obtain ⟨rfl, HR, HTR⟩ := hrel
    clear a0 a1 a2 a3 a4 b0 b1 b2 b3 b4
    have H13 := HR
    have HT13 := HTR
    clear HR HTR
    obtain ⟨a0, a1, a2, a3, a4, _⟩ := H13.out.step.cells
    obtain ⟨b0, b1, b2, b3, b4⟩ := H13.out.fcells
    go_wp2_with fail
    refine (add_any _ B tb (t ++ wordP k ++ (32 :: printL conn)) ⟨#[10]⟩ H13.out.wt H13.out.bsz HT13.out (by decide)).mono ?_
    intro e w14 h2
    have h2 : AddPost _ B tb (t ++ wordP k ++ (32 :: printL conn)) ([10]) e w14 := h2
    rcases H13.out.call h2 with ⟨rfl, hl, h3⟩ | ⟨hl, he, hkk⟩
    rotate_left
    · unfold pan at he
      subst he
      clear h2
      go_wp2_with fail
      exact ⟨rfl, hkk, .inr ⟨by rw [HL.out]; simp only [List.length_append] at hl ⊢; omega, rfl⟩⟩
    have H14 := hide h3
    have HT14 := hide hl
    clear h2 h3 hl a0 a1 a2 a3 a4 b0 b1 b2 b3 b4
    obtain ⟨a0, a1, a2, a3, a4, _⟩ := H14.out.step.cells
    obtain ⟨b0, b1, b2, b3, b4⟩ := H14.out.fcells
    go_wp2_with fail
    go_end0
    refine ⟨H14.out.kept, .inl ⟨?_, rfl, ?_⟩⟩
    · rw [HL.out]
      have h7 := HT14.out
      simp only [List.length_append] at h7 ⊢
      omega
    · rw [HL.out]
      have h7 := H14.out.wt
      simpa using h7
end Go.Proofs.YteaccpolmmkclaaDoor

namespace Go.Proofs.YteaccpolmmkclaaDoor
open Go.RowKit

set_option maxHeartbeats 8000000 in
set_option maxRecDepth 1000000 in
theorem wstep_A01 (D W : World) (B tb : Nat) (t L : Tx) (k : Nat) (conn : Int) (data : List UInt8) (keep : List Int) (ad ak : Option Addr) (cd ck : Nat) (bb bk : Bool) (hk : 1 ≤ k ∧ k ≤ 7) (T : Tabs W) (hw : WtAt W B tb t) (low : Below D.heap.size D W) (six : 6 ≤ B) (dB : D.heap.size ≤ B) (ht : t.length ≤ 1048576) (hf : FormAt W k true false bb bk) (hx : W.cell? ⟨0, k * 5, none⟩ = some (.string ⟨(wordP k).toArray⟩)) (hwl : (wordP k).length ≤ 100) (hd : IsBytes D ad cd data) (hkp : IsInts D ak ck keep) (hn : ∀ n ∈ keep, 0 ≤ n ∧ n ≤ maxWord) (hc : 0 ≤ conn ∧ conn ≤ maxWord) (hke : keep ≠ []) (hL : L = wordP k ++ (32 :: printL conn) ++ (32 :: keepW) ++ keep.flatMap (32 :: printL ·) ++ [10]) :
    Calls Tryd.prog 29 #[.pointer (some ⟨tb, 0, none⟩), .agg #[.int .i64 (k : Int), .int .i64 conn, .slice ad data.length cd, .int .i64 0, .slice ak keep.length ck]] W (AddPost W B tb t L) := by
  obtain ⟨x, _, f1, f2, f3, f4⟩ := hf
  have hfl := T.lt.1
  have i1 : (0 : Int) ≤ (k : Int) := by omega
  have i2 : (k : Int) < 8 := by omega
  have h1 := WS.start D W B tb t hw T low six dB ⟨(wordP k).toArray⟩ (k : Int) conn 0 (.slice ad data.length cd) (.slice ak keep.length ck) true false bb bk
  have g0 : Below W.heap.size W (W.alloc (.cells #[.int .i64 (k : Int), .int .i64 conn, .slice ad data.length cd, .int .i64 0, .slice ak keep.length ck] 40)) := (Below.refl _ W).alloc (Nat.le_refl _) _
  have e0 := (g0.cell (p := ⟨0, k * 5, none⟩) hfl).trans hx
  have e1 := (g0.cell (p := ⟨0, k * 5 + 1, none⟩) hfl).trans f1
  have e2 := (g0.cell (p := ⟨0, k * 5 + 2, none⟩) hfl).trans f2
  have e3 := (g0.cell (p := ⟨0, k * 5 + 3, none⟩) hfl).trans f3
  have e4 := (g0.cell (p := ⟨0, k * 5 + 4, none⟩) hfl).trans f4
  have H1 := hide h1
  have HT1 := hide ht
  have HL := hide hL
  have HI := hide (And.intro hd hkp)
  have HN := hide hn
  have hdl : data.length ≤ 9223372036854775807 := by have := hd.1; have := hd.2.1; unfold maxLen at this; omega
  have hkl : keep.length ≤ 9223372036854775807 := by have := hkp.1; have := hkp.2.1; unfold maxLen at this; omega
  have hnd : (0 : Int) ≤ (data.length : Int) := by omega
  clear f1 f2 f3 f4 hx T g0 h1 hw low hL hd hkp hn
  have h0b : True := trivial
  have hke0 : (0 : Int) < (keep.length : Int) := by have := List.length_pos_iff.2 hke; omega
  go_enter Tryd.func29, Tryd.ntmps29
  go_wp2_with fail
  refine (add_any _ B tb (t) ⟨(wordP k).toArray⟩ H1.out.wt H1.out.bsz HT1.out (by simp [ByteArray.size]; omega)).mono ?_
  intro e w2 h2
  have h2 : AddPost _ B tb (t) (wordP k) e w2 := h2
  rcases H1.out.call h2 with ⟨rfl, hl, h3⟩ | ⟨hl, he, hkk⟩
  rotate_left
  · unfold pan at he
    subst he
    clear h2
    go_wp2_with fail
    exact ⟨rfl, hkk, .inr ⟨by rw [HL.out]; simp only [List.length_append] at hl ⊢; omega, rfl⟩⟩
  have H2 := hide h3
  have HT2 := hide hl
  clear h2 h3 hl e0 e1 e2 e3 e4
  obtain ⟨a0, a1, a2, a3, a4, _⟩ := H2.out.step.cells
  obtain ⟨b0, b1, b2, b3, b4⟩ := H2.out.fcells
  go_wp2_with fail
  refine (number_anyW _ B tb (t ++ wordP k) conn H2.out.tabs H2.out.wt H2.out.bsz HT2.out hc.1 hc.2).mono ?_
  intro e w3 h2
  have h2 : AddPost _ B tb (t ++ wordP k) ((32 :: printL conn)) e w3 := h2
  rcases H2.out.call h2 with ⟨rfl, hl, h3⟩ | ⟨hl, he, hkk⟩
  rotate_left
  · unfold pan at he
    subst he
    clear h2
    go_wp2_with fail
    exact ⟨rfl, hkk, .inr ⟨by rw [HL.out]; simp only [List.length_append] at hl ⊢; omega, rfl⟩⟩
  have H3 := hide h3
  have HT3 := hide hl
  clear h2 h3 hl a0 a1 a2 a3 a4 b0 b1 b2 b3 b4
  obtain ⟨a0, a1, a2, a3, a4, _⟩ := H3.out.step.cells
  obtain ⟨b0, b1, b2, b3, b4⟩ := H3.out.fcells
  go_wp2_with fail
  refine (word_anyW _ B tb (t ++ wordP k ++ (32 :: printL conn)) ⟨#[107, 101, 101, 112]⟩ H3.out.wt H3.out.bsz HT3.out (by decide)).mono ?_
  intro e w4 h2
  have h2 : AddPost _ B tb (t ++ wordP k ++ (32 :: printL conn)) ((32 :: keepW)) e w4 := h2
  rcases H3.out.call h2 with ⟨rfl, hl, h3⟩ | ⟨hl, he, hkk⟩
  rotate_left
  · unfold pan at he
    subst he
    clear h2
    go_wp2_with fail
    exact ⟨rfl, hkk, .inr ⟨by rw [HL.out]; simp only [List.length_append] at hl ⊢; omega, rfl⟩⟩
  have H4 := hide h3
  have HT4 := hide hl
  clear h2 h3 hl a0 a1 a2 a3 a4 b0 b1 b2 b3 b4
  obtain ⟨a0, a1, a2, a3, a4, _⟩ := H4.out.step.cells
  obtain ⟨b0, b1, b2, b3, b4⟩ := H4.out.fcells
  go_wp2_with fail
  go_loopg [57] keep.length (fun gk i wr => ∃ j : Nat, i = .int .i64 (j : Int) ∧ keep.length - j ≤ gk ∧ j ≤ keep.length ∧ Hid (WS D W wr B tb W.heap.size (W.heap.size + 1) (t ++ wordP k ++ (32 :: printL conn) ++ (32 :: keepW) ++ (keep.take j).flatMap (32 :: printL ·)) (k : Int) conn 0 (.slice ad data.length cd) (.slice ak keep.length ck) ⟨(wordP k).toArray⟩ true false bb bk) ∧ Hid ((t ++ wordP k ++ (32 :: printL conn) ++ (32 :: keepW) ++ (keep.take j).flatMap (32 :: printL ·)).length ≤ 1048576))
  case atStart => exact ⟨0, rfl, by omega, by omega, by simpa using H4, by simpa using HT4⟩
  case round =>
    obtain ⟨j, rfl, hgk, hj, HR, HTR⟩ := hrel
    clear a0 a1 a2 a3 a4 b0 b1 b2 b3 b4
    by_cases hlt : j < keep.length
    · have tlt : (j : Int) < (keep.length : Int) := by omega
      obtain ⟨y, hy⟩ : ∃ y, keep[j]? = some y := ⟨_, List.getElem?_eq_getElem hlt⟩
      have HF := hide (take_flat (32 :: printL ·) keep j y hy)
      have HF2 := hide (flat_le (32 :: printL ·) keep (j + 1))
      rcases HI.out.2.2.2 with h0 | ⟨bq, oq, e, hbq, hcq⟩
      · rw [h0] at hlt; simp at hlt
      subst e
      have cy : wr.cell? ⟨bq, oq + j, none⟩ = some (.int .i64 y) := (HR.out.low.cell (p := ⟨bq, oq + j, none⟩) hbq).trans (hcq j y hy)
      have hyb := HN.out y (List.mem_of_getElem? hy)
      clear hy hcq
      go_wp2_with fail
      refine (number_anyW wr B tb _ y HR.out.tabs HR.out.wt HR.out.bsz HTR.out hyb.1 hyb.2).mono ?_
      intro e w8 h2
      have h2 : AddPost wr B tb (t ++ wordP k ++ (32 :: printL conn) ++ (32 :: keepW) ++ (keep.take j).flatMap (32 :: printL ·)) (32 :: printL y) e w8 := h2
      rcases HR.out.call h2 with ⟨rfl, hl, h3⟩ | ⟨hl, he, hkk⟩
      rotate_left
      · unfold pan at he
        subst he
        clear h2 cy
        go_wp2_with fail
        exact ⟨rfl, hkk, .inr ⟨by have h7 := HF2.out; rw [HF.out] at h7; rw [HL.out]; simp only [List.length_append] at hl h7 ⊢; omega, rfl⟩⟩
      have HF' := HF.out
      rw [List.append_assoc, ← HF'] at h3 hl
      have H8 := hide h3
      have HT8 := hide hl
      clear h2 h3 hl cy HF'
      go_wp2_with fail
      go_roundg (keep.length - (j + 1))
      case measure => omega
      case rel => exact ⟨j + 1, by go_num, Nat.le_refl _, hlt, H8, HT8⟩
    · have tlt : ¬ (j : Int) < (keep.length : Int) := by omega
      have e9 : keep.take j = keep := List.take_of_length_le (by omega)
      rw [e9] at HR HTR
      clear e9
      have H14 := HR
      have HT14 := HTR
      clear HR HTR
      obtain ⟨a0, a1, a2, a3, a4, _⟩ := H14.out.step.cells
      obtain ⟨b0, b1, b2, b3, b4⟩ := H14.out.fcells
      go_wp2_with fail
      refine (add_any _ B tb (t ++ wordP k ++ (32 :: printL conn) ++ (32 :: keepW) ++ keep.flatMap (32 :: printL ·)) ⟨#[10]⟩ H14.out.wt H14.out.bsz HT14.out (by decide)).mono ?_
      intro e w15 h2
      have h2 : AddPost _ B tb (t ++ wordP k ++ (32 :: printL conn) ++ (32 :: keepW) ++ keep.flatMap (32 :: printL ·)) ([10]) e w15 := h2
      rcases H14.out.call h2 with ⟨rfl, hl, h3⟩ | ⟨hl, he, hkk⟩
      rotate_left
      · unfold pan at he
        subst he
        clear h2
        go_wp2_with fail
        exact ⟨rfl, hkk, .inr ⟨by rw [HL.out]; simp only [List.length_append] at hl ⊢; omega, rfl⟩⟩
      have H15 := hide h3
      have HT15 := hide hl
      clear h2 h3 hl a0 a1 a2 a3 a4 b0 b1 b2 b3 b4
      obtain ⟨a0, a1, a2, a3, a4, _⟩ := H15.out.step.cells
      obtain ⟨b0, b1, b2, b3, b4⟩ := H15.out.fcells
      go_wp2_with fail
      go_end0
      refine ⟨H15.out.kept, .inl ⟨?_, rfl, ?_⟩⟩
      · rw [HL.out]
        have h7 := HT15.out
        simp only [List.length_append] at h7 ⊢
        omega
      · rw [HL.out]
        have h7 := H15.out.wt
        simpa using h7
end Go.Proofs.YteaccpolmmkclaaDoor

namespace Go.Proofs.YteaccpolmmkclaaDoor
open Go.RowKit

set_option maxHeartbeats 8000000 in
set_option maxRecDepth 1000000 in
theorem wstep_A10 (D W : World) (B tb : Nat) (t L : Tx) (k : Nat) (conn brk : Int) (data : List UInt8) (ad ak : Option Addr) (cd ck : Nat) (bb bk : Bool) (hk : 1 ≤ k ∧ k ≤ 7) (T : Tabs W) (hw : WtAt W B tb t) (low : Below D.heap.size D W) (six : 6 ≤ B) (dB : D.heap.size ≤ B) (ht : t.length ≤ 1048576) (hf : FormAt W k true false bb bk) (hx : W.cell? ⟨0, k * 5, none⟩ = some (.string ⟨(wordP k).toArray⟩)) (hwl : (wordP k).length ≤ 100) (hd : IsBytes D ad cd data) (hc : 0 ≤ conn ∧ conn ≤ maxWord) (hb : 0 < brk ∧ brk ≤ maxWord) (hL : L = wordP k ++ (32 :: printL conn) ++ (32 :: breakW) ++ (32 :: printL brk) ++ [10]) :
    Calls Tryd.prog 29 #[.pointer (some ⟨tb, 0, none⟩), .agg #[.int .i64 (k : Int), .int .i64 conn, .slice ad data.length cd, .int .i64 brk, .slice ak 0 ck]] W (AddPost W B tb t L) := by
  obtain ⟨x, _, f1, f2, f3, f4⟩ := hf
  have hfl := T.lt.1
  have i1 : (0 : Int) ≤ (k : Int) := by omega
  have i2 : (k : Int) < 8 := by omega
  have h1 := WS.start D W B tb t hw T low six dB ⟨(wordP k).toArray⟩ (k : Int) conn brk (.slice ad data.length cd) (.slice ak 0 ck) true false bb bk
  have g0 : Below W.heap.size W (W.alloc (.cells #[.int .i64 (k : Int), .int .i64 conn, .slice ad data.length cd, .int .i64 brk, .slice ak 0 ck] 40)) := (Below.refl _ W).alloc (Nat.le_refl _) _
  have e0 := (g0.cell (p := ⟨0, k * 5, none⟩) hfl).trans hx
  have e1 := (g0.cell (p := ⟨0, k * 5 + 1, none⟩) hfl).trans f1
  have e2 := (g0.cell (p := ⟨0, k * 5 + 2, none⟩) hfl).trans f2
  have e3 := (g0.cell (p := ⟨0, k * 5 + 3, none⟩) hfl).trans f3
  have e4 := (g0.cell (p := ⟨0, k * 5 + 4, none⟩) hfl).trans f4
  have H1 := hide h1
  have HT1 := hide ht
  have HL := hide hL
  have HI := hide (And.intro hd True.intro)
  have hdl : data.length ≤ 9223372036854775807 := by have := hd.1; have := hd.2.1; unfold maxLen at this; omega
  have hnd : (0 : Int) ≤ (data.length : Int) := by omega
  clear f1 f2 f3 f4 hx T g0 h1 hw low hL hd
  have hb0 : (0 : Int) < brk := hb.1
  have h0b : True := trivial
  go_enter Tryd.func29, Tryd.ntmps29
  go_wp2_with fail
  refine (add_any _ B tb (t) ⟨(wordP k).toArray⟩ H1.out.wt H1.out.bsz HT1.out (by simp [ByteArray.size]; omega)).mono ?_
  intro e w2 h2
  have h2 : AddPost _ B tb (t) (wordP k) e w2 := h2
  rcases H1.out.call h2 with ⟨rfl, hl, h3⟩ | ⟨hl, he, hkk⟩
  rotate_left
  · unfold pan at he
    subst he
    clear h2
    go_wp2_with fail
    exact ⟨rfl, hkk, .inr ⟨by rw [HL.out]; simp only [List.length_append] at hl ⊢; omega, rfl⟩⟩
  have H2 := hide h3
  have HT2 := hide hl
  clear h2 h3 hl e0 e1 e2 e3 e4
  obtain ⟨a0, a1, a2, a3, a4, _⟩ := H2.out.step.cells
  obtain ⟨b0, b1, b2, b3, b4⟩ := H2.out.fcells
  go_wp2_with fail
  refine (number_anyW _ B tb (t ++ wordP k) conn H2.out.tabs H2.out.wt H2.out.bsz HT2.out hc.1 hc.2).mono ?_
  intro e w3 h2
  have h2 : AddPost _ B tb (t ++ wordP k) ((32 :: printL conn)) e w3 := h2
  rcases H2.out.call h2 with ⟨rfl, hl, h3⟩ | ⟨hl, he, hkk⟩
  rotate_left
  · unfold pan at he
    subst he
    clear h2
    go_wp2_with fail
    exact ⟨rfl, hkk, .inr ⟨by rw [HL.out]; simp only [List.length_append] at hl ⊢; omega, rfl⟩⟩
  have H3 := hide h3
  have HT3 := hide hl
  clear h2 h3 hl a0 a1 a2 a3 a4 b0 b1 b2 b3 b4
  obtain ⟨a0, a1, a2, a3, a4, _⟩ := H3.out.step.cells
  obtain ⟨b0, b1, b2, b3, b4⟩ := H3.out.fcells
  go_wp2_with fail
  refine (word_anyW _ B tb (t ++ wordP k ++ (32 :: printL conn)) ⟨#[98, 114, 101, 97, 107]⟩ H3.out.wt H3.out.bsz HT3.out (by decide)).mono ?_
  intro e w4 h2
  have h2 : AddPost _ B tb (t ++ wordP k ++ (32 :: printL conn)) ((32 :: breakW)) e w4 := h2
  rcases H3.out.call h2 with ⟨rfl, hl, h3⟩ | ⟨hl, he, hkk⟩
  rotate_left
  · unfold pan at he
    subst he
    clear h2
    go_wp2_with fail
    exact ⟨rfl, hkk, .inr ⟨by rw [HL.out]; simp only [List.length_append] at hl ⊢; omega, rfl⟩⟩
  have H4 := hide h3
  have HT4 := hide hl
  clear h2 h3 hl a0 a1 a2 a3 a4 b0 b1 b2 b3 b4
  obtain ⟨a0, a1, a2, a3, a4, _⟩ := H4.out.step.cells
  obtain ⟨b0, b1, b2, b3, b4⟩ := H4.out.fcells
  go_wp2_with fail
  refine (number_anyW _ B tb (t ++ wordP k ++ (32 :: printL conn) ++ (32 :: breakW)) brk H4.out.tabs H4.out.wt H4.out.bsz HT4.out (by omega) hb.2).mono ?_
  intro e w5 h2
  have h2 : AddPost _ B tb (t ++ wordP k ++ (32 :: printL conn) ++ (32 :: breakW)) ((32 :: printL brk)) e w5 := h2
  rcases H4.out.call h2 with ⟨rfl, hl, h3⟩ | ⟨hl, he, hkk⟩
  rotate_left
  · unfold pan at he
    subst he
    clear h2
    go_wp2_with fail
    exact ⟨rfl, hkk, .inr ⟨by rw [HL.out]; simp only [List.length_append] at hl ⊢; omega, rfl⟩⟩
  have H5 := hide h3
  have HT5 := hide hl
  clear h2 h3 hl a0 a1 a2 a3 a4 b0 b1 b2 b3 b4
  obtain ⟨a0, a1, a2, a3, a4, _⟩ := H5.out.step.cells
  obtain ⟨b0, b1, b2, b3, b4⟩ := H5.out.fcells
  go_wp2_with fail
  go_loopg [57] 0 (fun gk i wr => i = .int .i64 0 ∧ Hid (WS D W wr B tb W.heap.size (W.heap.size + 1) (t ++ wordP k ++ (32 :: printL conn) ++ (32 :: breakW) ++ (32 :: printL brk)) (k : Int) conn brk (.slice ad data.length cd) (.slice ak 0 ck) ⟨(wordP k).toArray⟩ true false bb bk) ∧ Hid ((t ++ wordP k ++ (32 :: printL conn) ++ (32 :: breakW) ++ (32 :: printL brk)).length ≤ 1048576))
  case atStart => exact ⟨rfl, H5, HT5⟩
  case round =>
    obtain ⟨rfl, HR, HTR⟩ := hrel
    clear a0 a1 a2 a3 a4 b0 b1 b2 b3 b4
    have H15 := HR
    have HT15 := HTR
    clear HR HTR
    obtain ⟨a0, a1, a2, a3, a4, _⟩ := H15.out.step.cells
    obtain ⟨b0, b1, b2, b3, b4⟩ := H15.out.fcells
    go_wp2_with fail
    refine (add_any _ B tb (t ++ wordP k ++ (32 :: printL conn) ++ (32 :: breakW) ++ (32 :: printL brk)) ⟨#[10]⟩ H15.out.wt H15.out.bsz HT15.out (by decide)).mono ?_
    intro e w16 h2
    have h2 : AddPost _ B tb (t ++ wordP k ++ (32 :: printL conn) ++ (32 :: breakW) ++ (32 :: printL brk)) ([10]) e w16 := h2
    rcases H15.out.call h2 with ⟨rfl, hl, h3⟩ | ⟨hl, he, hkk⟩
    rotate_left
    · unfold pan at he
      subst he
      clear h2
      go_wp2_with fail
      exact ⟨rfl, hkk, .inr ⟨by rw [HL.out]; simp only [List.length_append] at hl ⊢; omega, rfl⟩⟩
    have H16 := hide h3
    have HT16 := hide hl
    clear h2 h3 hl a0 a1 a2 a3 a4 b0 b1 b2 b3 b4
    obtain ⟨a0, a1, a2, a3, a4, _⟩ := H16.out.step.cells
    obtain ⟨b0, b1, b2, b3, b4⟩ := H16.out.fcells
    go_wp2_with fail
    go_end0
    refine ⟨H16.out.kept, .inl ⟨?_, rfl, ?_⟩⟩
    · rw [HL.out]
      have h7 := HT16.out
      simp only [List.length_append] at h7 ⊢
      omega
    · rw [HL.out]
      have h7 := H16.out.wt
      simpa using h7
end Go.Proofs.YteaccpolmmkclaaDoor

namespace Go.Proofs.YteaccpolmmkclaaDoor
open Go.RowKit

set_option maxHeartbeats 8000000 in
set_option maxRecDepth 1000000 in
theorem wstep_A11 (D W : World) (B tb : Nat) (t L : Tx) (k : Nat) (conn brk : Int) (data : List UInt8) (keep : List Int) (ad ak : Option Addr) (cd ck : Nat) (bb bk : Bool) (hk : 1 ≤ k ∧ k ≤ 7) (T : Tabs W) (hw : WtAt W B tb t) (low : Below D.heap.size D W) (six : 6 ≤ B) (dB : D.heap.size ≤ B) (ht : t.length ≤ 1048576) (hf : FormAt W k true false bb bk) (hx : W.cell? ⟨0, k * 5, none⟩ = some (.string ⟨(wordP k).toArray⟩)) (hwl : (wordP k).length ≤ 100) (hd : IsBytes D ad cd data) (hkp : IsInts D ak ck keep) (hn : ∀ n ∈ keep, 0 ≤ n ∧ n ≤ maxWord) (hc : 0 ≤ conn ∧ conn ≤ maxWord) (hb : 0 < brk ∧ brk ≤ maxWord) (hke : keep ≠ []) (hL : L = wordP k ++ (32 :: printL conn) ++ (32 :: breakW) ++ (32 :: printL brk) ++ (32 :: keepW) ++ keep.flatMap (32 :: printL ·) ++ [10]) :
    Calls Tryd.prog 29 #[.pointer (some ⟨tb, 0, none⟩), .agg #[.int .i64 (k : Int), .int .i64 conn, .slice ad data.length cd, .int .i64 brk, .slice ak keep.length ck]] W (AddPost W B tb t L) := by
  obtain ⟨x, _, f1, f2, f3, f4⟩ := hf
  have hfl := T.lt.1
  have i1 : (0 : Int) ≤ (k : Int) := by omega
  have i2 : (k : Int) < 8 := by omega
  have h1 := WS.start D W B tb t hw T low six dB ⟨(wordP k).toArray⟩ (k : Int) conn brk (.slice ad data.length cd) (.slice ak keep.length ck) true false bb bk
  have g0 : Below W.heap.size W (W.alloc (.cells #[.int .i64 (k : Int), .int .i64 conn, .slice ad data.length cd, .int .i64 brk, .slice ak keep.length ck] 40)) := (Below.refl _ W).alloc (Nat.le_refl _) _
  have e0 := (g0.cell (p := ⟨0, k * 5, none⟩) hfl).trans hx
  have e1 := (g0.cell (p := ⟨0, k * 5 + 1, none⟩) hfl).trans f1
  have e2 := (g0.cell (p := ⟨0, k * 5 + 2, none⟩) hfl).trans f2
  have e3 := (g0.cell (p := ⟨0, k * 5 + 3, none⟩) hfl).trans f3
  have e4 := (g0.cell (p := ⟨0, k * 5 + 4, none⟩) hfl).trans f4
  have H1 := hide h1
  have HT1 := hide ht
  have HL := hide hL
  have HI := hide (And.intro hd hkp)
  have HN := hide hn
  have hdl : data.length ≤ 9223372036854775807 := by have := hd.1; have := hd.2.1; unfold maxLen at this; omega
  have hkl : keep.length ≤ 9223372036854775807 := by have := hkp.1; have := hkp.2.1; unfold maxLen at this; omega
  have hnd : (0 : Int) ≤ (data.length : Int) := by omega
  clear f1 f2 f3 f4 hx T g0 h1 hw low hL hd hkp hn
  have hb0 : (0 : Int) < brk := hb.1
  have h0b : True := trivial
  have hke0 : (0 : Int) < (keep.length : Int) := by have := List.length_pos_iff.2 hke; omega
  go_enter Tryd.func29, Tryd.ntmps29
  go_wp2_with fail
  refine (add_any _ B tb (t) ⟨(wordP k).toArray⟩ H1.out.wt H1.out.bsz HT1.out (by simp [ByteArray.size]; omega)).mono ?_
  intro e w2 h2
  have h2 : AddPost _ B tb (t) (wordP k) e w2 := h2
  rcases H1.out.call h2 with ⟨rfl, hl, h3⟩ | ⟨hl, he, hkk⟩
  rotate_left
  · unfold pan at he
    subst he
    clear h2
    go_wp2_with fail
    exact ⟨rfl, hkk, .inr ⟨by rw [HL.out]; simp only [List.length_append] at hl ⊢; omega, rfl⟩⟩
  have H2 := hide h3
  have HT2 := hide hl
  clear h2 h3 hl e0 e1 e2 e3 e4
  obtain ⟨a0, a1, a2, a3, a4, _⟩ := H2.out.step.cells
  obtain ⟨b0, b1, b2, b3, b4⟩ := H2.out.fcells
  go_wp2_with fail
  refine (number_anyW _ B tb (t ++ wordP k) conn H2.out.tabs H2.out.wt H2.out.bsz HT2.out hc.1 hc.2).mono ?_
  intro e w3 h2
  have h2 : AddPost _ B tb (t ++ wordP k) ((32 :: printL conn)) e w3 := h2
  rcases H2.out.call h2 with ⟨rfl, hl, h3⟩ | ⟨hl, he, hkk⟩
  rotate_left
  · unfold pan at he
    subst he
    clear h2
    go_wp2_with fail
    exact ⟨rfl, hkk, .inr ⟨by rw [HL.out]; simp only [List.length_append] at hl ⊢; omega, rfl⟩⟩
  have H3 := hide h3
  have HT3 := hide hl
  clear h2 h3 hl a0 a1 a2 a3 a4 b0 b1 b2 b3 b4
  obtain ⟨a0, a1, a2, a3, a4, _⟩ := H3.out.step.cells
  obtain ⟨b0, b1, b2, b3, b4⟩ := H3.out.fcells
  go_wp2_with fail
  refine (word_anyW _ B tb (t ++ wordP k ++ (32 :: printL conn)) ⟨#[98, 114, 101, 97, 107]⟩ H3.out.wt H3.out.bsz HT3.out (by decide)).mono ?_
  intro e w4 h2
  have h2 : AddPost _ B tb (t ++ wordP k ++ (32 :: printL conn)) ((32 :: breakW)) e w4 := h2
  rcases H3.out.call h2 with ⟨rfl, hl, h3⟩ | ⟨hl, he, hkk⟩
  rotate_left
  · unfold pan at he
    subst he
    clear h2
    go_wp2_with fail
    exact ⟨rfl, hkk, .inr ⟨by rw [HL.out]; simp only [List.length_append] at hl ⊢; omega, rfl⟩⟩
  have H4 := hide h3
  have HT4 := hide hl
  clear h2 h3 hl a0 a1 a2 a3 a4 b0 b1 b2 b3 b4
  obtain ⟨a0, a1, a2, a3, a4, _⟩ := H4.out.step.cells
  obtain ⟨b0, b1, b2, b3, b4⟩ := H4.out.fcells
  go_wp2_with fail
  refine (number_anyW _ B tb (t ++ wordP k ++ (32 :: printL conn) ++ (32 :: breakW)) brk H4.out.tabs H4.out.wt H4.out.bsz HT4.out (by omega) hb.2).mono ?_
  intro e w5 h2
  have h2 : AddPost _ B tb (t ++ wordP k ++ (32 :: printL conn) ++ (32 :: breakW)) ((32 :: printL brk)) e w5 := h2
  rcases H4.out.call h2 with ⟨rfl, hl, h3⟩ | ⟨hl, he, hkk⟩
  rotate_left
  · unfold pan at he
    subst he
    clear h2
    go_wp2_with fail
    exact ⟨rfl, hkk, .inr ⟨by rw [HL.out]; simp only [List.length_append] at hl ⊢; omega, rfl⟩⟩
  have H5 := hide h3
  have HT5 := hide hl
  clear h2 h3 hl a0 a1 a2 a3 a4 b0 b1 b2 b3 b4
  obtain ⟨a0, a1, a2, a3, a4, _⟩ := H5.out.step.cells
  obtain ⟨b0, b1, b2, b3, b4⟩ := H5.out.fcells
  go_wp2_with fail
  refine (word_anyW _ B tb (t ++ wordP k ++ (32 :: printL conn) ++ (32 :: breakW) ++ (32 :: printL brk)) ⟨#[107, 101, 101, 112]⟩ H5.out.wt H5.out.bsz HT5.out (by decide)).mono ?_
  intro e w6 h2
  have h2 : AddPost _ B tb (t ++ wordP k ++ (32 :: printL conn) ++ (32 :: breakW) ++ (32 :: printL brk)) ((32 :: keepW)) e w6 := h2
  rcases H5.out.call h2 with ⟨rfl, hl, h3⟩ | ⟨hl, he, hkk⟩
  rotate_left
  · unfold pan at he
    subst he
    clear h2
    go_wp2_with fail
    exact ⟨rfl, hkk, .inr ⟨by rw [HL.out]; simp only [List.length_append] at hl ⊢; omega, rfl⟩⟩
  have H6 := hide h3
  have HT6 := hide hl
  clear h2 h3 hl a0 a1 a2 a3 a4 b0 b1 b2 b3 b4
  obtain ⟨a0, a1, a2, a3, a4, _⟩ := H6.out.step.cells
  obtain ⟨b0, b1, b2, b3, b4⟩ := H6.out.fcells
  go_wp2_with fail
  go_loopg [57] keep.length (fun gk i wr => ∃ j : Nat, i = .int .i64 (j : Int) ∧ keep.length - j ≤ gk ∧ j ≤ keep.length ∧ Hid (WS D W wr B tb W.heap.size (W.heap.size + 1) (t ++ wordP k ++ (32 :: printL conn) ++ (32 :: breakW) ++ (32 :: printL brk) ++ (32 :: keepW) ++ (keep.take j).flatMap (32 :: printL ·)) (k : Int) conn brk (.slice ad data.length cd) (.slice ak keep.length ck) ⟨(wordP k).toArray⟩ true false bb bk) ∧ Hid ((t ++ wordP k ++ (32 :: printL conn) ++ (32 :: breakW) ++ (32 :: printL brk) ++ (32 :: keepW) ++ (keep.take j).flatMap (32 :: printL ·)).length ≤ 1048576))
  case atStart => exact ⟨0, rfl, by omega, by omega, by simpa using H6, by simpa using HT6⟩
  case round =>
    obtain ⟨j, rfl, hgk, hj, HR, HTR⟩ := hrel
    clear a0 a1 a2 a3 a4 b0 b1 b2 b3 b4
    by_cases hlt : j < keep.length
    · have tlt : (j : Int) < (keep.length : Int) := by omega
      obtain ⟨y, hy⟩ : ∃ y, keep[j]? = some y := ⟨_, List.getElem?_eq_getElem hlt⟩
      have HF := hide (take_flat (32 :: printL ·) keep j y hy)
      have HF2 := hide (flat_le (32 :: printL ·) keep (j + 1))
      rcases HI.out.2.2.2 with h0 | ⟨bq, oq, e, hbq, hcq⟩
      · rw [h0] at hlt; simp at hlt
      subst e
      have cy : wr.cell? ⟨bq, oq + j, none⟩ = some (.int .i64 y) := (HR.out.low.cell (p := ⟨bq, oq + j, none⟩) hbq).trans (hcq j y hy)
      have hyb := HN.out y (List.mem_of_getElem? hy)
      clear hy hcq
      go_wp2_with fail
      refine (number_anyW wr B tb _ y HR.out.tabs HR.out.wt HR.out.bsz HTR.out hyb.1 hyb.2).mono ?_
      intro e w8 h2
      have h2 : AddPost wr B tb (t ++ wordP k ++ (32 :: printL conn) ++ (32 :: breakW) ++ (32 :: printL brk) ++ (32 :: keepW) ++ (keep.take j).flatMap (32 :: printL ·)) (32 :: printL y) e w8 := h2
      rcases HR.out.call h2 with ⟨rfl, hl, h3⟩ | ⟨hl, he, hkk⟩
      rotate_left
      · unfold pan at he
        subst he
        clear h2 cy
        go_wp2_with fail
        exact ⟨rfl, hkk, .inr ⟨by have h7 := HF2.out; rw [HF.out] at h7; rw [HL.out]; simp only [List.length_append] at hl h7 ⊢; omega, rfl⟩⟩
      have HF' := HF.out
      rw [List.append_assoc, ← HF'] at h3 hl
      have H8 := hide h3
      have HT8 := hide hl
      clear h2 h3 hl cy HF'
      go_wp2_with fail
      go_roundg (keep.length - (j + 1))
      case measure => omega
      case rel => exact ⟨j + 1, by go_num, Nat.le_refl _, hlt, H8, HT8⟩
    · have tlt : ¬ (j : Int) < (keep.length : Int) := by omega
      have e9 : keep.take j = keep := List.take_of_length_le (by omega)
      rw [e9] at HR HTR
      clear e9
      have H16 := HR
      have HT16 := HTR
      clear HR HTR
      obtain ⟨a0, a1, a2, a3, a4, _⟩ := H16.out.step.cells
      obtain ⟨b0, b1, b2, b3, b4⟩ := H16.out.fcells
      go_wp2_with fail
      refine (add_any _ B tb (t ++ wordP k ++ (32 :: printL conn) ++ (32 :: breakW) ++ (32 :: printL brk) ++ (32 :: keepW) ++ keep.flatMap (32 :: printL ·)) ⟨#[10]⟩ H16.out.wt H16.out.bsz HT16.out (by decide)).mono ?_
      intro e w17 h2
      have h2 : AddPost _ B tb (t ++ wordP k ++ (32 :: printL conn) ++ (32 :: breakW) ++ (32 :: printL brk) ++ (32 :: keepW) ++ keep.flatMap (32 :: printL ·)) ([10]) e w17 := h2
      rcases H16.out.call h2 with ⟨rfl, hl, h3⟩ | ⟨hl, he, hkk⟩
      rotate_left
      · unfold pan at he
        subst he
        clear h2
        go_wp2_with fail
        exact ⟨rfl, hkk, .inr ⟨by rw [HL.out]; simp only [List.length_append] at hl ⊢; omega, rfl⟩⟩
      have H17 := hide h3
      have HT17 := hide hl
      clear h2 h3 hl a0 a1 a2 a3 a4 b0 b1 b2 b3 b4
      obtain ⟨a0, a1, a2, a3, a4, _⟩ := H17.out.step.cells
      obtain ⟨b0, b1, b2, b3, b4⟩ := H17.out.fcells
      go_wp2_with fail
      go_end0
      refine ⟨H17.out.kept, .inl ⟨?_, rfl, ?_⟩⟩
      · rw [HL.out]
        have h7 := HT17.out
        simp only [List.length_append] at h7 ⊢
        omega
      · rw [HL.out]
        have h7 := H17.out.wt
        simpa using h7
end Go.Proofs.YteaccpolmmkclaaDoor

namespace Go.Proofs.YteaccpolmmkclaaDoor
open Go.RowKit

set_option maxHeartbeats 8000000 in
set_option maxRecDepth 1000000 in
theorem wstep_B00 (D W : World) (B tb : Nat) (t L : Tx) (k : Nat) (conn : Int) (data : List UInt8) (ad ak : Option Addr) (cd ck : Nat) (bb bk : Bool) (hk : 1 ≤ k ∧ k ≤ 7) (T : Tabs W) (hw : WtAt W B tb t) (low : Below D.heap.size D W) (six : 6 ≤ B) (dB : D.heap.size ≤ B) (ht : t.length ≤ 1048576) (hf : FormAt W k true true bb bk) (hx : W.cell? ⟨0, k * 5, none⟩ = some (.string ⟨(wordP k).toArray⟩)) (hwl : (wordP k).length ≤ 100) (hd : IsBytes D ad cd data) (hc : 0 ≤ conn ∧ conn ≤ maxWord) (hL : L = wordP k ++ (32 :: printL conn) ++ [32, 61] ++ data.flatMap shortP ++ [10]) :
    Calls Tryd.prog 29 #[.pointer (some ⟨tb, 0, none⟩), .agg #[.int .i64 (k : Int), .int .i64 conn, .slice ad data.length cd, .int .i64 0, .slice ak 0 ck]] W (AddPost W B tb t L) := by
  obtain ⟨x, _, f1, f2, f3, f4⟩ := hf
  have hfl := T.lt.1
  have i1 : (0 : Int) ≤ (k : Int) := by omega
  have i2 : (k : Int) < 8 := by omega
  have h1 := WS.start D W B tb t hw T low six dB ⟨(wordP k).toArray⟩ (k : Int) conn 0 (.slice ad data.length cd) (.slice ak 0 ck) true true bb bk
  have g0 : Below W.heap.size W (W.alloc (.cells #[.int .i64 (k : Int), .int .i64 conn, .slice ad data.length cd, .int .i64 0, .slice ak 0 ck] 40)) := (Below.refl _ W).alloc (Nat.le_refl _) _
  have e0 := (g0.cell (p := ⟨0, k * 5, none⟩) hfl).trans hx
  have e1 := (g0.cell (p := ⟨0, k * 5 + 1, none⟩) hfl).trans f1
  have e2 := (g0.cell (p := ⟨0, k * 5 + 2, none⟩) hfl).trans f2
  have e3 := (g0.cell (p := ⟨0, k * 5 + 3, none⟩) hfl).trans f3
  have e4 := (g0.cell (p := ⟨0, k * 5 + 4, none⟩) hfl).trans f4
  have H1 := hide h1
  have HT1 := hide ht
  have HL := hide hL
  have HI := hide (And.intro hd True.intro)
  have hdl : data.length ≤ 9223372036854775807 := by have := hd.1; have := hd.2.1; unfold maxLen at this; omega
  have hnd : (0 : Int) ≤ (data.length : Int) := by omega
  clear f1 f2 f3 f4 hx T g0 h1 hw low hL hd
  have h0b : True := trivial
  go_enter Tryd.func29, Tryd.ntmps29
  go_wp2_with fail
  refine (add_any _ B tb (t) ⟨(wordP k).toArray⟩ H1.out.wt H1.out.bsz HT1.out (by simp [ByteArray.size]; omega)).mono ?_
  intro e w2 h2
  have h2 : AddPost _ B tb (t) (wordP k) e w2 := h2
  rcases H1.out.call h2 with ⟨rfl, hl, h3⟩ | ⟨hl, he, hkk⟩
  rotate_left
  · unfold pan at he
    subst he
    clear h2
    go_wp2_with fail
    exact ⟨rfl, hkk, .inr ⟨by rw [HL.out]; simp only [List.length_append] at hl ⊢; omega, rfl⟩⟩
  have H2 := hide h3
  have HT2 := hide hl
  clear h2 h3 hl e0 e1 e2 e3 e4
  obtain ⟨a0, a1, a2, a3, a4, _⟩ := H2.out.step.cells
  obtain ⟨b0, b1, b2, b3, b4⟩ := H2.out.fcells
  go_wp2_with fail
  refine (number_anyW _ B tb (t ++ wordP k) conn H2.out.tabs H2.out.wt H2.out.bsz HT2.out hc.1 hc.2).mono ?_
  intro e w3 h2
  have h2 : AddPost _ B tb (t ++ wordP k) ((32 :: printL conn)) e w3 := h2
  rcases H2.out.call h2 with ⟨rfl, hl, h3⟩ | ⟨hl, he, hkk⟩
  rotate_left
  · unfold pan at he
    subst he
    clear h2
    go_wp2_with fail
    exact ⟨rfl, hkk, .inr ⟨by rw [HL.out]; simp only [List.length_append] at hl ⊢; omega, rfl⟩⟩
  have H3 := hide h3
  have HT3 := hide hl
  clear h2 h3 hl a0 a1 a2 a3 a4 b0 b1 b2 b3 b4
  obtain ⟨a0, a1, a2, a3, a4, _⟩ := H3.out.step.cells
  obtain ⟨b0, b1, b2, b3, b4⟩ := H3.out.fcells
  go_wp2_with fail
  refine (word_anyW _ B tb (t ++ wordP k ++ (32 :: printL conn)) ⟨#[61]⟩ H3.out.wt H3.out.bsz HT3.out (by decide)).mono ?_
  intro e w4 h2
  have h2 : AddPost _ B tb (t ++ wordP k ++ (32 :: printL conn)) ([32, 61]) e w4 := h2
  rcases H3.out.call h2 with ⟨rfl, hl, h3⟩ | ⟨hl, he, hkk⟩
  rotate_left
  · unfold pan at he
    subst he
    clear h2
    go_wp2_with fail
    exact ⟨rfl, hkk, .inr ⟨by rw [HL.out]; simp only [List.length_append] at hl ⊢; omega, rfl⟩⟩
  have H4 := hide h3
  have HT4 := hide hl
  clear h2 h3 hl a0 a1 a2 a3 a4 b0 b1 b2 b3 b4
  obtain ⟨a0, a1, a2, a3, a4, _⟩ := H4.out.step.cells
  obtain ⟨b0, b1, b2, b3, b4⟩ := H4.out.fcells
  go_wp2_with fail
  go_loopg [30] data.length (fun gk i wr => ∃ j : Nat, i = .int .i64 (j : Int) ∧ data.length - j ≤ gk ∧ j ≤ data.length ∧ Hid (WS D W wr B tb W.heap.size (W.heap.size + 1) (t ++ wordP k ++ (32 :: printL conn) ++ [32, 61] ++ (data.take j).flatMap shortP) (k : Int) conn 0 (.slice ad data.length cd) (.slice ak 0 ck) ⟨(wordP k).toArray⟩ true true bb bk) ∧ Hid ((t ++ wordP k ++ (32 :: printL conn) ++ [32, 61] ++ (data.take j).flatMap shortP).length ≤ 1048576))
  case atStart => exact ⟨0, rfl, by omega, by omega, by simpa using H4, by simpa using HT4⟩
  case round =>
    obtain ⟨j, rfl, hgk, hj, HR, HTR⟩ := hrel
    clear a0 a1 a2 a3 a4 b0 b1 b2 b3 b4
    by_cases hlt : j < data.length
    · have tlt : (j : Int) < (data.length : Int) := by omega
      obtain ⟨y, hy⟩ : ∃ y, data[j]? = some y := ⟨_, List.getElem?_eq_getElem hlt⟩
      have HF := hide (take_flat shortP data j y hy)
      have HF2 := hide (flat_le shortP data (j + 1))
      rcases HI.out.1.2.2 with h0 | ⟨bq, oq, e, hbq, hcq⟩
      · rw [h0] at hlt; simp at hlt
      subst e
      have cy : wr.cell? ⟨bq, oq + j, none⟩ = some (.int .u8 (y.toNat : Int)) := (HR.out.low.cell (p := ⟨bq, oq + j, none⟩) hbq).trans (hcq j y hy)
      have CS := hide (short_any y wr HR.out.tabs)
      have hsl := short_len y
      clear hy hcq
      go_wp2_with fail
      refine CS.out.mono ?_
      rintro e w9 ⟨rfl, b9⟩
      have HR9 := hide (HR.out.later b9)
      clear b9 cy
      go_wp2_with fail
      refine (add_any w9 B tb _ ⟨(shortP y).toArray⟩ HR9.out.wt HR9.out.bsz HTR.out (by show (shortP y).toArray.size ≤ _; simp only [List.size_toArray]; omega)).mono ?_
      intro e w8 h2
      have h2 : AddPost w9 B tb (t ++ wordP k ++ (32 :: printL conn) ++ [32, 61] ++ (data.take j).flatMap shortP) (shortP y) e w8 := h2
      rcases HR9.out.call h2 with ⟨rfl, hl, h3⟩ | ⟨hl, he, hkk⟩
      rotate_left
      · unfold pan at he
        subst he
        clear h2
        go_wp2_with fail
        exact ⟨rfl, hkk, .inr ⟨by have h7 := HF2.out; rw [HF.out] at h7; rw [HL.out]; simp only [List.length_append] at hl h7 ⊢; omega, rfl⟩⟩
      rw [List.append_assoc, ← HF.out] at h3 hl
      have H8 := hide h3
      have HT8 := hide hl
      clear h2 h3 hl
      go_wp2_with fail
      go_roundg (data.length - (j + 1))
      case measure => omega
      case rel => exact ⟨j + 1, by go_num, Nat.le_refl _, hlt, H8, HT8⟩
    · have tlt : ¬ (j : Int) < (data.length : Int) := by omega
      have e9 : data.take j = data := List.take_of_length_le (by omega)
      rw [e9] at HR HTR
      clear e9
      have H14 := HR
      have HT14 := HTR
      clear HR HTR
      obtain ⟨a0, a1, a2, a3, a4, _⟩ := H14.out.step.cells
      obtain ⟨b0, b1, b2, b3, b4⟩ := H14.out.fcells
      go_wp2_with fail
      go_loopg [57] 0 (fun gk i wr => i = .int .i64 0 ∧ Hid (WS D W wr B tb W.heap.size (W.heap.size + 1) (t ++ wordP k ++ (32 :: printL conn) ++ [32, 61] ++ data.flatMap shortP) (k : Int) conn 0 (.slice ad data.length cd) (.slice ak 0 ck) ⟨(wordP k).toArray⟩ true true bb bk) ∧ Hid ((t ++ wordP k ++ (32 :: printL conn) ++ [32, 61] ++ data.flatMap shortP).length ≤ 1048576))
      case atStart => exact ⟨rfl, H14, HT14⟩
      case round =>
        obtain ⟨rfl, HR, HTR⟩ := hrel
        clear a0 a1 a2 a3 a4 b0 b1 b2 b3 b4
        have H24 := HR
        have HT24 := HTR
        clear HR HTR
        obtain ⟨a0, a1, a2, a3, a4, _⟩ := H24.out.step.cells
        obtain ⟨b0, b1, b2, b3, b4⟩ := H24.out.fcells
        go_wp2_with fail
        refine (add_any _ B tb (t ++ wordP k ++ (32 :: printL conn) ++ [32, 61] ++ data.flatMap shortP) ⟨#[10]⟩ H24.out.wt H24.out.bsz HT24.out (by decide)).mono ?_
        intro e w25 h2
        have h2 : AddPost _ B tb (t ++ wordP k ++ (32 :: printL conn) ++ [32, 61] ++ data.flatMap shortP) ([10]) e w25 := h2
        rcases H24.out.call h2 with ⟨rfl, hl, h3⟩ | ⟨hl, he, hkk⟩
        rotate_left
        · unfold pan at he
          subst he
          clear h2
          go_wp2_with fail
          exact ⟨rfl, hkk, .inr ⟨by rw [HL.out]; simp only [List.length_append] at hl ⊢; omega, rfl⟩⟩
        have H25 := hide h3
        have HT25 := hide hl
        clear h2 h3 hl a0 a1 a2 a3 a4 b0 b1 b2 b3 b4
        obtain ⟨a0, a1, a2, a3, a4, _⟩ := H25.out.step.cells
        obtain ⟨b0, b1, b2, b3, b4⟩ := H25.out.fcells
        go_wp2_with fail
        go_end0
        refine ⟨H25.out.kept, .inl ⟨?_, rfl, ?_⟩⟩
        · rw [HL.out]
          have h7 := HT25.out
          simp only [List.length_append] at h7 ⊢
          omega
        · rw [HL.out]
          have h7 := H25.out.wt
          simpa using h7
end Go.Proofs.YteaccpolmmkclaaDoor

namespace Go.Proofs.YteaccpolmmkclaaDoor
open Go.RowKit

set_option maxHeartbeats 8000000 in
set_option maxRecDepth 1000000 in
theorem wstep_B01 (D W : World) (B tb : Nat) (t L : Tx) (k : Nat) (conn : Int) (data : List UInt8) (keep : List Int) (ad ak : Option Addr) (cd ck : Nat) (bb bk : Bool) (hk : 1 ≤ k ∧ k ≤ 7) (T : Tabs W) (hw : WtAt W B tb t) (low : Below D.heap.size D W) (six : 6 ≤ B) (dB : D.heap.size ≤ B) (ht : t.length ≤ 1048576) (hf : FormAt W k true true bb bk) (hx : W.cell? ⟨0, k * 5, none⟩ = some (.string ⟨(wordP k).toArray⟩)) (hwl : (wordP k).length ≤ 100) (hd : IsBytes D ad cd data) (hkp : IsInts D ak ck keep) (hn : ∀ n ∈ keep, 0 ≤ n ∧ n ≤ maxWord) (hc : 0 ≤ conn ∧ conn ≤ maxWord) (hke : keep ≠ []) (hL : L = wordP k ++ (32 :: printL conn) ++ [32, 61] ++ data.flatMap shortP ++ (32 :: keepW) ++ keep.flatMap (32 :: printL ·) ++ [10]) :
    Calls Tryd.prog 29 #[.pointer (some ⟨tb, 0, none⟩), .agg #[.int .i64 (k : Int), .int .i64 conn, .slice ad data.length cd, .int .i64 0, .slice ak keep.length ck]] W (AddPost W B tb t L) := by
  obtain ⟨x, _, f1, f2, f3, f4⟩ := hf
  have hfl := T.lt.1
  have i1 : (0 : Int) ≤ (k : Int) := by omega
  have i2 : (k : Int) < 8 := by omega
  have h1 := WS.start D W B tb t hw T low six dB ⟨(wordP k).toArray⟩ (k : Int) conn 0 (.slice ad data.length cd) (.slice ak keep.length ck) true true bb bk
  have g0 : Below W.heap.size W (W.alloc (.cells #[.int .i64 (k : Int), .int .i64 conn, .slice ad data.length cd, .int .i64 0, .slice ak keep.length ck] 40)) := (Below.refl _ W).alloc (Nat.le_refl _) _
  have e0 := (g0.cell (p := ⟨0, k * 5, none⟩) hfl).trans hx
  have e1 := (g0.cell (p := ⟨0, k * 5 + 1, none⟩) hfl).trans f1
  have e2 := (g0.cell (p := ⟨0, k * 5 + 2, none⟩) hfl).trans f2
  have e3 := (g0.cell (p := ⟨0, k * 5 + 3, none⟩) hfl).trans f3
  have e4 := (g0.cell (p := ⟨0, k * 5 + 4, none⟩) hfl).trans f4
  have H1 := hide h1
  have HT1 := hide ht
  have HL := hide hL
  have HI := hide (And.intro hd hkp)
  have HN := hide hn
  have hdl : data.length ≤ 9223372036854775807 := by have := hd.1; have := hd.2.1; unfold maxLen at this; omega
  have hkl : keep.length ≤ 9223372036854775807 := by have := hkp.1; have := hkp.2.1; unfold maxLen at this; omega
  have hnd : (0 : Int) ≤ (data.length : Int) := by omega
  clear f1 f2 f3 f4 hx T g0 h1 hw low hL hd hkp hn
  have h0b : True := trivial
  have hke0 : (0 : Int) < (keep.length : Int) := by have := List.length_pos_iff.2 hke; omega
  go_enter Tryd.func29, Tryd.ntmps29
  go_wp2_with fail
  refine (add_any _ B tb (t) ⟨(wordP k).toArray⟩ H1.out.wt H1.out.bsz HT1.out (by simp [ByteArray.size]; omega)).mono ?_
  intro e w2 h2
  have h2 : AddPost _ B tb (t) (wordP k) e w2 := h2
  rcases H1.out.call h2 with ⟨rfl, hl, h3⟩ | ⟨hl, he, hkk⟩
  rotate_left
  · unfold pan at he
    subst he
    clear h2
    go_wp2_with fail
    exact ⟨rfl, hkk, .inr ⟨by rw [HL.out]; simp only [List.length_append] at hl ⊢; omega, rfl⟩⟩
  have H2 := hide h3
  have HT2 := hide hl
  clear h2 h3 hl e0 e1 e2 e3 e4
  obtain ⟨a0, a1, a2, a3, a4, _⟩ := H2.out.step.cells
  obtain ⟨b0, b1, b2, b3, b4⟩ := H2.out.fcells
  go_wp2_with fail
  refine (number_anyW _ B tb (t ++ wordP k) conn H2.out.tabs H2.out.wt H2.out.bsz HT2.out hc.1 hc.2).mono ?_
  intro e w3 h2
  have h2 : AddPost _ B tb (t ++ wordP k) ((32 :: printL conn)) e w3 := h2
  rcases H2.out.call h2 with ⟨rfl, hl, h3⟩ | ⟨hl, he, hkk⟩
  rotate_left
  · unfold pan at he
    subst he
    clear h2
    go_wp2_with fail
    exact ⟨rfl, hkk, .inr ⟨by rw [HL.out]; simp only [List.length_append] at hl ⊢; omega, rfl⟩⟩
  have H3 := hide h3
  have HT3 := hide hl
  clear h2 h3 hl a0 a1 a2 a3 a4 b0 b1 b2 b3 b4
  obtain ⟨a0, a1, a2, a3, a4, _⟩ := H3.out.step.cells
  obtain ⟨b0, b1, b2, b3, b4⟩ := H3.out.fcells
  go_wp2_with fail
  refine (word_anyW _ B tb (t ++ wordP k ++ (32 :: printL conn)) ⟨#[61]⟩ H3.out.wt H3.out.bsz HT3.out (by decide)).mono ?_
  intro e w4 h2
  have h2 : AddPost _ B tb (t ++ wordP k ++ (32 :: printL conn)) ([32, 61]) e w4 := h2
  rcases H3.out.call h2 with ⟨rfl, hl, h3⟩ | ⟨hl, he, hkk⟩
  rotate_left
  · unfold pan at he
    subst he
    clear h2
    go_wp2_with fail
    exact ⟨rfl, hkk, .inr ⟨by rw [HL.out]; simp only [List.length_append] at hl ⊢; omega, rfl⟩⟩
  have H4 := hide h3
  have HT4 := hide hl
  clear h2 h3 hl a0 a1 a2 a3 a4 b0 b1 b2 b3 b4
  obtain ⟨a0, a1, a2, a3, a4, _⟩ := H4.out.step.cells
  obtain ⟨b0, b1, b2, b3, b4⟩ := H4.out.fcells
  go_wp2_with fail
  go_loopg [30] data.length (fun gk i wr => ∃ j : Nat, i = .int .i64 (j : Int) ∧ data.length - j ≤ gk ∧ j ≤ data.length ∧ Hid (WS D W wr B tb W.heap.size (W.heap.size + 1) (t ++ wordP k ++ (32 :: printL conn) ++ [32, 61] ++ (data.take j).flatMap shortP) (k : Int) conn 0 (.slice ad data.length cd) (.slice ak keep.length ck) ⟨(wordP k).toArray⟩ true true bb bk) ∧ Hid ((t ++ wordP k ++ (32 :: printL conn) ++ [32, 61] ++ (data.take j).flatMap shortP).length ≤ 1048576))
  case atStart => exact ⟨0, rfl, by omega, by omega, by simpa using H4, by simpa using HT4⟩
  case round =>
    obtain ⟨j, rfl, hgk, hj, HR, HTR⟩ := hrel
    clear a0 a1 a2 a3 a4 b0 b1 b2 b3 b4
    by_cases hlt : j < data.length
    · have tlt : (j : Int) < (data.length : Int) := by omega
      obtain ⟨y, hy⟩ : ∃ y, data[j]? = some y := ⟨_, List.getElem?_eq_getElem hlt⟩
      have HF := hide (take_flat shortP data j y hy)
      have HF2 := hide (flat_le shortP data (j + 1))
      rcases HI.out.1.2.2 with h0 | ⟨bq, oq, e, hbq, hcq⟩
      · rw [h0] at hlt; simp at hlt
      subst e
      have cy : wr.cell? ⟨bq, oq + j, none⟩ = some (.int .u8 (y.toNat : Int)) := (HR.out.low.cell (p := ⟨bq, oq + j, none⟩) hbq).trans (hcq j y hy)
      have CS := hide (short_any y wr HR.out.tabs)
      have hsl := short_len y
      clear hy hcq
      go_wp2_with fail
      refine CS.out.mono ?_
      rintro e w9 ⟨rfl, b9⟩
      have HR9 := hide (HR.out.later b9)
      clear b9 cy
      go_wp2_with fail
      refine (add_any w9 B tb _ ⟨(shortP y).toArray⟩ HR9.out.wt HR9.out.bsz HTR.out (by show (shortP y).toArray.size ≤ _; simp only [List.size_toArray]; omega)).mono ?_
      intro e w8 h2
      have h2 : AddPost w9 B tb (t ++ wordP k ++ (32 :: printL conn) ++ [32, 61] ++ (data.take j).flatMap shortP) (shortP y) e w8 := h2
      rcases HR9.out.call h2 with ⟨rfl, hl, h3⟩ | ⟨hl, he, hkk⟩
      rotate_left
      · unfold pan at he
        subst he
        clear h2
        go_wp2_with fail
        exact ⟨rfl, hkk, .inr ⟨by have h7 := HF2.out; rw [HF.out] at h7; rw [HL.out]; simp only [List.length_append] at hl h7 ⊢; omega, rfl⟩⟩
      rw [List.append_assoc, ← HF.out] at h3 hl
      have H8 := hide h3
      have HT8 := hide hl
      clear h2 h3 hl
      go_wp2_with fail
      go_roundg (data.length - (j + 1))
      case measure => omega
      case rel => exact ⟨j + 1, by go_num, Nat.le_refl _, hlt, H8, HT8⟩
    · have tlt : ¬ (j : Int) < (data.length : Int) := by omega
      have e9 : data.take j = data := List.take_of_length_le (by omega)
      rw [e9] at HR HTR
      clear e9
      have H14 := HR
      have HT14 := HTR
      clear HR HTR
      obtain ⟨a0, a1, a2, a3, a4, _⟩ := H14.out.step.cells
      obtain ⟨b0, b1, b2, b3, b4⟩ := H14.out.fcells
      go_wp2_with fail
      refine (word_anyW _ B tb (t ++ wordP k ++ (32 :: printL conn) ++ [32, 61] ++ data.flatMap shortP) ⟨#[107, 101, 101, 112]⟩ H14.out.wt H14.out.bsz HT14.out (by decide)).mono ?_
      intro e w15 h2
      have h2 : AddPost _ B tb (t ++ wordP k ++ (32 :: printL conn) ++ [32, 61] ++ data.flatMap shortP) ((32 :: keepW)) e w15 := h2
      rcases H14.out.call h2 with ⟨rfl, hl, h3⟩ | ⟨hl, he, hkk⟩
      rotate_left
      · unfold pan at he
        subst he
        clear h2
        go_wp2_with fail
        exact ⟨rfl, hkk, .inr ⟨by rw [HL.out]; simp only [List.length_append] at hl ⊢; omega, rfl⟩⟩
      have H15 := hide h3
      have HT15 := hide hl
      clear h2 h3 hl a0 a1 a2 a3 a4 b0 b1 b2 b3 b4
      obtain ⟨a0, a1, a2, a3, a4, _⟩ := H15.out.step.cells
      obtain ⟨b0, b1, b2, b3, b4⟩ := H15.out.fcells
      go_wp2_with fail
      go_loopg [57] keep.length (fun gk i wr => ∃ j : Nat, i = .int .i64 (j : Int) ∧ keep.length - j ≤ gk ∧ j ≤ keep.length ∧ Hid (WS D W wr B tb W.heap.size (W.heap.size + 1) (t ++ wordP k ++ (32 :: printL conn) ++ [32, 61] ++ data.flatMap shortP ++ (32 :: keepW) ++ (keep.take j).flatMap (32 :: printL ·)) (k : Int) conn 0 (.slice ad data.length cd) (.slice ak keep.length ck) ⟨(wordP k).toArray⟩ true true bb bk) ∧ Hid ((t ++ wordP k ++ (32 :: printL conn) ++ [32, 61] ++ data.flatMap shortP ++ (32 :: keepW) ++ (keep.take j).flatMap (32 :: printL ·)).length ≤ 1048576))
      case atStart => exact ⟨0, rfl, by omega, by omega, by simpa using H15, by simpa using HT15⟩
      case round =>
        obtain ⟨j, rfl, hgk, hj, HR, HTR⟩ := hrel
        clear a0 a1 a2 a3 a4 b0 b1 b2 b3 b4
        by_cases hlt : j < keep.length
        · have tlt : (j : Int) < (keep.length : Int) := by omega
          obtain ⟨y, hy⟩ : ∃ y, keep[j]? = some y := ⟨_, List.getElem?_eq_getElem hlt⟩
          have HF := hide (take_flat (32 :: printL ·) keep j y hy)
          have HF2 := hide (flat_le (32 :: printL ·) keep (j + 1))
          rcases HI.out.2.2.2 with h0 | ⟨bq, oq, e, hbq, hcq⟩
          · rw [h0] at hlt; simp at hlt
          subst e
          have cy : wr.cell? ⟨bq, oq + j, none⟩ = some (.int .i64 y) := (HR.out.low.cell (p := ⟨bq, oq + j, none⟩) hbq).trans (hcq j y hy)
          have hyb := HN.out y (List.mem_of_getElem? hy)
          clear hy hcq
          go_wp2_with fail
          refine (number_anyW wr B tb _ y HR.out.tabs HR.out.wt HR.out.bsz HTR.out hyb.1 hyb.2).mono ?_
          intro e w8 h2
          have h2 : AddPost wr B tb (t ++ wordP k ++ (32 :: printL conn) ++ [32, 61] ++ data.flatMap shortP ++ (32 :: keepW) ++ (keep.take j).flatMap (32 :: printL ·)) (32 :: printL y) e w8 := h2
          rcases HR.out.call h2 with ⟨rfl, hl, h3⟩ | ⟨hl, he, hkk⟩
          rotate_left
          · unfold pan at he
            subst he
            clear h2 cy
            go_wp2_with fail
            exact ⟨rfl, hkk, .inr ⟨by have h7 := HF2.out; rw [HF.out] at h7; rw [HL.out]; simp only [List.length_append] at hl h7 ⊢; omega, rfl⟩⟩
          have HF' := HF.out
          rw [List.append_assoc, ← HF'] at h3 hl
          have H8 := hide h3
          have HT8 := hide hl
          clear h2 h3 hl cy HF'
          go_wp2_with fail
          go_roundg (keep.length - (j + 1))
          case measure => omega
          case rel => exact ⟨j + 1, by go_num, Nat.le_refl _, hlt, H8, HT8⟩
        · have tlt : ¬ (j : Int) < (keep.length : Int) := by omega
          have e9 : keep.take j = keep := List.take_of_length_le (by omega)
          rw [e9] at HR HTR
          clear e9
          have H25 := HR
          have HT25 := HTR
          clear HR HTR
          obtain ⟨a0, a1, a2, a3, a4, _⟩ := H25.out.step.cells
          obtain ⟨b0, b1, b2, b3, b4⟩ := H25.out.fcells
          go_wp2_with fail
          refine (add_any _ B tb (t ++ wordP k ++ (32 :: printL conn) ++ [32, 61] ++ data.flatMap shortP ++ (32 :: keepW) ++ keep.flatMap (32 :: printL ·)) ⟨#[10]⟩ H25.out.wt H25.out.bsz HT25.out (by decide)).mono ?_
          intro e w26 h2
          have h2 : AddPost _ B tb (t ++ wordP k ++ (32 :: printL conn) ++ [32, 61] ++ data.flatMap shortP ++ (32 :: keepW) ++ keep.flatMap (32 :: printL ·)) ([10]) e w26 := h2
          rcases H25.out.call h2 with ⟨rfl, hl, h3⟩ | ⟨hl, he, hkk⟩
          rotate_left
          · unfold pan at he
            subst he
            clear h2
            go_wp2_with fail
            exact ⟨rfl, hkk, .inr ⟨by rw [HL.out]; simp only [List.length_append] at hl ⊢; omega, rfl⟩⟩
          have H26 := hide h3
          have HT26 := hide hl
          clear h2 h3 hl a0 a1 a2 a3 a4 b0 b1 b2 b3 b4
          obtain ⟨a0, a1, a2, a3, a4, _⟩ := H26.out.step.cells
          obtain ⟨b0, b1, b2, b3, b4⟩ := H26.out.fcells
          go_wp2_with fail
          go_end0
          refine ⟨H26.out.kept, .inl ⟨?_, rfl, ?_⟩⟩
          · rw [HL.out]
            have h7 := HT26.out
            simp only [List.length_append] at h7 ⊢
            omega
          · rw [HL.out]
            have h7 := H26.out.wt
            simpa using h7
end Go.Proofs.YteaccpolmmkclaaDoor

namespace Go.Proofs.YteaccpolmmkclaaDoor
open Go.RowKit

set_option maxHeartbeats 8000000 in
set_option maxRecDepth 1000000 in
theorem wstep_B10 (D W : World) (B tb : Nat) (t L : Tx) (k : Nat) (conn brk : Int) (data : List UInt8) (ad ak : Option Addr) (cd ck : Nat) (bb bk : Bool) (hk : 1 ≤ k ∧ k ≤ 7) (T : Tabs W) (hw : WtAt W B tb t) (low : Below D.heap.size D W) (six : 6 ≤ B) (dB : D.heap.size ≤ B) (ht : t.length ≤ 1048576) (hf : FormAt W k true true bb bk) (hx : W.cell? ⟨0, k * 5, none⟩ = some (.string ⟨(wordP k).toArray⟩)) (hwl : (wordP k).length ≤ 100) (hd : IsBytes D ad cd data) (hc : 0 ≤ conn ∧ conn ≤ maxWord) (hb : 0 < brk ∧ brk ≤ maxWord) (hL : L = wordP k ++ (32 :: printL conn) ++ [32, 61] ++ data.flatMap shortP ++ (32 :: breakW) ++ (32 :: printL brk) ++ [10]) :
    Calls Tryd.prog 29 #[.pointer (some ⟨tb, 0, none⟩), .agg #[.int .i64 (k : Int), .int .i64 conn, .slice ad data.length cd, .int .i64 brk, .slice ak 0 ck]] W (AddPost W B tb t L) := by
  obtain ⟨x, _, f1, f2, f3, f4⟩ := hf
  have hfl := T.lt.1
  have i1 : (0 : Int) ≤ (k : Int) := by omega
  have i2 : (k : Int) < 8 := by omega
  have h1 := WS.start D W B tb t hw T low six dB ⟨(wordP k).toArray⟩ (k : Int) conn brk (.slice ad data.length cd) (.slice ak 0 ck) true true bb bk
  have g0 : Below W.heap.size W (W.alloc (.cells #[.int .i64 (k : Int), .int .i64 conn, .slice ad data.length cd, .int .i64 brk, .slice ak 0 ck] 40)) := (Below.refl _ W).alloc (Nat.le_refl _) _
  have e0 := (g0.cell (p := ⟨0, k * 5, none⟩) hfl).trans hx
  have e1 := (g0.cell (p := ⟨0, k * 5 + 1, none⟩) hfl).trans f1
  have e2 := (g0.cell (p := ⟨0, k * 5 + 2, none⟩) hfl).trans f2
  have e3 := (g0.cell (p := ⟨0, k * 5 + 3, none⟩) hfl).trans f3
  have e4 := (g0.cell (p := ⟨0, k * 5 + 4, none⟩) hfl).trans f4
  have H1 := hide h1
  have HT1 := hide ht
  have HL := hide hL
  have HI := hide (And.intro hd True.intro)
  have hdl : data.length ≤ 9223372036854775807 := by have := hd.1; have := hd.2.1; unfold maxLen at this; omega
  have hnd : (0 : Int) ≤ (data.length : Int) := by omega
  clear f1 f2 f3 f4 hx T g0 h1 hw low hL hd
  have hb0 : (0 : Int) < brk := hb.1
  have h0b : True := trivial
  go_enter Tryd.func29, Tryd.ntmps29
  go_wp2_with fail
  refine (add_any _ B tb (t) ⟨(wordP k).toArray⟩ H1.out.wt H1.out.bsz HT1.out (by simp [ByteArray.size]; omega)).mono ?_
  intro e w2 h2
  have h2 : AddPost _ B tb (t) (wordP k) e w2 := h2
  rcases H1.out.call h2 with ⟨rfl, hl, h3⟩ | ⟨hl, he, hkk⟩
  rotate_left
  · unfold pan at he
    subst he
    clear h2
    go_wp2_with fail
    exact ⟨rfl, hkk, .inr ⟨by rw [HL.out]; simp only [List.length_append] at hl ⊢; omega, rfl⟩⟩
  have H2 := hide h3
  have HT2 := hide hl
  clear h2 h3 hl e0 e1 e2 e3 e4
  obtain ⟨a0, a1, a2, a3, a4, _⟩ := H2.out.step.cells
  obtain ⟨b0, b1, b2, b3, b4⟩ := H2.out.fcells
  go_wp2_with fail
  refine (number_anyW _ B tb (t ++ wordP k) conn H2.out.tabs H2.out.wt H2.out.bsz HT2.out hc.1 hc.2).mono ?_
  intro e w3 h2
  have h2 : AddPost _ B tb (t ++ wordP k) ((32 :: printL conn)) e w3 := h2
  rcases H2.out.call h2 with ⟨rfl, hl, h3⟩ | ⟨hl, he, hkk⟩
  rotate_left
  · unfold pan at he
    subst he
    clear h2
    go_wp2_with fail
    exact ⟨rfl, hkk, .inr ⟨by rw [HL.out]; simp only [List.length_append] at hl ⊢; omega, rfl⟩⟩
  have H3 := hide h3
  have HT3 := hide hl
  clear h2 h3 hl a0 a1 a2 a3 a4 b0 b1 b2 b3 b4
  obtain ⟨a0, a1, a2, a3, a4, _⟩ := H3.out.step.cells
  obtain ⟨b0, b1, b2, b3, b4⟩ := H3.out.fcells
  go_wp2_with fail
  refine (word_anyW _ B tb (t ++ wordP k ++ (32 :: printL conn)) ⟨#[61]⟩ H3.out.wt H3.out.bsz HT3.out (by decide)).mono ?_
  intro e w4 h2
  have h2 : AddPost _ B tb (t ++ wordP k ++ (32 :: printL conn)) ([32, 61]) e w4 := h2
  rcases H3.out.call h2 with ⟨rfl, hl, h3⟩ | ⟨hl, he, hkk⟩
  rotate_left
  · unfold pan at he
    subst he
    clear h2
    go_wp2_with fail
    exact ⟨rfl, hkk, .inr ⟨by rw [HL.out]; simp only [List.length_append] at hl ⊢; omega, rfl⟩⟩
  have H4 := hide h3
  have HT4 := hide hl
  clear h2 h3 hl a0 a1 a2 a3 a4 b0 b1 b2 b3 b4
  obtain ⟨a0, a1, a2, a3, a4, _⟩ := H4.out.step.cells
  obtain ⟨b0, b1, b2, b3, b4⟩ := H4.out.fcells
  go_wp2_with fail
  go_loopg [30] data.length (fun gk i wr => ∃ j : Nat, i = .int .i64 (j : Int) ∧ data.length - j ≤ gk ∧ j ≤ data.length ∧ Hid (WS D W wr B tb W.heap.size (W.heap.size + 1) (t ++ wordP k ++ (32 :: printL conn) ++ [32, 61] ++ (data.take j).flatMap shortP) (k : Int) conn brk (.slice ad data.length cd) (.slice ak 0 ck) ⟨(wordP k).toArray⟩ true true bb bk) ∧ Hid ((t ++ wordP k ++ (32 :: printL conn) ++ [32, 61] ++ (data.take j).flatMap shortP).length ≤ 1048576))
  case atStart => exact ⟨0, rfl, by omega, by omega, by simpa using H4, by simpa using HT4⟩
  case round =>
    obtain ⟨j, rfl, hgk, hj, HR, HTR⟩ := hrel
    clear a0 a1 a2 a3 a4 b0 b1 b2 b3 b4
    by_cases hlt : j < data.length
    · have tlt : (j : Int) < (data.length : Int) := by omega
      obtain ⟨y, hy⟩ : ∃ y, data[j]? = some y := ⟨_, List.getElem?_eq_getElem hlt⟩
      have HF := hide (take_flat shortP data j y hy)
      have HF2 := hide (flat_le shortP data (j + 1))
      rcases HI.out.1.2.2 with h0 | ⟨bq, oq, e, hbq, hcq⟩
      · rw [h0] at hlt; simp at hlt
      subst e
      have cy : wr.cell? ⟨bq, oq + j, none⟩ = some (.int .u8 (y.toNat : Int)) := (HR.out.low.cell (p := ⟨bq, oq + j, none⟩) hbq).trans (hcq j y hy)
      have CS := hide (short_any y wr HR.out.tabs)
      have hsl := short_len y
      clear hy hcq
      go_wp2_with fail
      refine CS.out.mono ?_
      rintro e w9 ⟨rfl, b9⟩
      have HR9 := hide (HR.out.later b9)
      clear b9 cy
      go_wp2_with fail
      refine (add_any w9 B tb _ ⟨(shortP y).toArray⟩ HR9.out.wt HR9.out.bsz HTR.out (by show (shortP y).toArray.size ≤ _; simp only [List.size_toArray]; omega)).mono ?_
      intro e w8 h2
      have h2 : AddPost w9 B tb (t ++ wordP k ++ (32 :: printL conn) ++ [32, 61] ++ (data.take j).flatMap shortP) (shortP y) e w8 := h2
      rcases HR9.out.call h2 with ⟨rfl, hl, h3⟩ | ⟨hl, he, hkk⟩
      rotate_left
      · unfold pan at he
        subst he
        clear h2
        go_wp2_with fail
        exact ⟨rfl, hkk, .inr ⟨by have h7 := HF2.out; rw [HF.out] at h7; rw [HL.out]; simp only [List.length_append] at hl h7 ⊢; omega, rfl⟩⟩
      rw [List.append_assoc, ← HF.out] at h3 hl
      have H8 := hide h3
      have HT8 := hide hl
      clear h2 h3 hl
      go_wp2_with fail
      go_roundg (data.length - (j + 1))
      case measure => omega
      case rel => exact ⟨j + 1, by go_num, Nat.le_refl _, hlt, H8, HT8⟩
    · have tlt : ¬ (j : Int) < (data.length : Int) := by omega
      have e9 : data.take j = data := List.take_of_length_le (by omega)
      rw [e9] at HR HTR
      clear e9
      have H14 := HR
      have HT14 := HTR
      clear HR HTR
      obtain ⟨a0, a1, a2, a3, a4, _⟩ := H14.out.step.cells
      obtain ⟨b0, b1, b2, b3, b4⟩ := H14.out.fcells
      go_wp2_with fail
      refine (word_anyW _ B tb (t ++ wordP k ++ (32 :: printL conn) ++ [32, 61] ++ data.flatMap shortP) ⟨#[98, 114, 101, 97, 107]⟩ H14.out.wt H14.out.bsz HT14.out (by decide)).mono ?_
      intro e w15 h2
      have h2 : AddPost _ B tb (t ++ wordP k ++ (32 :: printL conn) ++ [32, 61] ++ data.flatMap shortP) ((32 :: breakW)) e w15 := h2
      rcases H14.out.call h2 with ⟨rfl, hl, h3⟩ | ⟨hl, he, hkk⟩
      rotate_left
      · unfold pan at he
        subst he
        clear h2
        go_wp2_with fail
        exact ⟨rfl, hkk, .inr ⟨by rw [HL.out]; simp only [List.length_append] at hl ⊢; omega, rfl⟩⟩
      have H15 := hide h3
      have HT15 := hide hl
      clear h2 h3 hl a0 a1 a2 a3 a4 b0 b1 b2 b3 b4
      obtain ⟨a0, a1, a2, a3, a4, _⟩ := H15.out.step.cells
      obtain ⟨b0, b1, b2, b3, b4⟩ := H15.out.fcells
      go_wp2_with fail
      refine (number_anyW _ B tb (t ++ wordP k ++ (32 :: printL conn) ++ [32, 61] ++ data.flatMap shortP ++ (32 :: breakW)) brk H15.out.tabs H15.out.wt H15.out.bsz HT15.out (by omega) hb.2).mono ?_
      intro e w16 h2
      have h2 : AddPost _ B tb (t ++ wordP k ++ (32 :: printL conn) ++ [32, 61] ++ data.flatMap shortP ++ (32 :: breakW)) ((32 :: printL brk)) e w16 := h2
      rcases H15.out.call h2 with ⟨rfl, hl, h3⟩ | ⟨hl, he, hkk⟩
      rotate_left
      · unfold pan at he
        subst he
        clear h2
        go_wp2_with fail
        exact ⟨rfl, hkk, .inr ⟨by rw [HL.out]; simp only [List.length_append] at hl ⊢; omega, rfl⟩⟩
      have H16 := hide h3
      have HT16 := hide hl
      clear h2 h3 hl a0 a1 a2 a3 a4 b0 b1 b2 b3 b4
      obtain ⟨a0, a1, a2, a3, a4, _⟩ := H16.out.step.cells
      obtain ⟨b0, b1, b2, b3, b4⟩ := H16.out.fcells
      go_wp2_with fail
      go_loopg [57] 0 (fun gk i wr => i = .int .i64 0 ∧ Hid (WS D W wr B tb W.heap.size (W.heap.size + 1) (t ++ wordP k ++ (32 :: printL conn) ++ [32, 61] ++ data.flatMap shortP ++ (32 :: breakW) ++ (32 :: printL brk)) (k : Int) conn brk (.slice ad data.length cd) (.slice ak 0 ck) ⟨(wordP k).toArray⟩ true true bb bk) ∧ Hid ((t ++ wordP k ++ (32 :: printL conn) ++ [32, 61] ++ data.flatMap shortP ++ (32 :: breakW) ++ (32 :: printL brk)).length ≤ 1048576))
      case atStart => exact ⟨rfl, H16, HT16⟩
      case round =>
        obtain ⟨rfl, HR, HTR⟩ := hrel
        clear a0 a1 a2 a3 a4 b0 b1 b2 b3 b4
        have H26 := HR
        have HT26 := HTR
        clear HR HTR
        obtain ⟨a0, a1, a2, a3, a4, _⟩ := H26.out.step.cells
        obtain ⟨b0, b1, b2, b3, b4⟩ := H26.out.fcells
        go_wp2_with fail
        refine (add_any _ B tb (t ++ wordP k ++ (32 :: printL conn) ++ [32, 61] ++ data.flatMap shortP ++ (32 :: breakW) ++ (32 :: printL brk)) ⟨#[10]⟩ H26.out.wt H26.out.bsz HT26.out (by decide)).mono ?_
        intro e w27 h2
        have h2 : AddPost _ B tb (t ++ wordP k ++ (32 :: printL conn) ++ [32, 61] ++ data.flatMap shortP ++ (32 :: breakW) ++ (32 :: printL brk)) ([10]) e w27 := h2
        rcases H26.out.call h2 with ⟨rfl, hl, h3⟩ | ⟨hl, he, hkk⟩
        rotate_left
        · unfold pan at he
          subst he
          clear h2
          go_wp2_with fail
          exact ⟨rfl, hkk, .inr ⟨by rw [HL.out]; simp only [List.length_append] at hl ⊢; omega, rfl⟩⟩
        have H27 := hide h3
        have HT27 := hide hl
        clear h2 h3 hl a0 a1 a2 a3 a4 b0 b1 b2 b3 b4
        obtain ⟨a0, a1, a2, a3, a4, _⟩ := H27.out.step.cells
        obtain ⟨b0, b1, b2, b3, b4⟩ := H27.out.fcells
        go_wp2_with fail
        go_end0
        refine ⟨H27.out.kept, .inl ⟨?_, rfl, ?_⟩⟩
        · rw [HL.out]
          have h7 := HT27.out
          simp only [List.length_append] at h7 ⊢
          omega
        · rw [HL.out]
          have h7 := H27.out.wt
          simpa using h7
end Go.Proofs.YteaccpolmmkclaaDoor

namespace Go.Proofs.YteaccpolmmkclaaDoor
open Go.RowKit

set_option maxHeartbeats 8000000 in
set_option maxRecDepth 1000000 in
theorem wstep_B11 (D W : World) (B tb : Nat) (t L : Tx) (k : Nat) (conn brk : Int) (data : List UInt8) (keep : List Int) (ad ak : Option Addr) (cd ck : Nat) (bb bk : Bool) (hk : 1 ≤ k ∧ k ≤ 7) (T : Tabs W) (hw : WtAt W B tb t) (low : Below D.heap.size D W) (six : 6 ≤ B) (dB : D.heap.size ≤ B) (ht : t.length ≤ 1048576) (hf : FormAt W k true true bb bk) (hx : W.cell? ⟨0, k * 5, none⟩ = some (.string ⟨(wordP k).toArray⟩)) (hwl : (wordP k).length ≤ 100) (hd : IsBytes D ad cd data) (hkp : IsInts D ak ck keep) (hn : ∀ n ∈ keep, 0 ≤ n ∧ n ≤ maxWord) (hc : 0 ≤ conn ∧ conn ≤ maxWord) (hb : 0 < brk ∧ brk ≤ maxWord) (hke : keep ≠ []) (hL : L = wordP k ++ (32 :: printL conn) ++ [32, 61] ++ data.flatMap shortP ++ (32 :: breakW) ++ (32 :: printL brk) ++ (32 :: keepW) ++ keep.flatMap (32 :: printL ·) ++ [10]) :
    Calls Tryd.prog 29 #[.pointer (some ⟨tb, 0, none⟩), .agg #[.int .i64 (k : Int), .int .i64 conn, .slice ad data.length cd, .int .i64 brk, .slice ak keep.length ck]] W (AddPost W B tb t L) := by
  obtain ⟨x, _, f1, f2, f3, f4⟩ := hf
  have hfl := T.lt.1
  have i1 : (0 : Int) ≤ (k : Int) := by omega
  have i2 : (k : Int) < 8 := by omega
  have h1 := WS.start D W B tb t hw T low six dB ⟨(wordP k).toArray⟩ (k : Int) conn brk (.slice ad data.length cd) (.slice ak keep.length ck) true true bb bk
  have g0 : Below W.heap.size W (W.alloc (.cells #[.int .i64 (k : Int), .int .i64 conn, .slice ad data.length cd, .int .i64 brk, .slice ak keep.length ck] 40)) := (Below.refl _ W).alloc (Nat.le_refl _) _
  have e0 := (g0.cell (p := ⟨0, k * 5, none⟩) hfl).trans hx
  have e1 := (g0.cell (p := ⟨0, k * 5 + 1, none⟩) hfl).trans f1
  have e2 := (g0.cell (p := ⟨0, k * 5 + 2, none⟩) hfl).trans f2
  have e3 := (g0.cell (p := ⟨0, k * 5 + 3, none⟩) hfl).trans f3
  have e4 := (g0.cell (p := ⟨0, k * 5 + 4, none⟩) hfl).trans f4
  have H1 := hide h1
  have HT1 := hide ht
  have HL := hide hL
  have HI := hide (And.intro hd hkp)
  have HN := hide hn
  have hdl : data.length ≤ 9223372036854775807 := by have := hd.1; have := hd.2.1; unfold maxLen at this; omega
  have hkl : keep.length ≤ 9223372036854775807 := by have := hkp.1; have := hkp.2.1; unfold maxLen at this; omega
  have hnd : (0 : Int) ≤ (data.length : Int) := by omega
  clear f1 f2 f3 f4 hx T g0 h1 hw low hL hd hkp hn
  have hb0 : (0 : Int) < brk := hb.1
  have h0b : True := trivial
  have hke0 : (0 : Int) < (keep.length : Int) := by have := List.length_pos_iff.2 hke; omega
  go_enter Tryd.func29, Tryd.ntmps29
  go_wp2_with fail
  refine (add_any _ B tb (t) ⟨(wordP k).toArray⟩ H1.out.wt H1.out.bsz HT1.out (by simp [ByteArray.size]; omega)).mono ?_
  intro e w2 h2
  have h2 : AddPost _ B tb (t) (wordP k) e w2 := h2
  rcases H1.out.call h2 with ⟨rfl, hl, h3⟩ | ⟨hl, he, hkk⟩
  rotate_left
  · unfold pan at he
    subst he
    clear h2
    go_wp2_with fail
    exact ⟨rfl, hkk, .inr ⟨by rw [HL.out]; simp only [List.length_append] at hl ⊢; omega, rfl⟩⟩
  have H2 := hide h3
  have HT2 := hide hl
  clear h2 h3 hl e0 e1 e2 e3 e4
  obtain ⟨a0, a1, a2, a3, a4, _⟩ := H2.out.step.cells
  obtain ⟨b0, b1, b2, b3, b4⟩ := H2.out.fcells
  go_wp2_with fail
  refine (number_anyW _ B tb (t ++ wordP k) conn H2.out.tabs H2.out.wt H2.out.bsz HT2.out hc.1 hc.2).mono ?_
  intro e w3 h2
  have h2 : AddPost _ B tb (t ++ wordP k) ((32 :: printL conn)) e w3 := h2
  rcases H2.out.call h2 with ⟨rfl, hl, h3⟩ | ⟨hl, he, hkk⟩
  rotate_left
  · unfold pan at he
    subst he
    clear h2
    go_wp2_with fail
    exact ⟨rfl, hkk, .inr ⟨by rw [HL.out]; simp only [List.length_append] at hl ⊢; omega, rfl⟩⟩
  have H3 := hide h3
  have HT3 := hide hl
  clear h2 h3 hl a0 a1 a2 a3 a4 b0 b1 b2 b3 b4
  obtain ⟨a0, a1, a2, a3, a4, _⟩ := H3.out.step.cells
  obtain ⟨b0, b1, b2, b3, b4⟩ := H3.out.fcells
  go_wp2_with fail
  refine (word_anyW _ B tb (t ++ wordP k ++ (32 :: printL conn)) ⟨#[61]⟩ H3.out.wt H3.out.bsz HT3.out (by decide)).mono ?_
  intro e w4 h2
  have h2 : AddPost _ B tb (t ++ wordP k ++ (32 :: printL conn)) ([32, 61]) e w4 := h2
  rcases H3.out.call h2 with ⟨rfl, hl, h3⟩ | ⟨hl, he, hkk⟩
  rotate_left
  · unfold pan at he
    subst he
    clear h2
    go_wp2_with fail
    exact ⟨rfl, hkk, .inr ⟨by rw [HL.out]; simp only [List.length_append] at hl ⊢; omega, rfl⟩⟩
  have H4 := hide h3
  have HT4 := hide hl
  clear h2 h3 hl a0 a1 a2 a3 a4 b0 b1 b2 b3 b4
  obtain ⟨a0, a1, a2, a3, a4, _⟩ := H4.out.step.cells
  obtain ⟨b0, b1, b2, b3, b4⟩ := H4.out.fcells
  go_wp2_with fail
  go_loopg [30] data.length (fun gk i wr => ∃ j : Nat, i = .int .i64 (j : Int) ∧ data.length - j ≤ gk ∧ j ≤ data.length ∧ Hid (WS D W wr B tb W.heap.size (W.heap.size + 1) (t ++ wordP k ++ (32 :: printL conn) ++ [32, 61] ++ (data.take j).flatMap shortP) (k : Int) conn brk (.slice ad data.length cd) (.slice ak keep.length ck) ⟨(wordP k).toArray⟩ true true bb bk) ∧ Hid ((t ++ wordP k ++ (32 :: printL conn) ++ [32, 61] ++ (data.take j).flatMap shortP).length ≤ 1048576))
  case atStart => exact ⟨0, rfl, by omega, by omega, by simpa using H4, by simpa using HT4⟩
  case round =>
    obtain ⟨j, rfl, hgk, hj, HR, HTR⟩ := hrel
    clear a0 a1 a2 a3 a4 b0 b1 b2 b3 b4
    by_cases hlt : j < data.length
    · have tlt : (j : Int) < (data.length : Int) := by omega
      obtain ⟨y, hy⟩ : ∃ y, data[j]? = some y := ⟨_, List.getElem?_eq_getElem hlt⟩
      have HF := hide (take_flat shortP data j y hy)
      have HF2 := hide (flat_le shortP data (j + 1))
      rcases HI.out.1.2.2 with h0 | ⟨bq, oq, e, hbq, hcq⟩
      · rw [h0] at hlt; simp at hlt
      subst e
      have cy : wr.cell? ⟨bq, oq + j, none⟩ = some (.int .u8 (y.toNat : Int)) := (HR.out.low.cell (p := ⟨bq, oq + j, none⟩) hbq).trans (hcq j y hy)
      have CS := hide (short_any y wr HR.out.tabs)
      have hsl := short_len y
      clear hy hcq
      go_wp2_with fail
      refine CS.out.mono ?_
      rintro e w9 ⟨rfl, b9⟩
      have HR9 := hide (HR.out.later b9)
      clear b9 cy
      go_wp2_with fail
      refine (add_any w9 B tb _ ⟨(shortP y).toArray⟩ HR9.out.wt HR9.out.bsz HTR.out (by show (shortP y).toArray.size ≤ _; simp only [List.size_toArray]; omega)).mono ?_
      intro e w8 h2
      have h2 : AddPost w9 B tb (t ++ wordP k ++ (32 :: printL conn) ++ [32, 61] ++ (data.take j).flatMap shortP) (shortP y) e w8 := h2
      rcases HR9.out.call h2 with ⟨rfl, hl, h3⟩ | ⟨hl, he, hkk⟩
      rotate_left
      · unfold pan at he
        subst he
        clear h2
        go_wp2_with fail
        exact ⟨rfl, hkk, .inr ⟨by have h7 := HF2.out; rw [HF.out] at h7; rw [HL.out]; simp only [List.length_append] at hl h7 ⊢; omega, rfl⟩⟩
      rw [List.append_assoc, ← HF.out] at h3 hl
      have H8 := hide h3
      have HT8 := hide hl
      clear h2 h3 hl
      go_wp2_with fail
      go_roundg (data.length - (j + 1))
      case measure => omega
      case rel => exact ⟨j + 1, by go_num, Nat.le_refl _, hlt, H8, HT8⟩
    · have tlt : ¬ (j : Int) < (data.length : Int) := by omega
      have e9 : data.take j = data := List.take_of_length_le (by omega)
      rw [e9] at HR HTR
      clear e9
      have H14 := HR
      have HT14 := HTR
      clear HR HTR
      obtain ⟨a0, a1, a2, a3, a4, _⟩ := H14.out.step.cells
      obtain ⟨b0, b1, b2, b3, b4⟩ := H14.out.fcells
      go_wp2_with fail
      refine (word_anyW _ B tb (t ++ wordP k ++ (32 :: printL conn) ++ [32, 61] ++ data.flatMap shortP) ⟨#[98, 114, 101, 97, 107]⟩ H14.out.wt H14.out.bsz HT14.out (by decide)).mono ?_
      intro e w15 h2
      have h2 : AddPost _ B tb (t ++ wordP k ++ (32 :: printL conn) ++ [32, 61] ++ data.flatMap shortP) ((32 :: breakW)) e w15 := h2
      rcases H14.out.call h2 with ⟨rfl, hl, h3⟩ | ⟨hl, he, hkk⟩
      rotate_left
      · unfold pan at he
        subst he
        clear h2
        go_wp2_with fail
        exact ⟨rfl, hkk, .inr ⟨by rw [HL.out]; simp only [List.length_append] at hl ⊢; omega, rfl⟩⟩
      have H15 := hide h3
      have HT15 := hide hl
      clear h2 h3 hl a0 a1 a2 a3 a4 b0 b1 b2 b3 b4
      obtain ⟨a0, a1, a2, a3, a4, _⟩ := H15.out.step.cells
      obtain ⟨b0, b1, b2, b3, b4⟩ := H15.out.fcells
      go_wp2_with fail
      refine (number_anyW _ B tb (t ++ wordP k ++ (32 :: printL conn) ++ [32, 61] ++ data.flatMap shortP ++ (32 :: breakW)) brk H15.out.tabs H15.out.wt H15.out.bsz HT15.out (by omega) hb.2).mono ?_
      intro e w16 h2
      have h2 : AddPost _ B tb (t ++ wordP k ++ (32 :: printL conn) ++ [32, 61] ++ data.flatMap shortP ++ (32 :: breakW)) ((32 :: printL brk)) e w16 := h2
      rcases H15.out.call h2 with ⟨rfl, hl, h3⟩ | ⟨hl, he, hkk⟩
      rotate_left
      · unfold pan at he
        subst he
        clear h2
        go_wp2_with fail
        exact ⟨rfl, hkk, .inr ⟨by rw [HL.out]; simp only [List.length_append] at hl ⊢; omega, rfl⟩⟩
      have H16 := hide h3
      have HT16 := hide hl
      clear h2 h3 hl a0 a1 a2 a3 a4 b0 b1 b2 b3 b4
      obtain ⟨a0, a1, a2, a3, a4, _⟩ := H16.out.step.cells
      obtain ⟨b0, b1, b2, b3, b4⟩ := H16.out.fcells
      go_wp2_with fail
      refine (word_anyW _ B tb (t ++ wordP k ++ (32 :: printL conn) ++ [32, 61] ++ data.flatMap shortP ++ (32 :: breakW) ++ (32 :: printL brk)) ⟨#[107, 101, 101, 112]⟩ H16.out.wt H16.out.bsz HT16.out (by decide)).mono ?_
      intro e w17 h2
      have h2 : AddPost _ B tb (t ++ wordP k ++ (32 :: printL conn) ++ [32, 61] ++ data.flatMap shortP ++ (32 :: breakW) ++ (32 :: printL brk)) ((32 :: keepW)) e w17 := h2
      rcases H16.out.call h2 with ⟨rfl, hl, h3⟩ | ⟨hl, he, hkk⟩
      rotate_left
      · unfold pan at he
        subst he
        clear h2
        go_wp2_with fail
        exact ⟨rfl, hkk, .inr ⟨by rw [HL.out]; simp only [List.length_append] at hl ⊢; omega, rfl⟩⟩
      have H17 := hide h3
      have HT17 := hide hl
      clear h2 h3 hl a0 a1 a2 a3 a4 b0 b1 b2 b3 b4
      obtain ⟨a0, a1, a2, a3, a4, _⟩ := H17.out.step.cells
      obtain ⟨b0, b1, b2, b3, b4⟩ := H17.out.fcells
      go_wp2_with fail
      go_loopg [57] keep.length (fun gk i wr => ∃ j : Nat, i = .int .i64 (j : Int) ∧ keep.length - j ≤ gk ∧ j ≤ keep.length ∧ Hid (WS D W wr B tb W.heap.size (W.heap.size + 1) (t ++ wordP k ++ (32 :: printL conn) ++ [32, 61] ++ data.flatMap shortP ++ (32 :: breakW) ++ (32 :: printL brk) ++ (32 :: keepW) ++ (keep.take j).flatMap (32 :: printL ·)) (k : Int) conn brk (.slice ad data.length cd) (.slice ak keep.length ck) ⟨(wordP k).toArray⟩ true true bb bk) ∧ Hid ((t ++ wordP k ++ (32 :: printL conn) ++ [32, 61] ++ data.flatMap shortP ++ (32 :: breakW) ++ (32 :: printL brk) ++ (32 :: keepW) ++ (keep.take j).flatMap (32 :: printL ·)).length ≤ 1048576))
      case atStart => exact ⟨0, rfl, by omega, by omega, by simpa using H17, by simpa using HT17⟩
      case round =>
        obtain ⟨j, rfl, hgk, hj, HR, HTR⟩ := hrel
        clear a0 a1 a2 a3 a4 b0 b1 b2 b3 b4
        by_cases hlt : j < keep.length
        · have tlt : (j : Int) < (keep.length : Int) := by omega
          obtain ⟨y, hy⟩ : ∃ y, keep[j]? = some y := ⟨_, List.getElem?_eq_getElem hlt⟩
          have HF := hide (take_flat (32 :: printL ·) keep j y hy)
          have HF2 := hide (flat_le (32 :: printL ·) keep (j + 1))
          rcases HI.out.2.2.2 with h0 | ⟨bq, oq, e, hbq, hcq⟩
          · rw [h0] at hlt; simp at hlt
          subst e
          have cy : wr.cell? ⟨bq, oq + j, none⟩ = some (.int .i64 y) := (HR.out.low.cell (p := ⟨bq, oq + j, none⟩) hbq).trans (hcq j y hy)
          have hyb := HN.out y (List.mem_of_getElem? hy)
          clear hy hcq
          go_wp2_with fail
          refine (number_anyW wr B tb _ y HR.out.tabs HR.out.wt HR.out.bsz HTR.out hyb.1 hyb.2).mono ?_
          intro e w8 h2
          have h2 : AddPost wr B tb (t ++ wordP k ++ (32 :: printL conn) ++ [32, 61] ++ data.flatMap shortP ++ (32 :: breakW) ++ (32 :: printL brk) ++ (32 :: keepW) ++ (keep.take j).flatMap (32 :: printL ·)) (32 :: printL y) e w8 := h2
          rcases HR.out.call h2 with ⟨rfl, hl, h3⟩ | ⟨hl, he, hkk⟩
          rotate_left
          · unfold pan at he
            subst he
            clear h2 cy
            go_wp2_with fail
            exact ⟨rfl, hkk, .inr ⟨by have h7 := HF2.out; rw [HF.out] at h7; rw [HL.out]; simp only [List.length_append] at hl h7 ⊢; omega, rfl⟩⟩
          have HF' := HF.out
          rw [List.append_assoc, ← HF'] at h3 hl
          have H8 := hide h3
          have HT8 := hide hl
          clear h2 h3 hl cy HF'
          go_wp2_with fail
          go_roundg (keep.length - (j + 1))
          case measure => omega
          case rel => exact ⟨j + 1, by go_num, Nat.le_refl _, hlt, H8, HT8⟩
        · have tlt : ¬ (j : Int) < (keep.length : Int) := by omega
          have e9 : keep.take j = keep := List.take_of_length_le (by omega)
          rw [e9] at HR HTR
          clear e9
          have H27 := HR
          have HT27 := HTR
          clear HR HTR
          obtain ⟨a0, a1, a2, a3, a4, _⟩ := H27.out.step.cells
          obtain ⟨b0, b1, b2, b3, b4⟩ := H27.out.fcells
          go_wp2_with fail
          refine (add_any _ B tb (t ++ wordP k ++ (32 :: printL conn) ++ [32, 61] ++ data.flatMap shortP ++ (32 :: breakW) ++ (32 :: printL brk) ++ (32 :: keepW) ++ keep.flatMap (32 :: printL ·)) ⟨#[10]⟩ H27.out.wt H27.out.bsz HT27.out (by decide)).mono ?_
          intro e w28 h2
          have h2 : AddPost _ B tb (t ++ wordP k ++ (32 :: printL conn) ++ [32, 61] ++ data.flatMap shortP ++ (32 :: breakW) ++ (32 :: printL brk) ++ (32 :: keepW) ++ keep.flatMap (32 :: printL ·)) ([10]) e w28 := h2
          rcases H27.out.call h2 with ⟨rfl, hl, h3⟩ | ⟨hl, he, hkk⟩
          rotate_left
          · unfold pan at he
            subst he
            clear h2
            go_wp2_with fail
            exact ⟨rfl, hkk, .inr ⟨by rw [HL.out]; simp only [List.length_append] at hl ⊢; omega, rfl⟩⟩
          have H28 := hide h3
          have HT28 := hide hl
          clear h2 h3 hl a0 a1 a2 a3 a4 b0 b1 b2 b3 b4
          obtain ⟨a0, a1, a2, a3, a4, _⟩ := H28.out.step.cells
          obtain ⟨b0, b1, b2, b3, b4⟩ := H28.out.fcells
          go_wp2_with fail
          go_end0
          refine ⟨H28.out.kept, .inl ⟨?_, rfl, ?_⟩⟩
          · rw [HL.out]
            have h7 := HT28.out
            simp only [List.length_append] at h7 ⊢
            omega
          · rw [HL.out]
            have h7 := H28.out.wt
            simpa using h7
end Go.Proofs.YteaccpolmmkclaaDoor

namespace Go.Proofs.YteaccpolmmkclaaDoor
open Go.RowKit

set_option maxHeartbeats 8000000 in
set_option maxRecDepth 1000000 in
theorem wstep_C00 (D W : World) (B tb : Nat) (t L : Tx) (k : Nat) (conn : Int) (data : List UInt8) (ad ak : Option Addr) (cd ck : Nat) (bb bk : Bool) (hk : 1 ≤ k ∧ k ≤ 7) (T : Tabs W) (hw : WtAt W B tb t) (low : Below D.heap.size D W) (six : 6 ≤ B) (dB : D.heap.size ≤ B) (ht : t.length ≤ 1048576) (hf : FormAt W k false false bb bk) (hx : W.cell? ⟨0, k * 5, none⟩ = some (.string ⟨(wordP k).toArray⟩)) (hwl : (wordP k).length ≤ 100) (hd : IsBytes D ad cd data) (hL : L = wordP k ++ [10]) :
    Calls Tryd.prog 29 #[.pointer (some ⟨tb, 0, none⟩), .agg #[.int .i64 (k : Int), .int .i64 conn, .slice ad data.length cd, .int .i64 0, .slice ak 0 ck]] W (AddPost W B tb t L) := by
  obtain ⟨x, _, f1, f2, f3, f4⟩ := hf
  have hfl := T.lt.1
  have i1 : (0 : Int) ≤ (k : Int) := by omega
  have i2 : (k : Int) < 8 := by omega
  have h1 := WS.start D W B tb t hw T low six dB ⟨(wordP k).toArray⟩ (k : Int) conn 0 (.slice ad data.length cd) (.slice ak 0 ck) false false bb bk
  have g0 : Below W.heap.size W (W.alloc (.cells #[.int .i64 (k : Int), .int .i64 conn, .slice ad data.length cd, .int .i64 0, .slice ak 0 ck] 40)) := (Below.refl _ W).alloc (Nat.le_refl _) _
  have e0 := (g0.cell (p := ⟨0, k * 5, none⟩) hfl).trans hx
  have e1 := (g0.cell (p := ⟨0, k * 5 + 1, none⟩) hfl).trans f1
  have e2 := (g0.cell (p := ⟨0, k * 5 + 2, none⟩) hfl).trans f2
  have e3 := (g0.cell (p := ⟨0, k * 5 + 3, none⟩) hfl).trans f3
  have e4 := (g0.cell (p := ⟨0, k * 5 + 4, none⟩) hfl).trans f4
  have H1 := hide h1
  have HT1 := hide ht
  have HL := hide hL
  have HI := hide (And.intro hd True.intro)
  have hdl : data.length ≤ 9223372036854775807 := by have := hd.1; have := hd.2.1; unfold maxLen at this; omega
  have hnd : (0 : Int) ≤ (data.length : Int) := by omega
  clear f1 f2 f3 f4 hx T g0 h1 hw low hL hd
  have h0b : True := trivial
  go_enter Tryd.func29, Tryd.ntmps29
  go_wp2_with fail
  refine (add_any _ B tb (t) ⟨(wordP k).toArray⟩ H1.out.wt H1.out.bsz HT1.out (by simp [ByteArray.size]; omega)).mono ?_
  intro e w2 h2
  have h2 : AddPost _ B tb (t) (wordP k) e w2 := h2
  rcases H1.out.call h2 with ⟨rfl, hl, h3⟩ | ⟨hl, he, hkk⟩
  rotate_left
  · unfold pan at he
    subst he
    clear h2
    go_wp2_with fail
    exact ⟨rfl, hkk, .inr ⟨by rw [HL.out]; simp only [List.length_append] at hl ⊢; omega, rfl⟩⟩
  have H2 := hide h3
  have HT2 := hide hl
  clear h2 h3 hl e0 e1 e2 e3 e4
  obtain ⟨a0, a1, a2, a3, a4, _⟩ := H2.out.step.cells
  obtain ⟨b0, b1, b2, b3, b4⟩ := H2.out.fcells
  go_wp2_with fail
  go_loopg [57] 0 (fun gk i wr => i = .int .i64 0 ∧ Hid (WS D W wr B tb W.heap.size (W.heap.size + 1) (t ++ wordP k) (k : Int) conn 0 (.slice ad data.length cd) (.slice ak 0 ck) ⟨(wordP k).toArray⟩ false false bb bk) ∧ Hid ((t ++ wordP k).length ≤ 1048576))
  case atStart => exact ⟨rfl, H2, HT2⟩
  case round =>
    obtain ⟨rfl, HR, HTR⟩ := hrel
    clear a0 a1 a2 a3 a4 b0 b1 b2 b3 b4
    have H12 := HR
    have HT12 := HTR
    clear HR HTR
    obtain ⟨a0, a1, a2, a3, a4, _⟩ := H12.out.step.cells
    obtain ⟨b0, b1, b2, b3, b4⟩ := H12.out.fcells
    go_wp2_with fail
    refine (add_any _ B tb (t ++ wordP k) ⟨#[10]⟩ H12.out.wt H12.out.bsz HT12.out (by decide)).mono ?_
    intro e w13 h2
    have h2 : AddPost _ B tb (t ++ wordP k) ([10]) e w13 := h2
    rcases H12.out.call h2 with ⟨rfl, hl, h3⟩ | ⟨hl, he, hkk⟩
    rotate_left
    · unfold pan at he
      subst he
      clear h2
      go_wp2_with fail
      exact ⟨rfl, hkk, .inr ⟨by rw [HL.out]; simp only [List.length_append] at hl ⊢; omega, rfl⟩⟩
    have H13 := hide h3
    have HT13 := hide hl
    clear h2 h3 hl a0 a1 a2 a3 a4 b0 b1 b2 b3 b4
    obtain ⟨a0, a1, a2, a3, a4, _⟩ := H13.out.step.cells
    obtain ⟨b0, b1, b2, b3, b4⟩ := H13.out.fcells
    go_wp2_with fail
    go_end0
    refine ⟨H13.out.kept, .inl ⟨?_, rfl, ?_⟩⟩
    · rw [HL.out]
      have h7 := HT13.out
      simp only [List.length_append] at h7 ⊢
      omega
    · rw [HL.out]
      have h7 := H13.out.wt
      simpa using h7
end Go.Proofs.YteaccpolmmkclaaDoor

namespace Go.Proofs.YteaccpolmmkclaaDoor
open Go.RowKit

set_option maxHeartbeats 8000000 in
set_option maxRecDepth 1000000 in
theorem wstep_C01 (D W : World) (B tb : Nat) (t L : Tx) (k : Nat) (conn : Int) (data : List UInt8) (keep : List Int) (ad ak : Option Addr) (cd ck : Nat) (bb bk : Bool) (hk : 1 ≤ k ∧ k ≤ 7) (T : Tabs W) (hw : WtAt W B tb t) (low : Below D.heap.size D W) (six : 6 ≤ B) (dB : D.heap.size ≤ B) (ht : t.length ≤ 1048576) (hf : FormAt W k false false bb bk) (hx : W.cell? ⟨0, k * 5, none⟩ = some (.string ⟨(wordP k).toArray⟩)) (hwl : (wordP k).length ≤ 100) (hd : IsBytes D ad cd data) (hkp : IsInts D ak ck keep) (hn : ∀ n ∈ keep, 0 ≤ n ∧ n ≤ maxWord) (hke : keep ≠ []) (hL : L = wordP k ++ (32 :: keepW) ++ keep.flatMap (32 :: printL ·) ++ [10]) :
    Calls Tryd.prog 29 #[.pointer (some ⟨tb, 0, none⟩), .agg #[.int .i64 (k : Int), .int .i64 conn, .slice ad data.length cd, .int .i64 0, .slice ak keep.length ck]] W (AddPost W B tb t L) := by
  obtain ⟨x, _, f1, f2, f3, f4⟩ := hf
  have hfl := T.lt.1
  have i1 : (0 : Int) ≤ (k : Int) := by omega
  have i2 : (k : Int) < 8 := by omega
  have h1 := WS.start D W B tb t hw T low six dB ⟨(wordP k).toArray⟩ (k : Int) conn 0 (.slice ad data.length cd) (.slice ak keep.length ck) false false bb bk
  have g0 : Below W.heap.size W (W.alloc (.cells #[.int .i64 (k : Int), .int .i64 conn, .slice ad data.length cd, .int .i64 0, .slice ak keep.length ck] 40)) := (Below.refl _ W).alloc (Nat.le_refl _) _
  have e0 := (g0.cell (p := ⟨0, k * 5, none⟩) hfl).trans hx
  have e1 := (g0.cell (p := ⟨0, k * 5 + 1, none⟩) hfl).trans f1
  have e2 := (g0.cell (p := ⟨0, k * 5 + 2, none⟩) hfl).trans f2
  have e3 := (g0.cell (p := ⟨0, k * 5 + 3, none⟩) hfl).trans f3
  have e4 := (g0.cell (p := ⟨0, k * 5 + 4, none⟩) hfl).trans f4
  have H1 := hide h1
  have HT1 := hide ht
  have HL := hide hL
  have HI := hide (And.intro hd hkp)
  have HN := hide hn
  have hdl : data.length ≤ 9223372036854775807 := by have := hd.1; have := hd.2.1; unfold maxLen at this; omega
  have hkl : keep.length ≤ 9223372036854775807 := by have := hkp.1; have := hkp.2.1; unfold maxLen at this; omega
  have hnd : (0 : Int) ≤ (data.length : Int) := by omega
  clear f1 f2 f3 f4 hx T g0 h1 hw low hL hd hkp hn
  have h0b : True := trivial
  have hke0 : (0 : Int) < (keep.length : Int) := by have := List.length_pos_iff.2 hke; omega
  go_enter Tryd.func29, Tryd.ntmps29
  go_wp2_with fail
  refine (add_any _ B tb (t) ⟨(wordP k).toArray⟩ H1.out.wt H1.out.bsz HT1.out (by simp [ByteArray.size]; omega)).mono ?_
  intro e w2 h2
  have h2 : AddPost _ B tb (t) (wordP k) e w2 := h2
  rcases H1.out.call h2 with ⟨rfl, hl, h3⟩ | ⟨hl, he, hkk⟩
  rotate_left
  · unfold pan at he
    subst he
    clear h2
    go_wp2_with fail
    exact ⟨rfl, hkk, .inr ⟨by rw [HL.out]; simp only [List.length_append] at hl ⊢; omega, rfl⟩⟩
  have H2 := hide h3
  have HT2 := hide hl
  clear h2 h3 hl e0 e1 e2 e3 e4
  obtain ⟨a0, a1, a2, a3, a4, _⟩ := H2.out.step.cells
  obtain ⟨b0, b1, b2, b3, b4⟩ := H2.out.fcells
  go_wp2_with fail
  refine (word_anyW _ B tb (t ++ wordP k) ⟨#[107, 101, 101, 112]⟩ H2.out.wt H2.out.bsz HT2.out (by decide)).mono ?_
  intro e w3 h2
  have h2 : AddPost _ B tb (t ++ wordP k) ((32 :: keepW)) e w3 := h2
  rcases H2.out.call h2 with ⟨rfl, hl, h3⟩ | ⟨hl, he, hkk⟩
  rotate_left
  · unfold pan at he
    subst he
    clear h2
    go_wp2_with fail
    exact ⟨rfl, hkk, .inr ⟨by rw [HL.out]; simp only [List.length_append] at hl ⊢; omega, rfl⟩⟩
  have H3 := hide h3
  have HT3 := hide hl
  clear h2 h3 hl a0 a1 a2 a3 a4 b0 b1 b2 b3 b4
  obtain ⟨a0, a1, a2, a3, a4, _⟩ := H3.out.step.cells
  obtain ⟨b0, b1, b2, b3, b4⟩ := H3.out.fcells
  go_wp2_with fail
  go_loopg [57] keep.length (fun gk i wr => ∃ j : Nat, i = .int .i64 (j : Int) ∧ keep.length - j ≤ gk ∧ j ≤ keep.length ∧ Hid (WS D W wr B tb W.heap.size (W.heap.size + 1) (t ++ wordP k ++ (32 :: keepW) ++ (keep.take j).flatMap (32 :: printL ·)) (k : Int) conn 0 (.slice ad data.length cd) (.slice ak keep.length ck) ⟨(wordP k).toArray⟩ false false bb bk) ∧ Hid ((t ++ wordP k ++ (32 :: keepW) ++ (keep.take j).flatMap (32 :: printL ·)).length ≤ 1048576))
  case atStart => exact ⟨0, rfl, by omega, by omega, by simpa using H3, by simpa using HT3⟩
  case round =>
    obtain ⟨j, rfl, hgk, hj, HR, HTR⟩ := hrel
    clear a0 a1 a2 a3 a4 b0 b1 b2 b3 b4
    by_cases hlt : j < keep.length
    · have tlt : (j : Int) < (keep.length : Int) := by omega
      obtain ⟨y, hy⟩ : ∃ y, keep[j]? = some y := ⟨_, List.getElem?_eq_getElem hlt⟩
      have HF := hide (take_flat (32 :: printL ·) keep j y hy)
      have HF2 := hide (flat_le (32 :: printL ·) keep (j + 1))
      rcases HI.out.2.2.2 with h0 | ⟨bq, oq, e, hbq, hcq⟩
      · rw [h0] at hlt; simp at hlt
      subst e
      have cy : wr.cell? ⟨bq, oq + j, none⟩ = some (.int .i64 y) := (HR.out.low.cell (p := ⟨bq, oq + j, none⟩) hbq).trans (hcq j y hy)
      have hyb := HN.out y (List.mem_of_getElem? hy)
      clear hy hcq
      go_wp2_with fail
      refine (number_anyW wr B tb _ y HR.out.tabs HR.out.wt HR.out.bsz HTR.out hyb.1 hyb.2).mono ?_
      intro e w8 h2
      have h2 : AddPost wr B tb (t ++ wordP k ++ (32 :: keepW) ++ (keep.take j).flatMap (32 :: printL ·)) (32 :: printL y) e w8 := h2
      rcases HR.out.call h2 with ⟨rfl, hl, h3⟩ | ⟨hl, he, hkk⟩
      rotate_left
      · unfold pan at he
        subst he
        clear h2 cy
        go_wp2_with fail
        exact ⟨rfl, hkk, .inr ⟨by have h7 := HF2.out; rw [HF.out] at h7; rw [HL.out]; simp only [List.length_append] at hl h7 ⊢; omega, rfl⟩⟩
      have HF' := HF.out
      rw [List.append_assoc, ← HF'] at h3 hl
      have H8 := hide h3
      have HT8 := hide hl
      clear h2 h3 hl cy HF'
      go_wp2_with fail
      go_roundg (keep.length - (j + 1))
      case measure => omega
      case rel => exact ⟨j + 1, by go_num, Nat.le_refl _, hlt, H8, HT8⟩
    · have tlt : ¬ (j : Int) < (keep.length : Int) := by omega
      have e9 : keep.take j = keep := List.take_of_length_le (by omega)
      rw [e9] at HR HTR
      clear e9
      have H13 := HR
      have HT13 := HTR
      clear HR HTR
      obtain ⟨a0, a1, a2, a3, a4, _⟩ := H13.out.step.cells
      obtain ⟨b0, b1, b2, b3, b4⟩ := H13.out.fcells
      go_wp2_with fail
      refine (add_any _ B tb (t ++ wordP k ++ (32 :: keepW) ++ keep.flatMap (32 :: printL ·)) ⟨#[10]⟩ H13.out.wt H13.out.bsz HT13.out (by decide)).mono ?_
      intro e w14 h2
      have h2 : AddPost _ B tb (t ++ wordP k ++ (32 :: keepW) ++ keep.flatMap (32 :: printL ·)) ([10]) e w14 := h2
      rcases H13.out.call h2 with ⟨rfl, hl, h3⟩ | ⟨hl, he, hkk⟩
      rotate_left
      · unfold pan at he
        subst he
        clear h2
        go_wp2_with fail
        exact ⟨rfl, hkk, .inr ⟨by rw [HL.out]; simp only [List.length_append] at hl ⊢; omega, rfl⟩⟩
      have H14 := hide h3
      have HT14 := hide hl
      clear h2 h3 hl a0 a1 a2 a3 a4 b0 b1 b2 b3 b4
      obtain ⟨a0, a1, a2, a3, a4, _⟩ := H14.out.step.cells
      obtain ⟨b0, b1, b2, b3, b4⟩ := H14.out.fcells
      go_wp2_with fail
      go_end0
      refine ⟨H14.out.kept, .inl ⟨?_, rfl, ?_⟩⟩
      · rw [HL.out]
        have h7 := HT14.out
        simp only [List.length_append] at h7 ⊢
        omega
      · rw [HL.out]
        have h7 := H14.out.wt
        simpa using h7
end Go.Proofs.YteaccpolmmkclaaDoor

namespace Go.Proofs.YteaccpolmmkclaaDoor
open Go.RowKit

set_option maxHeartbeats 8000000 in
set_option maxRecDepth 1000000 in
theorem wstep_C10 (D W : World) (B tb : Nat) (t L : Tx) (k : Nat) (conn brk : Int) (data : List UInt8) (ad ak : Option Addr) (cd ck : Nat) (bb bk : Bool) (hk : 1 ≤ k ∧ k ≤ 7) (T : Tabs W) (hw : WtAt W B tb t) (low : Below D.heap.size D W) (six : 6 ≤ B) (dB : D.heap.size ≤ B) (ht : t.length ≤ 1048576) (hf : FormAt W k false false bb bk) (hx : W.cell? ⟨0, k * 5, none⟩ = some (.string ⟨(wordP k).toArray⟩)) (hwl : (wordP k).length ≤ 100) (hd : IsBytes D ad cd data) (hb : 0 < brk ∧ brk ≤ maxWord) (hL : L = wordP k ++ (32 :: breakW) ++ (32 :: printL brk) ++ [10]) :
    Calls Tryd.prog 29 #[.pointer (some ⟨tb, 0, none⟩), .agg #[.int .i64 (k : Int), .int .i64 conn, .slice ad data.length cd, .int .i64 brk, .slice ak 0 ck]] W (AddPost W B tb t L) := by
  obtain ⟨x, _, f1, f2, f3, f4⟩ := hf
  have hfl := T.lt.1
  have i1 : (0 : Int) ≤ (k : Int) := by omega
  have i2 : (k : Int) < 8 := by omega
  have h1 := WS.start D W B tb t hw T low six dB ⟨(wordP k).toArray⟩ (k : Int) conn brk (.slice ad data.length cd) (.slice ak 0 ck) false false bb bk
  have g0 : Below W.heap.size W (W.alloc (.cells #[.int .i64 (k : Int), .int .i64 conn, .slice ad data.length cd, .int .i64 brk, .slice ak 0 ck] 40)) := (Below.refl _ W).alloc (Nat.le_refl _) _
  have e0 := (g0.cell (p := ⟨0, k * 5, none⟩) hfl).trans hx
  have e1 := (g0.cell (p := ⟨0, k * 5 + 1, none⟩) hfl).trans f1
  have e2 := (g0.cell (p := ⟨0, k * 5 + 2, none⟩) hfl).trans f2
  have e3 := (g0.cell (p := ⟨0, k * 5 + 3, none⟩) hfl).trans f3
  have e4 := (g0.cell (p := ⟨0, k * 5 + 4, none⟩) hfl).trans f4
  have H1 := hide h1
  have HT1 := hide ht
  have HL := hide hL
  have HI := hide (And.intro hd True.intro)
  have hdl : data.length ≤ 9223372036854775807 := by have := hd.1; have := hd.2.1; unfold maxLen at this; omega
  have hnd : (0 : Int) ≤ (data.length : Int) := by omega
  clear f1 f2 f3 f4 hx T g0 h1 hw low hL hd
  have hb0 : (0 : Int) < brk := hb.1
  have h0b : True := trivial
  go_enter Tryd.func29, Tryd.ntmps29
  go_wp2_with fail
  refine (add_any _ B tb (t) ⟨(wordP k).toArray⟩ H1.out.wt H1.out.bsz HT1.out (by simp [ByteArray.size]; omega)).mono ?_
  intro e w2 h2
  have h2 : AddPost _ B tb (t) (wordP k) e w2 := h2
  rcases H1.out.call h2 with ⟨rfl, hl, h3⟩ | ⟨hl, he, hkk⟩
  rotate_left
  · unfold pan at he
    subst he
    clear h2
    go_wp2_with fail
    exact ⟨rfl, hkk, .inr ⟨by rw [HL.out]; simp only [List.length_append] at hl ⊢; omega, rfl⟩⟩
  have H2 := hide h3
  have HT2 := hide hl
  clear h2 h3 hl e0 e1 e2 e3 e4
  obtain ⟨a0, a1, a2, a3, a4, _⟩ := H2.out.step.cells
  obtain ⟨b0, b1, b2, b3, b4⟩ := H2.out.fcells
  go_wp2_with fail
  refine (word_anyW _ B tb (t ++ wordP k) ⟨#[98, 114, 101, 97, 107]⟩ H2.out.wt H2.out.bsz HT2.out (by decide)).mono ?_
  intro e w3 h2
  have h2 : AddPost _ B tb (t ++ wordP k) ((32 :: breakW)) e w3 := h2
  rcases H2.out.call h2 with ⟨rfl, hl, h3⟩ | ⟨hl, he, hkk⟩
  rotate_left
  · unfold pan at he
    subst he
    clear h2
    go_wp2_with fail
    exact ⟨rfl, hkk, .inr ⟨by rw [HL.out]; simp only [List.length_append] at hl ⊢; omega, rfl⟩⟩
  have H3 := hide h3
  have HT3 := hide hl
  clear h2 h3 hl a0 a1 a2 a3 a4 b0 b1 b2 b3 b4
  obtain ⟨a0, a1, a2, a3, a4, _⟩ := H3.out.step.cells
  obtain ⟨b0, b1, b2, b3, b4⟩ := H3.out.fcells
  go_wp2_with fail
  refine (number_anyW _ B tb (t ++ wordP k ++ (32 :: breakW)) brk H3.out.tabs H3.out.wt H3.out.bsz HT3.out (by omega) hb.2).mono ?_
  intro e w4 h2
  have h2 : AddPost _ B tb (t ++ wordP k ++ (32 :: breakW)) ((32 :: printL brk)) e w4 := h2
  rcases H3.out.call h2 with ⟨rfl, hl, h3⟩ | ⟨hl, he, hkk⟩
  rotate_left
  · unfold pan at he
    subst he
    clear h2
    go_wp2_with fail
    exact ⟨rfl, hkk, .inr ⟨by rw [HL.out]; simp only [List.length_append] at hl ⊢; omega, rfl⟩⟩
  have H4 := hide h3
  have HT4 := hide hl
  clear h2 h3 hl a0 a1 a2 a3 a4 b0 b1 b2 b3 b4
  obtain ⟨a0, a1, a2, a3, a4, _⟩ := H4.out.step.cells
  obtain ⟨b0, b1, b2, b3, b4⟩ := H4.out.fcells
  go_wp2_with fail
  go_loopg [57] 0 (fun gk i wr => i = .int .i64 0 ∧ Hid (WS D W wr B tb W.heap.size (W.heap.size + 1) (t ++ wordP k ++ (32 :: breakW) ++ (32 :: printL brk)) (k : Int) conn brk (.slice ad data.length cd) (.slice ak 0 ck) ⟨(wordP k).toArray⟩ false false bb bk) ∧ Hid ((t ++ wordP k ++ (32 :: breakW) ++ (32 :: printL brk)).length ≤ 1048576))
  case atStart => exact ⟨rfl, H4, HT4⟩
  case round =>
    obtain ⟨rfl, HR, HTR⟩ := hrel
    clear a0 a1 a2 a3 a4 b0 b1 b2 b3 b4
    have H14 := HR
    have HT14 := HTR
    clear HR HTR
    obtain ⟨a0, a1, a2, a3, a4, _⟩ := H14.out.step.cells
    obtain ⟨b0, b1, b2, b3, b4⟩ := H14.out.fcells
    go_wp2_with fail
    refine (add_any _ B tb (t ++ wordP k ++ (32 :: breakW) ++ (32 :: printL brk)) ⟨#[10]⟩ H14.out.wt H14.out.bsz HT14.out (by decide)).mono ?_
    intro e w15 h2
    have h2 : AddPost _ B tb (t ++ wordP k ++ (32 :: breakW) ++ (32 :: printL brk)) ([10]) e w15 := h2
    rcases H14.out.call h2 with ⟨rfl, hl, h3⟩ | ⟨hl, he, hkk⟩
    rotate_left
    · unfold pan at he
      subst he
      clear h2
      go_wp2_with fail
      exact ⟨rfl, hkk, .inr ⟨by rw [HL.out]; simp only [List.length_append] at hl ⊢; omega, rfl⟩⟩
    have H15 := hide h3
    have HT15 := hide hl
    clear h2 h3 hl a0 a1 a2 a3 a4 b0 b1 b2 b3 b4
    obtain ⟨a0, a1, a2, a3, a4, _⟩ := H15.out.step.cells
    obtain ⟨b0, b1, b2, b3, b4⟩ := H15.out.fcells
    go_wp2_with fail
    go_end0
    refine ⟨H15.out.kept, .inl ⟨?_, rfl, ?_⟩⟩
    · rw [HL.out]
      have h7 := HT15.out
      simp only [List.length_append] at h7 ⊢
      omega
    · rw [HL.out]
      have h7 := H15.out.wt
      simpa using h7
end Go.Proofs.YteaccpolmmkclaaDoor

namespace Go.Proofs.YteaccpolmmkclaaDoor
open Go.RowKit

set_option maxHeartbeats 8000000 in
set_option maxRecDepth 1000000 in
theorem wstep_C11 (D W : World) (B tb : Nat) (t L : Tx) (k : Nat) (conn brk : Int) (data : List UInt8) (keep : List Int) (ad ak : Option Addr) (cd ck : Nat) (bb bk : Bool) (hk : 1 ≤ k ∧ k ≤ 7) (T : Tabs W) (hw : WtAt W B tb t) (low : Below D.heap.size D W) (six : 6 ≤ B) (dB : D.heap.size ≤ B) (ht : t.length ≤ 1048576) (hf : FormAt W k false false bb bk) (hx : W.cell? ⟨0, k * 5, none⟩ = some (.string ⟨(wordP k).toArray⟩)) (hwl : (wordP k).length ≤ 100) (hd : IsBytes D ad cd data) (hkp : IsInts D ak ck keep) (hn : ∀ n ∈ keep, 0 ≤ n ∧ n ≤ maxWord) (hb : 0 < brk ∧ brk ≤ maxWord) (hke : keep ≠ []) (hL : L = wordP k ++ (32 :: breakW) ++ (32 :: printL brk) ++ (32 :: keepW) ++ keep.flatMap (32 :: printL ·) ++ [10]) :
    Calls Tryd.prog 29 #[.pointer (some ⟨tb, 0, none⟩), .agg #[.int .i64 (k : Int), .int .i64 conn, .slice ad data.length cd, .int .i64 brk, .slice ak keep.length ck]] W (AddPost W B tb t L) := by
  obtain ⟨x, _, f1, f2, f3, f4⟩ := hf
  have hfl := T.lt.1
  have i1 : (0 : Int) ≤ (k : Int) := by omega
  have i2 : (k : Int) < 8 := by omega
  have h1 := WS.start D W B tb t hw T low six dB ⟨(wordP k).toArray⟩ (k : Int) conn brk (.slice ad data.length cd) (.slice ak keep.length ck) false false bb bk
  have g0 : Below W.heap.size W (W.alloc (.cells #[.int .i64 (k : Int), .int .i64 conn, .slice ad data.length cd, .int .i64 brk, .slice ak keep.length ck] 40)) := (Below.refl _ W).alloc (Nat.le_refl _) _
  have e0 := (g0.cell (p := ⟨0, k * 5, none⟩) hfl).trans hx
  have e1 := (g0.cell (p := ⟨0, k * 5 + 1, none⟩) hfl).trans f1
  have e2 := (g0.cell (p := ⟨0, k * 5 + 2, none⟩) hfl).trans f2
  have e3 := (g0.cell (p := ⟨0, k * 5 + 3, none⟩) hfl).trans f3
  have e4 := (g0.cell (p := ⟨0, k * 5 + 4, none⟩) hfl).trans f4
  have H1 := hide h1
  have HT1 := hide ht
  have HL := hide hL
  have HI := hide (And.intro hd hkp)
  have HN := hide hn
  have hdl : data.length ≤ 9223372036854775807 := by have := hd.1; have := hd.2.1; unfold maxLen at this; omega
  have hkl : keep.length ≤ 9223372036854775807 := by have := hkp.1; have := hkp.2.1; unfold maxLen at this; omega
  have hnd : (0 : Int) ≤ (data.length : Int) := by omega
  clear f1 f2 f3 f4 hx T g0 h1 hw low hL hd hkp hn
  have hb0 : (0 : Int) < brk := hb.1
  have h0b : True := trivial
  have hke0 : (0 : Int) < (keep.length : Int) := by have := List.length_pos_iff.2 hke; omega
  go_enter Tryd.func29, Tryd.ntmps29
  go_wp2_with fail
  refine (add_any _ B tb (t) ⟨(wordP k).toArray⟩ H1.out.wt H1.out.bsz HT1.out (by simp [ByteArray.size]; omega)).mono ?_
  intro e w2 h2
  have h2 : AddPost _ B tb (t) (wordP k) e w2 := h2
  rcases H1.out.call h2 with ⟨rfl, hl, h3⟩ | ⟨hl, he, hkk⟩
  rotate_left
  · unfold pan at he
    subst he
    clear h2
    go_wp2_with fail
    exact ⟨rfl, hkk, .inr ⟨by rw [HL.out]; simp only [List.length_append] at hl ⊢; omega, rfl⟩⟩
  have H2 := hide h3
  have HT2 := hide hl
  clear h2 h3 hl e0 e1 e2 e3 e4
  obtain ⟨a0, a1, a2, a3, a4, _⟩ := H2.out.step.cells
  obtain ⟨b0, b1, b2, b3, b4⟩ := H2.out.fcells
  go_wp2_with fail
  refine (word_anyW _ B tb (t ++ wordP k) ⟨#[98, 114, 101, 97, 107]⟩ H2.out.wt H2.out.bsz HT2.out (by decide)).mono ?_
  intro e w3 h2
  have h2 : AddPost _ B tb (t ++ wordP k) ((32 :: breakW)) e w3 := h2
  rcases H2.out.call h2 with ⟨rfl, hl, h3⟩ | ⟨hl, he, hkk⟩
  rotate_left
  · unfold pan at he
    subst he
    clear h2
    go_wp2_with fail
    exact ⟨rfl, hkk, .inr ⟨by rw [HL.out]; simp only [List.length_append] at hl ⊢; omega, rfl⟩⟩
  have H3 := hide h3
  have HT3 := hide hl
  clear h2 h3 hl a0 a1 a2 a3 a4 b0 b1 b2 b3 b4
  obtain ⟨a0, a1, a2, a3, a4, _⟩ := H3.out.step.cells
  obtain ⟨b0, b1, b2, b3, b4⟩ := H3.out.fcells
  go_wp2_with fail
  refine (number_anyW _ B tb (t ++ wordP k ++ (32 :: breakW)) brk H3.out.tabs H3.out.wt H3.out.bsz HT3.out (by omega) hb.2).mono ?_
  intro e w4 h2
  have h2 : AddPost _ B tb (t ++ wordP k ++ (32 :: breakW)) ((32 :: printL brk)) e w4 := h2
  rcases H3.out.call h2 with ⟨rfl, hl, h3⟩ | ⟨hl, he, hkk⟩
  rotate_left
  · unfold pan at he
    subst he
    clear h2
    go_wp2_with fail
    exact ⟨rfl, hkk, .inr ⟨by rw [HL.out]; simp only [List.length_append] at hl ⊢; omega, rfl⟩⟩
  have H4 := hide h3
  have HT4 := hide hl
  clear h2 h3 hl a0 a1 a2 a3 a4 b0 b1 b2 b3 b4
  obtain ⟨a0, a1, a2, a3, a4, _⟩ := H4.out.step.cells
  obtain ⟨b0, b1, b2, b3, b4⟩ := H4.out.fcells
  go_wp2_with fail
  refine (word_anyW _ B tb (t ++ wordP k ++ (32 :: breakW) ++ (32 :: printL brk)) ⟨#[107, 101, 101, 112]⟩ H4.out.wt H4.out.bsz HT4.out (by decide)).mono ?_
  intro e w5 h2
  have h2 : AddPost _ B tb (t ++ wordP k ++ (32 :: breakW) ++ (32 :: printL brk)) ((32 :: keepW)) e w5 := h2
  rcases H4.out.call h2 with ⟨rfl, hl, h3⟩ | ⟨hl, he, hkk⟩
  rotate_left
  · unfold pan at he
    subst he
    clear h2
    go_wp2_with fail
    exact ⟨rfl, hkk, .inr ⟨by rw [HL.out]; simp only [List.length_append] at hl ⊢; omega, rfl⟩⟩
  have H5 := hide h3
  have HT5 := hide hl
  clear h2 h3 hl a0 a1 a2 a3 a4 b0 b1 b2 b3 b4
  obtain ⟨a0, a1, a2, a3, a4, _⟩ := H5.out.step.cells
  obtain ⟨b0, b1, b2, b3, b4⟩ := H5.out.fcells
  go_wp2_with fail
  go_loopg [57] keep.length (fun gk i wr => ∃ j : Nat, i = .int .i64 (j : Int) ∧ keep.length - j ≤ gk ∧ j ≤ keep.length ∧ Hid (WS D W wr B tb W.heap.size (W.heap.size + 1) (t ++ wordP k ++ (32 :: breakW) ++ (32 :: printL brk) ++ (32 :: keepW) ++ (keep.take j).flatMap (32 :: printL ·)) (k : Int) conn brk (.slice ad data.length cd) (.slice ak keep.length ck) ⟨(wordP k).toArray⟩ false false bb bk) ∧ Hid ((t ++ wordP k ++ (32 :: breakW) ++ (32 :: printL brk) ++ (32 :: keepW) ++ (keep.take j).flatMap (32 :: printL ·)).length ≤ 1048576))
  case atStart => exact ⟨0, rfl, by omega, by omega, by simpa using H5, by simpa using HT5⟩
  case round =>
    obtain ⟨j, rfl, hgk, hj, HR, HTR⟩ := hrel
    clear a0 a1 a2 a3 a4 b0 b1 b2 b3 b4
    by_cases hlt : j < keep.length
    · have tlt : (j : Int) < (keep.length : Int) := by omega
      obtain ⟨y, hy⟩ : ∃ y, keep[j]? = some y := ⟨_, List.getElem?_eq_getElem hlt⟩
      have HF := hide (take_flat (32 :: printL ·) keep j y hy)
      have HF2 := hide (flat_le (32 :: printL ·) keep (j + 1))
      rcases HI.out.2.2.2 with h0 | ⟨bq, oq, e, hbq, hcq⟩
      · rw [h0] at hlt; simp at hlt
      subst e
      have cy : wr.cell? ⟨bq, oq + j, none⟩ = some (.int .i64 y) := (HR.out.low.cell (p := ⟨bq, oq + j, none⟩) hbq).trans (hcq j y hy)
      have hyb := HN.out y (List.mem_of_getElem? hy)
      clear hy hcq
      go_wp2_with fail
      refine (number_anyW wr B tb _ y HR.out.tabs HR.out.wt HR.out.bsz HTR.out hyb.1 hyb.2).mono ?_
      intro e w8 h2
      have h2 : AddPost wr B tb (t ++ wordP k ++ (32 :: breakW) ++ (32 :: printL brk) ++ (32 :: keepW) ++ (keep.take j).flatMap (32 :: printL ·)) (32 :: printL y) e w8 := h2
      rcases HR.out.call h2 with ⟨rfl, hl, h3⟩ | ⟨hl, he, hkk⟩
      rotate_left
      · unfold pan at he
        subst he
        clear h2 cy
        go_wp2_with fail
        exact ⟨rfl, hkk, .inr ⟨by have h7 := HF2.out; rw [HF.out] at h7; rw [HL.out]; simp only [List.length_append] at hl h7 ⊢; omega, rfl⟩⟩
      have HF' := HF.out
      rw [List.append_assoc, ← HF'] at h3 hl
      have H8 := hide h3
      have HT8 := hide hl
      clear h2 h3 hl cy HF'
      go_wp2_with fail
      go_roundg (keep.length - (j + 1))
      case measure => omega
      case rel => exact ⟨j + 1, by go_num, Nat.le_refl _, hlt, H8, HT8⟩
    · have tlt : ¬ (j : Int) < (keep.length : Int) := by omega
      have e9 : keep.take j = keep := List.take_of_length_le (by omega)
      rw [e9] at HR HTR
      clear e9
      have H15 := HR
      have HT15 := HTR
      clear HR HTR
      obtain ⟨a0, a1, a2, a3, a4, _⟩ := H15.out.step.cells
      obtain ⟨b0, b1, b2, b3, b4⟩ := H15.out.fcells
      go_wp2_with fail
      refine (add_any _ B tb (t ++ wordP k ++ (32 :: breakW) ++ (32 :: printL brk) ++ (32 :: keepW) ++ keep.flatMap (32 :: printL ·)) ⟨#[10]⟩ H15.out.wt H15.out.bsz HT15.out (by decide)).mono ?_
      intro e w16 h2
      have h2 : AddPost _ B tb (t ++ wordP k ++ (32 :: breakW) ++ (32 :: printL brk) ++ (32 :: keepW) ++ keep.flatMap (32 :: printL ·)) ([10]) e w16 := h2
      rcases H15.out.call h2 with ⟨rfl, hl, h3⟩ | ⟨hl, he, hkk⟩
      rotate_left
      · unfold pan at he
        subst he
        clear h2
        go_wp2_with fail
        exact ⟨rfl, hkk, .inr ⟨by rw [HL.out]; simp only [List.length_append] at hl ⊢; omega, rfl⟩⟩
      have H16 := hide h3
      have HT16 := hide hl
      clear h2 h3 hl a0 a1 a2 a3 a4 b0 b1 b2 b3 b4
      obtain ⟨a0, a1, a2, a3, a4, _⟩ := H16.out.step.cells
      obtain ⟨b0, b1, b2, b3, b4⟩ := H16.out.fcells
      go_wp2_with fail
      go_end0
      refine ⟨H16.out.kept, .inl ⟨?_, rfl, ?_⟩⟩
      · rw [HL.out]
        have h7 := HT16.out
        simp only [List.length_append] at h7 ⊢
        omega
      · rw [HL.out]
        have h7 := H16.out.wt
        simpa using h7
end Go.Proofs.YteaccpolmmkclaaDoor
