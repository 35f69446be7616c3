/-
  WStA00, WStA01, WStA10, WStA11.
-/
import Derived.Test.YtpfbfkjmdlogcaaDoorWSL
namespace Go.Proofs.YtpfbfkjmdlogcaaDoor
open Go.RowKit

set_option maxHeartbeats 8000000 in
set_option maxRecDepth 1000000 in
theorem wstep_A00 (D W : World) (B tb : Nat) (t L : Tx) (k : Nat) (conn : Int) (data : List UInt8) (ad ak : Option Addr) (cd ck : Nat) (bb bk : Bool) (hk : 1 ≤ k ∧ k ≤ 7) (T : Tabs W) (hw : WtAt W B tb t) (low : Below D.heap.size D W) (six : 6 ≤ B) (dB : D.heap.size ≤ B) (ht : t.length ≤ 1048576) (hf : FormAt W k true false bb bk) (hx : W.cell? ⟨0, k * 5, none⟩ = some (.string ⟨(wordP k).toArray⟩)) (hwl : (wordP k).length ≤ 100) (hd : IsBytes D ad cd data) (hc : 0 ≤ conn ∧ conn ≤ maxWord) (hL : L = wordP k ++ (32 :: printL conn) ++ [10]) :
    Calls Tryd.prog 37 #[.pointer (some ⟨tb, 0, none⟩), .agg #[.int .i64 (k : Int), .int .i64 conn, .slice ad data.length cd, .int .i64 0, .slice ak 0 ck]] W (AddPost W B tb t L) := by
  obtain ⟨x, _, f1, f2, f3, f4⟩ := hf
  have hfl := T.lt.1
  have i1 : (0 : Int) ≤ (k : Int) := by omega
  have i2 : (k : Int) < 8 := by omega
  have h1 := WS.start D W B tb t hw T low six dB ⟨(wordP k).toArray⟩ (k : Int) conn 0 (.slice ad data.length cd) (.slice ak 0 ck) true false bb bk
  have g0 : Below W.heap.size W (W.alloc (.cells #[.int .i64 (k : Int), .int .i64 conn, .slice ad data.length cd, .int .i64 0, .slice ak 0 ck] 44)) := (Below.refl _ W).alloc (Nat.le_refl _) _
  have e0 := (g0.cell (p := ⟨0, k * 5, none⟩) hfl).trans hx
  have e1 := (g0.cell (p := ⟨0, k * 5 + 1, none⟩) hfl).trans f1
  have e2 := (g0.cell (p := ⟨0, k * 5 + 2, none⟩) hfl).trans f2
  have e3 := (g0.cell (p := ⟨0, k * 5 + 3, none⟩) hfl).trans f3
  have e4 := (g0.cell (p := ⟨0, k * 5 + 4, none⟩) hfl).trans f4
  have H1 := hide h1
  have HT1 := hide ht
  have HL := hide hL
  have HI := hide (And.intro hd True.intro)
  have hdl : data.length ≤ 9223372036854775807 := by have := hd.1; have := hd.2.1; unfold maxLen at this; omega
  have hnd : (0 : Int) ≤ (data.length : Int) := by omega
  clear f1 f2 f3 f4 hx T g0 h1 hw low hL hd
  have h0b : True := trivial
  go_enter Tryd.func37, Tryd.ntmps37
  go_wp2_with fail
  refine (add_any _ B tb (t) ⟨(wordP k).toArray⟩ H1.out.wt H1.out.bsz HT1.out (by simp [ByteArray.size]; omega)).mono ?_
  intro e w2 h2
  have h2 : AddPost _ B tb (t) (wordP k) e w2 := h2
  rcases H1.out.call h2 with ⟨rfl, hl, h3⟩ | ⟨hl, he, hkk⟩
  rotate_left
  · unfold pan at he
    subst he
    clear h2
    go_wp2_with fail
    exact ⟨rfl, hkk, .inr ⟨by rw [HL.out]; simp only [List.length_append] at hl ⊢; omega, rfl⟩⟩
  have H2 := hide h3
  have HT2 := hide hl
  clear h2 h3 hl e0 e1 e2 e3 e4
  obtain ⟨a0, a1, a2, a3, a4, _⟩ := H2.out.step.cells
  obtain ⟨b0, b1, b2, b3, b4⟩ := H2.out.fcells
  go_wp2_with fail
  refine (number_anyW _ B tb (t ++ wordP k) conn H2.out.tabs H2.out.wt H2.out.bsz HT2.out hc.1 hc.2).mono ?_
  intro e w3 h2
  have h2 : AddPost _ B tb (t ++ wordP k) ((32 :: printL conn)) e w3 := h2
  rcases H2.out.call h2 with ⟨rfl, hl, h3⟩ | ⟨hl, he, hkk⟩
  rotate_left
  · unfold pan at he
    subst he
    clear h2
    go_wp2_with fail
    exact ⟨rfl, hkk, .inr ⟨by rw [HL.out]; simp only [List.length_append] at hl ⊢; omega, rfl⟩⟩
  have H3 := hide h3
  have HT3 := hide hl
  clear h2 h3 hl a0 a1 a2 a3 a4 b0 b1 b2 b3 b4
  obtain ⟨a0, a1, a2, a3, a4, _⟩ := H3.out.step.cells
  obtain ⟨b0, b1, b2, b3, b4⟩ := H3.out.fcells
  go_wp2_with fail
  go_loopg [57] 0 (fun gk i wr => i = .int .i64 0 ∧ Hid (WS D W wr B tb W.heap.size (W.heap.size + 1) (t ++ wordP k ++ (32 :: printL conn)) (k : Int) conn 0 (.slice ad data.length cd) (.slice ak 0 ck) ⟨(wordP k).toArray⟩ true false bb bk) ∧ Hid ((t ++ wordP k ++ (32 :: printL conn)).length ≤ 1048576))
  case atStart => exact ⟨rfl, H3, HT3⟩
  case round =>
    obtain ⟨rfl, HR, HTR⟩ := hrel
    clear a0 a1 a2 a3 a4 b0 b1 b2 b3 b4
    have H13 := HR
    have HT13 := HTR
    clear HR HTR
    obtain ⟨a0, a1, a2, a3, a4, _⟩ := H13.out.step.cells
    obtain ⟨b0, b1, b2, b3, b4⟩ := H13.out.fcells
    go_wp2_with fail
    refine (add_any _ B tb (t ++ wordP k ++ (32 :: printL conn)) ⟨#[10]⟩ H13.out.wt H13.out.bsz HT13.out (by decide)).mono ?_
    intro e w14 h2
    have h2 : AddPost _ B tb (t ++ wordP k ++ (32 :: printL conn)) ([10]) e w14 := h2
    rcases H13.out.call h2 with ⟨rfl, hl, h3⟩ | ⟨hl, he, hkk⟩
    rotate_left
    · unfold pan at he
      subst he
      clear h2
      go_wp2_with fail
      exact ⟨rfl, hkk, .inr ⟨by rw [HL.out]; simp only [List.length_append] at hl ⊢; omega, rfl⟩⟩
    have H14 := hide h3
    have HT14 := hide hl
    clear h2 h3 hl a0 a1 a2 a3 a4 b0 b1 b2 b3 b4
    obtain ⟨a0, a1, a2, a3, a4, _⟩ := H14.out.step.cells
    obtain ⟨b0, b1, b2, b3, b4⟩ := H14.out.fcells
    go_wp2_with fail
    go_end0
    refine ⟨H14.out.kept, .inl ⟨?_, rfl, ?_⟩⟩
    · rw [HL.out]
      have h7 := HT14.out
      simp only [List.length_append] at h7 ⊢
      omega
    · rw [HL.out]
      have h7 := H14.out.wt
      simpa using h7
end Go.Proofs.YtpfbfkjmdlogcaaDoor

namespace Go.Proofs.YtpfbfkjmdlogcaaDoor
open Go.RowKit

set_option maxHeartbeats 8000000 in
set_option maxRecDepth 1000000 in
theorem wstep_A01 (D W : World) (B tb : Nat) (t L : Tx) (k : Nat) (conn : Int) (data : List UInt8) (keep : List Int) (ad ak : Option Addr) (cd ck : Nat) (bb bk : Bool) (hk : 1 ≤ k ∧ k ≤ 7) (T : Tabs W) (hw : WtAt W B tb t) (low : Below D.heap.size D W) (six : 6 ≤ B) (dB : D.heap.size ≤ B) (ht : t.length ≤ 1048576) (hf : FormAt W k true false bb bk) (hx : W.cell? ⟨0, k * 5, none⟩ = some (.string ⟨(wordP k).toArray⟩)) (hwl : (wordP k).length ≤ 100) (hd : IsBytes D ad cd data) (hkp : IsInts D ak ck keep) (hn : ∀ n ∈ keep, 0 ≤ n ∧ n ≤ maxWord) (hc : 0 ≤ conn ∧ conn ≤ maxWord) (hke : keep ≠ []) (hL : L = wordP k ++ (32 :: printL conn) ++ (32 :: keepW) ++ keep.flatMap (32 :: printL ·) ++ [10]) :
    Calls Tryd.prog 37 #[.pointer (some ⟨tb, 0, none⟩), .agg #[.int .i64 (k : Int), .int .i64 conn, .slice ad data.length cd, .int .i64 0, .slice ak keep.length ck]] W (AddPost W B tb t L) := by
  obtain ⟨x, _, f1, f2, f3, f4⟩ := hf
  have hfl := T.lt.1
  have i1 : (0 : Int) ≤ (k : Int) := by omega
  have i2 : (k : Int) < 8 := by omega
  have h1 := WS.start D W B tb t hw T low six dB ⟨(wordP k).toArray⟩ (k : Int) conn 0 (.slice ad data.length cd) (.slice ak keep.length ck) true false bb bk
  have g0 : Below W.heap.size W (W.alloc (.cells #[.int .i64 (k : Int), .int .i64 conn, .slice ad data.length cd, .int .i64 0, .slice ak keep.length ck] 44)) := (Below.refl _ W).alloc (Nat.le_refl _) _
  have e0 := (g0.cell (p := ⟨0, k * 5, none⟩) hfl).trans hx
  have e1 := (g0.cell (p := ⟨0, k * 5 + 1, none⟩) hfl).trans f1
  have e2 := (g0.cell (p := ⟨0, k * 5 + 2, none⟩) hfl).trans f2
  have e3 := (g0.cell (p := ⟨0, k * 5 + 3, none⟩) hfl).trans f3
  have e4 := (g0.cell (p := ⟨0, k * 5 + 4, none⟩) hfl).trans f4
  have H1 := hide h1
  have HT1 := hide ht
  have HL := hide hL
  have HI := hide (And.intro hd hkp)
  have HN := hide hn
  have hdl : data.length ≤ 9223372036854775807 := by have := hd.1; have := hd.2.1; unfold maxLen at this; omega
  have hkl : keep.length ≤ 9223372036854775807 := by have := hkp.1; have := hkp.2.1; unfold maxLen at this; omega
  have hnd : (0 : Int) ≤ (data.length : Int) := by omega
  clear f1 f2 f3 f4 hx T g0 h1 hw low hL hd hkp hn
  have h0b : True := trivial
  have hke0 : (0 : Int) < (keep.length : Int) := by have := List.length_pos_iff.2 hke; omega
  go_enter Tryd.func37, Tryd.ntmps37
  go_wp2_with fail
  refine (add_any _ B tb (t) ⟨(wordP k).toArray⟩ H1.out.wt H1.out.bsz HT1.out (by simp [ByteArray.size]; omega)).mono ?_
  intro e w2 h2
  have h2 : AddPost _ B tb (t) (wordP k) e w2 := h2
  rcases H1.out.call h2 with ⟨rfl, hl, h3⟩ | ⟨hl, he, hkk⟩
  rotate_left
  · unfold pan at he
    subst he
    clear h2
    go_wp2_with fail
    exact ⟨rfl, hkk, .inr ⟨by rw [HL.out]; simp only [List.length_append] at hl ⊢; omega, rfl⟩⟩
  have H2 := hide h3
  have HT2 := hide hl
  clear h2 h3 hl e0 e1 e2 e3 e4
  obtain ⟨a0, a1, a2, a3, a4, _⟩ := H2.out.step.cells
  obtain ⟨b0, b1, b2, b3, b4⟩ := H2.out.fcells
  go_wp2_with fail
  refine (number_anyW _ B tb (t ++ wordP k) conn H2.out.tabs H2.out.wt H2.out.bsz HT2.out hc.1 hc.2).mono ?_
  intro e w3 h2
  have h2 : AddPost _ B tb (t ++ wordP k) ((32 :: printL conn)) e w3 := h2
  rcases H2.out.call h2 with ⟨rfl, hl, h3⟩ | ⟨hl, he, hkk⟩
  rotate_left
  · unfold pan at he
    subst he
    clear h2
    go_wp2_with fail
    exact ⟨rfl, hkk, .inr ⟨by rw [HL.out]; simp only [List.length_append] at hl ⊢; omega, rfl⟩⟩
  have H3 := hide h3
  have HT3 := hide hl
  clear h2 h3 hl a0 a1 a2 a3 a4 b0 b1 b2 b3 b4
  obtain ⟨a0, a1, a2, a3, a4, _⟩ := H3.out.step.cells
  obtain ⟨b0, b1, b2, b3, b4⟩ := H3.out.fcells
  go_wp2_with fail
  refine (word_anyW _ B tb (t ++ wordP k ++ (32 :: printL conn)) ⟨#[107, 101, 101, 112]⟩ H3.out.wt H3.out.bsz HT3.out (by decide)).mono ?_
  intro e w4 h2
  have h2 : AddPost _ B tb (t ++ wordP k ++ (32 :: printL conn)) ((32 :: keepW)) e w4 := h2
  rcases H3.out.call h2 with ⟨rfl, hl, h3⟩ | ⟨hl, he, hkk⟩
  rotate_left
  · unfold pan at he
    subst he
    clear h2
    go_wp2_with fail
    exact ⟨rfl, hkk, .inr ⟨by rw [HL.out]; simp only [List.length_append] at hl ⊢; omega, rfl⟩⟩
  have H4 := hide h3
  have HT4 := hide hl
  clear h2 h3 hl a0 a1 a2 a3 a4 b0 b1 b2 b3 b4
  obtain ⟨a0, a1, a2, a3, a4, _⟩ := H4.out.step.cells
  obtain ⟨b0, b1, b2, b3, b4⟩ := H4.out.fcells
  go_wp2_with fail
  go_loopg [57] keep.length (fun gk i wr => ∃ j : Nat, i = .int .i64 (j : Int) ∧ keep.length - j ≤ gk ∧ j ≤ keep.length ∧ Hid (WS D W wr B tb W.heap.size (W.heap.size + 1) (t ++ wordP k ++ (32 :: printL conn) ++ (32 :: keepW) ++ (keep.take j).flatMap (32 :: printL ·)) (k : Int) conn 0 (.slice ad data.length cd) (.slice ak keep.length ck) ⟨(wordP k).toArray⟩ true false bb bk) ∧ Hid ((t ++ wordP k ++ (32 :: printL conn) ++ (32 :: keepW) ++ (keep.take j).flatMap (32 :: printL ·)).length ≤ 1048576))
  case atStart => exact ⟨0, rfl, by omega, by omega, by simpa using H4, by simpa using HT4⟩
  case round =>
    obtain ⟨j, rfl, hgk, hj, HR, HTR⟩ := hrel
    clear a0 a1 a2 a3 a4 b0 b1 b2 b3 b4
    by_cases hlt : j < keep.length
    · have tlt : (j : Int) < (keep.length : Int) := by omega
      obtain ⟨y, hy⟩ : ∃ y, keep[j]? = some y := ⟨_, List.getElem?_eq_getElem hlt⟩
      have HF := hide (take_flat (32 :: printL ·) keep j y hy)
      have HF2 := hide (flat_le (32 :: printL ·) keep (j + 1))
      rcases HI.out.2.2.2 with h0 | ⟨bq, oq, e, hbq, hcq⟩
      · rw [h0] at hlt; simp at hlt
      subst e
      have cy : wr.cell? ⟨bq, oq + j, none⟩ = some (.int .i64 y) := (HR.out.low.cell (p := ⟨bq, oq + j, none⟩) hbq).trans (hcq j y hy)
      have hyb := HN.out y (List.mem_of_getElem? hy)
      clear hy hcq
      go_wp2_with fail
      refine (number_anyW wr B tb _ y HR.out.tabs HR.out.wt HR.out.bsz HTR.out hyb.1 hyb.2).mono ?_
      intro e w8 h2
      have h2 : AddPost wr B tb (t ++ wordP k ++ (32 :: printL conn) ++ (32 :: keepW) ++ (keep.take j).flatMap (32 :: printL ·)) (32 :: printL y) e w8 := h2
      rcases HR.out.call h2 with ⟨rfl, hl, h3⟩ | ⟨hl, he, hkk⟩
      rotate_left
      · unfold pan at he
        subst he
        clear h2 cy
        go_wp2_with fail
        exact ⟨rfl, hkk, .inr ⟨by have h7 := HF2.out; rw [HF.out] at h7; rw [HL.out]; simp only [List.length_append] at hl h7 ⊢; omega, rfl⟩⟩
      have HF' := HF.out
      rw [List.append_assoc, ← HF'] at h3 hl
      have H8 := hide h3
      have HT8 := hide hl
      clear h2 h3 hl cy HF'
      go_wp2_with fail
      go_roundg (keep.length - (j + 1))
      case measure => omega
      case rel => exact ⟨j + 1, by go_num, Nat.le_refl _, hlt, H8, HT8⟩
    · have tlt : ¬ (j : Int) < (keep.length : Int) := by omega
      have e9 : keep.take j = keep := List.take_of_length_le (by omega)
      rw [e9] at HR HTR
      clear e9
      have H14 := HR
      have HT14 := HTR
      clear HR HTR
      obtain ⟨a0, a1, a2, a3, a4, _⟩ := H14.out.step.cells
      obtain ⟨b0, b1, b2, b3, b4⟩ := H14.out.fcells
      go_wp2_with fail
      refine (add_any _ B tb (t ++ wordP k ++ (32 :: printL conn) ++ (32 :: keepW) ++ keep.flatMap (32 :: printL ·)) ⟨#[10]⟩ H14.out.wt H14.out.bsz HT14.out (by decide)).mono ?_
      intro e w15 h2
      have h2 : AddPost _ B tb (t ++ wordP k ++ (32 :: printL conn) ++ (32 :: keepW) ++ keep.flatMap (32 :: printL ·)) ([10]) e w15 := h2
      rcases H14.out.call h2 with ⟨rfl, hl, h3⟩ | ⟨hl, he, hkk⟩
      rotate_left
      · unfold pan at he
        subst he
        clear h2
        go_wp2_with fail
        exact ⟨rfl, hkk, .inr ⟨by rw [HL.out]; simp only [List.length_append] at hl ⊢; omega, rfl⟩⟩
      have H15 := hide h3
      have HT15 := hide hl
      clear h2 h3 hl a0 a1 a2 a3 a4 b0 b1 b2 b3 b4
      obtain ⟨a0, a1, a2, a3, a4, _⟩ := H15.out.step.cells
      obtain ⟨b0, b1, b2, b3, b4⟩ := H15.out.fcells
      go_wp2_with fail
      go_end0
      refine ⟨H15.out.kept, .inl ⟨?_, rfl, ?_⟩⟩
      · rw [HL.out]
        have h7 := HT15.out
        simp only [List.length_append] at h7 ⊢
        omega
      · rw [HL.out]
        have h7 := H15.out.wt
        simpa using h7
end Go.Proofs.YtpfbfkjmdlogcaaDoor

namespace Go.Proofs.YtpfbfkjmdlogcaaDoor
open Go.RowKit

set_option maxHeartbeats 8000000 in
set_option maxRecDepth 1000000 in
theorem wstep_A10 (D W : World) (B tb : Nat) (t L : Tx) (k : Nat) (conn brk : Int) (data : List UInt8) (ad ak : Option Addr) (cd ck : Nat) (bb bk : Bool) (hk : 1 ≤ k ∧ k ≤ 7) (T : Tabs W) (hw : WtAt W B tb t) (low : Below D.heap.size D W) (six : 6 ≤ B) (dB : D.heap.size ≤ B) (ht : t.length ≤ 1048576) (hf : FormAt W k true false bb bk) (hx : W.cell? ⟨0, k * 5, none⟩ = some (.string ⟨(wordP k).toArray⟩)) (hwl : (wordP k).length ≤ 100) (hd : IsBytes D ad cd data) (hc : 0 ≤ conn ∧ conn ≤ maxWord) (hb : 0 < brk ∧ brk ≤ maxWord) (hL : L = wordP k ++ (32 :: printL conn) ++ (32 :: breakW) ++ (32 :: printL brk) ++ [10]) :
    Calls Tryd.prog 37 #[.pointer (some ⟨tb, 0, none⟩), .agg #[.int .i64 (k : Int), .int .i64 conn, .slice ad data.length cd, .int .i64 brk, .slice ak 0 ck]] W (AddPost W B tb t L) := by
  obtain ⟨x, _, f1, f2, f3, f4⟩ := hf
  have hfl := T.lt.1
  have i1 : (0 : Int) ≤ (k : Int) := by omega
  have i2 : (k : Int) < 8 := by omega
  have h1 := WS.start D W B tb t hw T low six dB ⟨(wordP k).toArray⟩ (k : Int) conn brk (.slice ad data.length cd) (.slice ak 0 ck) true false bb bk
  have g0 : Below W.heap.size W (W.alloc (.cells #[.int .i64 (k : Int), .int .i64 conn, .slice ad data.length cd, .int .i64 brk, .slice ak 0 ck] 44)) := (Below.refl _ W).alloc (Nat.le_refl _) _
  have e0 := (g0.cell (p := ⟨0, k * 5, none⟩) hfl).trans hx
  have e1 := (g0.cell (p := ⟨0, k * 5 + 1, none⟩) hfl).trans f1
  have e2 := (g0.cell (p := ⟨0, k * 5 + 2, none⟩) hfl).trans f2
  have e3 := (g0.cell (p := ⟨0, k * 5 + 3, none⟩) hfl).trans f3
  have e4 := (g0.cell (p := ⟨0, k * 5 + 4, none⟩) hfl).trans f4
  have H1 := hide h1
  have HT1 := hide ht
  have HL := hide hL
  have HI := hide (And.intro hd True.intro)
  have hdl : data.length ≤ 9223372036854775807 := by have := hd.1; have := hd.2.1; unfold maxLen at this; omega
  have hnd : (0 : Int) ≤ (data.length : Int) := by omega
  clear f1 f2 f3 f4 hx T g0 h1 hw low hL hd
  have hb0 : (0 : Int) < brk := hb.1
  have h0b : True := trivial
  go_enter Tryd.func37, Tryd.ntmps37
  go_wp2_with fail
  refine (add_any _ B tb (t) ⟨(wordP k).toArray⟩ H1.out.wt H1.out.bsz HT1.out (by simp [ByteArray.size]; omega)).mono ?_
  intro e w2 h2
  have h2 : AddPost _ B tb (t) (wordP k) e w2 := h2
  rcases H1.out.call h2 with ⟨rfl, hl, h3⟩ | ⟨hl, he, hkk⟩
  rotate_left
  · unfold pan at he
    subst he
    clear h2
    go_wp2_with fail
    exact ⟨rfl, hkk, .inr ⟨by rw [HL.out]; simp only [List.length_append] at hl ⊢; omega, rfl⟩⟩
  have H2 := hide h3
  have HT2 := hide hl
  clear h2 h3 hl e0 e1 e2 e3 e4
  obtain ⟨a0, a1, a2, a3, a4, _⟩ := H2.out.step.cells
  obtain ⟨b0, b1, b2, b3, b4⟩ := H2.out.fcells
  go_wp2_with fail
  refine (number_anyW _ B tb (t ++ wordP k) conn H2.out.tabs H2.out.wt H2.out.bsz HT2.out hc.1 hc.2).mono ?_
  intro e w3 h2
  have h2 : AddPost _ B tb (t ++ wordP k) ((32 :: printL conn)) e w3 := h2
  rcases H2.out.call h2 with ⟨rfl, hl, h3⟩ | ⟨hl, he, hkk⟩
  rotate_left
  · unfold pan at he
    subst he
    clear h2
    go_wp2_with fail
    exact ⟨rfl, hkk, .inr ⟨by rw [HL.out]; simp only [List.length_append] at hl ⊢; omega, rfl⟩⟩
  have H3 := hide h3
  have HT3 := hide hl
  clear h2 h3 hl a0 a1 a2 a3 a4 b0 b1 b2 b3 b4
  obtain ⟨a0, a1, a2, a3, a4, _⟩ := H3.out.step.cells
  obtain ⟨b0, b1, b2, b3, b4⟩ := H3.out.fcells
  go_wp2_with fail
  refine (word_anyW _ B tb (t ++ wordP k ++ (32 :: printL conn)) ⟨#[98, 114, 101, 97, 107]⟩ H3.out.wt H3.out.bsz HT3.out (by decide)).mono ?_
  intro e w4 h2
  have h2 : AddPost _ B tb (t ++ wordP k ++ (32 :: printL conn)) ((32 :: breakW)) e w4 := h2
  rcases H3.out.call h2 with ⟨rfl, hl, h3⟩ | ⟨hl, he, hkk⟩
  rotate_left
  · unfold pan at he
    subst he
    clear h2
    go_wp2_with fail
    exact ⟨rfl, hkk, .inr ⟨by rw [HL.out]; simp only [List.length_append] at hl ⊢; omega, rfl⟩⟩
  have H4 := hide h3
  have HT4 := hide hl
  clear h2 h3 hl a0 a1 a2 a3 a4 b0 b1 b2 b3 b4
  obtain ⟨a0, a1, a2, a3, a4, _⟩ := H4.out.step.cells
  obtain ⟨b0, b1, b2, b3, b4⟩ := H4.out.fcells
  go_wp2_with fail
  refine (number_anyW _ B tb (t ++ wordP k ++ (32 :: printL conn) ++ (32 :: breakW)) brk H4.out.tabs H4.out.wt H4.out.bsz HT4.out (by omega) hb.2).mono ?_
  intro e w5 h2
  have h2 : AddPost _ B tb (t ++ wordP k ++ (32 :: printL conn) ++ (32 :: breakW)) ((32 :: printL brk)) e w5 := h2
  rcases H4.out.call h2 with ⟨rfl, hl, h3⟩ | ⟨hl, he, hkk⟩
  rotate_left
  · unfold pan at he
    subst he
    clear h2
    go_wp2_with fail
    exact ⟨rfl, hkk, .inr ⟨by rw [HL.out]; simp only [List.length_append] at hl ⊢; omega, rfl⟩⟩
  have H5 := hide h3
  have HT5 := hide hl
  clear h2 h3 hl a0 a1 a2 a3 a4 b0 b1 b2 b3 b4
  obtain ⟨a0, a1, a2, a3, a4, _⟩ := H5.out.step.cells
  obtain ⟨b0, b1, b2, b3, b4⟩ := H5.out.fcells
  go_wp2_with fail
  go_loopg [57] 0 (fun gk i wr => i = .int .i64 0 ∧ Hid (WS D W wr B tb W.heap.size (W.heap.size + 1) (t ++ wordP k ++ (32 :: printL conn) ++ (32 :: breakW) ++ (32 :: printL brk)) (k : Int) conn brk (.slice ad data.length cd) (.slice ak 0 ck) ⟨(wordP k).toArray⟩ true false bb bk) ∧ Hid ((t ++ wordP k ++ (32 :: printL conn) ++ (32 :: breakW) ++ (32 :: printL brk)).length ≤ 1048576))
  case atStart => exact ⟨rfl, H5, HT5⟩
  case round =>
    obtain ⟨rfl, HR, HTR⟩ := hrel
    clear a0 a1 a2 a3 a4 b0 b1 b2 b3 b4
    have H15 := HR
    have HT15 := HTR
    clear HR HTR
    obtain ⟨a0, a1, a2, a3, a4, _⟩ := H15.out.step.cells
    obtain ⟨b0, b1, b2, b3, b4⟩ := H15.out.fcells
    go_wp2_with fail
    refine (add_any _ B tb (t ++ wordP k ++ (32 :: printL conn) ++ (32 :: breakW) ++ (32 :: printL brk)) ⟨#[10]⟩ H15.out.wt H15.out.bsz HT15.out (by decide)).mono ?_
    intro e w16 h2
    have h2 : AddPost _ B tb (t ++ wordP k ++ (32 :: printL conn) ++ (32 :: breakW) ++ (32 :: printL brk)) ([10]) e w16 := h2
    rcases H15.out.call h2 with ⟨rfl, hl, h3⟩ | ⟨hl, he, hkk⟩
    rotate_left
    · unfold pan at he
      subst he
      clear h2
      go_wp2_with fail
      exact ⟨rfl, hkk, .inr ⟨by rw [HL.out]; simp only [List.length_append] at hl ⊢; omega, rfl⟩⟩
    have H16 := hide h3
    have HT16 := hide hl
    clear h2 h3 hl a0 a1 a2 a3 a4 b0 b1 b2 b3 b4
    obtain ⟨a0, a1, a2, a3, a4, _⟩ := H16.out.step.cells
    obtain ⟨b0, b1, b2, b3, b4⟩ := H16.out.fcells
    go_wp2_with fail
    go_end0
    refine ⟨H16.out.kept, .inl ⟨?_, rfl, ?_⟩⟩
    · rw [HL.out]
      have h7 := HT16.out
      simp only [List.length_append] at h7 ⊢
      omega
    · rw [HL.out]
      have h7 := H16.out.wt
      simpa using h7
end Go.Proofs.YtpfbfkjmdlogcaaDoor

namespace Go.Proofs.YtpfbfkjmdlogcaaDoor
open Go.RowKit

set_option maxHeartbeats 8000000 in
set_option maxRecDepth 1000000 in
theorem wstep_A11 (D W : World) (B tb : Nat) (t L : Tx) (k : Nat) (conn brk : Int) (data : List UInt8) (keep : List Int) (ad ak : Option Addr) (cd ck : Nat) (bb bk : Bool) (hk : 1 ≤ k ∧ k ≤ 7) (T : Tabs W) (hw : WtAt W B tb t) (low : Below D.heap.size D W) (six : 6 ≤ B) (dB : D.heap.size ≤ B) (ht : t.length ≤ 1048576) (hf : FormAt W k true false bb bk) (hx : W.cell? ⟨0, k * 5, none⟩ = some (.string ⟨(wordP k).toArray⟩)) (hwl : (wordP k).length ≤ 100) (hd : IsBytes D ad cd data) (hkp : IsInts D ak ck keep) (hn : ∀ n ∈ keep, 0 ≤ n ∧ n ≤ maxWord) (hc : 0 ≤ conn ∧ conn ≤ maxWord) (hb : 0 < brk ∧ brk ≤ maxWord) (hke : keep ≠ []) (hL : L = wordP k ++ (32 :: printL conn) ++ (32 :: breakW) ++ (32 :: printL brk) ++ (32 :: keepW) ++ keep.flatMap (32 :: printL ·) ++ [10]) :
    Calls Tryd.prog 37 #[.pointer (some ⟨tb, 0, none⟩), .agg #[.int .i64 (k : Int), .int .i64 conn, .slice ad data.length cd, .int .i64 brk, .slice ak keep.length ck]] W (AddPost W B tb t L) := by
  obtain ⟨x, _, f1, f2, f3, f4⟩ := hf
  have hfl := T.lt.1
  have i1 : (0 : Int) ≤ (k : Int) := by omega
  have i2 : (k : Int) < 8 := by omega
  have h1 := WS.start D W B tb t hw T low six dB ⟨(wordP k).toArray⟩ (k : Int) conn brk (.slice ad data.length cd) (.slice ak keep.length ck) true false bb bk
  have g0 : Below W.heap.size W (W.alloc (.cells #[.int .i64 (k : Int), .int .i64 conn, .slice ad data.length cd, .int .i64 brk, .slice ak keep.length ck] 44)) := (Below.refl _ W).alloc (Nat.le_refl _) _
  have e0 := (g0.cell (p := ⟨0, k * 5, none⟩) hfl).trans hx
  have e1 := (g0.cell (p := ⟨0, k * 5 + 1, none⟩) hfl).trans f1
  have e2 := (g0.cell (p := ⟨0, k * 5 + 2, none⟩) hfl).trans f2
  have e3 := (g0.cell (p := ⟨0, k * 5 + 3, none⟩) hfl).trans f3
  have e4 := (g0.cell (p := ⟨0, k * 5 + 4, none⟩) hfl).trans f4
  have H1 := hide h1
  have HT1 := hide ht
  have HL := hide hL
  have HI := hide (And.intro hd hkp)
  have HN := hide hn
  have hdl : data.length ≤ 9223372036854775807 := by have := hd.1; have := hd.2.1; unfold maxLen at this; omega
  have hkl : keep.length ≤ 9223372036854775807 := by have := hkp.1; have := hkp.2.1; unfold maxLen at this; omega
  have hnd : (0 : Int) ≤ (data.length : Int) := by omega
  clear f1 f2 f3 f4 hx T g0 h1 hw low hL hd hkp hn
  have hb0 : (0 : Int) < brk := hb.1
  have h0b : True := trivial
  have hke0 : (0 : Int) < (keep.length : Int) := by have := List.length_pos_iff.2 hke; omega
  go_enter Tryd.func37, Tryd.ntmps37
  go_wp2_with fail
  refine (add_any _ B tb (t) ⟨(wordP k).toArray⟩ H1.out.wt H1.out.bsz HT1.out (by simp [ByteArray.size]; omega)).mono ?_
  intro e w2 h2
  have h2 : AddPost _ B tb (t) (wordP k) e w2 := h2
  rcases H1.out.call h2 with ⟨rfl, hl, h3⟩ | ⟨hl, he, hkk⟩
  rotate_left
  · unfold pan at he
    subst he
    clear h2
    go_wp2_with fail
    exact ⟨rfl, hkk, .inr ⟨by rw [HL.out]; simp only [List.length_append] at hl ⊢; omega, rfl⟩⟩
  have H2 := hide h3
  have HT2 := hide hl
  clear h2 h3 hl e0 e1 e2 e3 e4
  obtain ⟨a0, a1, a2, a3, a4, _⟩ := H2.out.step.cells
  obtain ⟨b0, b1, b2, b3, b4⟩ := H2.out.fcells
  go_wp2_with fail
  refine (number_anyW _ B tb (t ++ wordP k) conn H2.out.tabs H2.out.wt H2.out.bsz HT2.out hc.1 hc.2).mono ?_
  intro e w3 h2
  have h2 : AddPost _ B tb (t ++ wordP k) ((32 :: printL conn)) e w3 := h2
  rcases H2.out.call h2 with ⟨rfl, hl, h3⟩ | ⟨hl, he, hkk⟩
  rotate_left
  · unfold pan at he
    subst he
    clear h2
    go_wp2_with fail
    exact ⟨rfl, hkk, .inr ⟨by rw [HL.out]; simp only [List.length_append] at hl ⊢; omega, rfl⟩⟩
  have H3 := hide h3
  have HT3 := hide hl
  clear h2 h3 hl a0 a1 a2 a3 a4 b0 b1 b2 b3 b4
  obtain ⟨a0, a1, a2, a3, a4, _⟩ := H3.out.step.cells
  obtain ⟨b0, b1, b2, b3, b4⟩ := H3.out.fcells
  go_wp2_with fail
  refine (word_anyW _ B tb (t ++ wordP k ++ (32 :: printL conn)) ⟨#[98, 114, 101, 97, 107]⟩ H3.out.wt H3.out.bsz HT3.out (by decide)).mono ?_
  intro e w4 h2
  have h2 : AddPost _ B tb (t ++ wordP k ++ (32 :: printL conn)) ((32 :: breakW)) e w4 := h2
  rcases H3.out.call h2 with ⟨rfl, hl, h3⟩ | ⟨hl, he, hkk⟩
  rotate_left
  · unfold pan at he
    subst he
    clear h2
    go_wp2_with fail
    exact ⟨rfl, hkk, .inr ⟨by rw [HL.out]; simp only [List.length_append] at hl ⊢; omega, rfl⟩⟩
  have H4 := hide h3
  have HT4 := hide hl
  clear h2 h3 hl a0 a1 a2 a3 a4 b0 b1 b2 b3 b4
  obtain ⟨a0, a1, a2, a3, a4, _⟩ := H4.out.step.cells
  obtain ⟨b0, b1, b2, b3, b4⟩ := H4.out.fcells
  go_wp2_with fail
  refine (number_anyW _ B tb (t ++ wordP k ++ (32 :: printL conn) ++ (32 :: breakW)) brk H4.out.tabs H4.out.wt H4.out.bsz HT4.out (by omega) hb.2).mono ?_
  intro e w5 h2
  have h2 : AddPost _ B tb (t ++ wordP k ++ (32 :: printL conn) ++ (32 :: breakW)) ((32 :: printL brk)) e w5 := h2
  rcases H4.out.call h2 with ⟨rfl, hl, h3⟩ | ⟨hl, he, hkk⟩
  rotate_left
  · unfold pan at he
    subst he
    clear h2
    go_wp2_with fail
    exact ⟨rfl, hkk, .inr ⟨by rw [HL.out]; simp only [List.length_append] at hl ⊢; omega, rfl⟩⟩
  have H5 := hide h3
  have HT5 := hide hl
  clear h2 h3 hl a0 a1 a2 a3 a4 b0 b1 b2 b3 b4
  obtain ⟨a0, a1, a2, a3, a4, _⟩ := H5.out.step.cells
  obtain ⟨b0, b1, b2, b3, b4⟩ := H5.out.fcells
  go_wp2_with fail
  refine (word_anyW _ B tb (t ++ wordP k ++ (32 :: printL conn) ++ (32 :: breakW) ++ (32 :: printL brk)) ⟨#[107, 101, 101, 112]⟩ H5.out.wt H5.out.bsz HT5.out (by decide)).mono ?_
  intro e w6 h2
  have h2 : AddPost _ B tb (t ++ wordP k ++ (32 :: printL conn) ++ (32 :: breakW) ++ (32 :: printL brk)) ((32 :: keepW)) e w6 := h2
  rcases H5.out.call h2 with ⟨rfl, hl, h3⟩ | ⟨hl, he, hkk⟩
  rotate_left
  · unfold pan at he
    subst he
    clear h2
    go_wp2_with fail
    exact ⟨rfl, hkk, .inr ⟨by rw [HL.out]; simp only [List.length_append] at hl ⊢; omega, rfl⟩⟩
  have H6 := hide h3
  have HT6 := hide hl
  clear h2 h3 hl a0 a1 a2 a3 a4 b0 b1 b2 b3 b4
  obtain ⟨a0, a1, a2, a3, a4, _⟩ := H6.out.step.cells
  obtain ⟨b0, b1, b2, b3, b4⟩ := H6.out.fcells
  go_wp2_with fail
  go_loopg [57] keep.length (fun gk i wr => ∃ j : Nat, i = .int .i64 (j : Int) ∧ keep.length - j ≤ gk ∧ j ≤ keep.length ∧ Hid (WS D W wr B tb W.heap.size (W.heap.size + 1) (t ++ wordP k ++ (32 :: printL conn) ++ (32 :: breakW) ++ (32 :: printL brk) ++ (32 :: keepW) ++ (keep.take j).flatMap (32 :: printL ·)) (k : Int) conn brk (.slice ad data.length cd) (.slice ak keep.length ck) ⟨(wordP k).toArray⟩ true false bb bk) ∧ Hid ((t ++ wordP k ++ (32 :: printL conn) ++ (32 :: breakW) ++ (32 :: printL brk) ++ (32 :: keepW) ++ (keep.take j).flatMap (32 :: printL ·)).length ≤ 1048576))
  case atStart => exact ⟨0, rfl, by omega, by omega, by simpa using H6, by simpa using HT6⟩
  case round =>
    obtain ⟨j, rfl, hgk, hj, HR, HTR⟩ := hrel
    clear a0 a1 a2 a3 a4 b0 b1 b2 b3 b4
    by_cases hlt : j < keep.length
    · have tlt : (j : Int) < (keep.length : Int) := by omega
      obtain ⟨y, hy⟩ : ∃ y, keep[j]? = some y := ⟨_, List.getElem?_eq_getElem hlt⟩
      have HF := hide (take_flat (32 :: printL ·) keep j y hy)
      have HF2 := hide (flat_le (32 :: printL ·) keep (j + 1))
      rcases HI.out.2.2.2 with h0 | ⟨bq, oq, e, hbq, hcq⟩
      · rw [h0] at hlt; simp at hlt
      subst e
      have cy : wr.cell? ⟨bq, oq + j, none⟩ = some (.int .i64 y) := (HR.out.low.cell (p := ⟨bq, oq + j, none⟩) hbq).trans (hcq j y hy)
      have hyb := HN.out y (List.mem_of_getElem? hy)
      clear hy hcq
      go_wp2_with fail
      refine (number_anyW wr B tb _ y HR.out.tabs HR.out.wt HR.out.bsz HTR.out hyb.1 hyb.2).mono ?_
      intro e w8 h2
      have h2 : AddPost wr B tb (t ++ wordP k ++ (32 :: printL conn) ++ (32 :: breakW) ++ (32 :: printL brk) ++ (32 :: keepW) ++ (keep.take j).flatMap (32 :: printL ·)) (32 :: printL y) e w8 := h2
      rcases HR.out.call h2 with ⟨rfl, hl, h3⟩ | ⟨hl, he, hkk⟩
      rotate_left
      · unfold pan at he
        subst he
        clear h2 cy
        go_wp2_with fail
        exact ⟨rfl, hkk, .inr ⟨by have h7 := HF2.out; rw [HF.out] at h7; rw [HL.out]; simp only [List.length_append] at hl h7 ⊢; omega, rfl⟩⟩
      have HF' := HF.out
      rw [List.append_assoc, ← HF'] at h3 hl
      have H8 := hide h3
      have HT8 := hide hl
      clear h2 h3 hl cy HF'
      go_wp2_with fail
      go_roundg (keep.length - (j + 1))
      case measure => omega
      case rel => exact ⟨j + 1, by go_num, Nat.le_refl _, hlt, H8, HT8⟩
    · have tlt : ¬ (j : Int) < (keep.length : Int) := by omega
      have e9 : keep.take j = keep := List.take_of_length_le (by omega)
      rw [e9] at HR HTR
      clear e9
      have H16 := HR
      have HT16 := HTR
      clear HR HTR
      obtain ⟨a0, a1, a2, a3, a4, _⟩ := H16.out.step.cells
      obtain ⟨b0, b1, b2, b3, b4⟩ := H16.out.fcells
      go_wp2_with fail
      refine (add_any _ B tb (t ++ wordP k ++ (32 :: printL conn) ++ (32 :: breakW) ++ (32 :: printL brk) ++ (32 :: keepW) ++ keep.flatMap (32 :: printL ·)) ⟨#[10]⟩ H16.out.wt H16.out.bsz HT16.out (by decide)).mono ?_
      intro e w17 h2
      have h2 : AddPost _ B tb (t ++ wordP k ++ (32 :: printL conn) ++ (32 :: breakW) ++ (32 :: printL brk) ++ (32 :: keepW) ++ keep.flatMap (32 :: printL ·)) ([10]) e w17 := h2
      rcases H16.out.call h2 with ⟨rfl, hl, h3⟩ | ⟨hl, he, hkk⟩
      rotate_left
      · unfold pan at he
        subst he
        clear h2
        go_wp2_with fail
        exact ⟨rfl, hkk, .inr ⟨by rw [HL.out]; simp only [List.length_append] at hl ⊢; omega, rfl⟩⟩
      have H17 := hide h3
      have HT17 := hide hl
      clear h2 h3 hl a0 a1 a2 a3 a4 b0 b1 b2 b3 b4
      obtain ⟨a0, a1, a2, a3, a4, _⟩ := H17.out.step.cells
      obtain ⟨b0, b1, b2, b3, b4⟩ := H17.out.fcells
      go_wp2_with fail
      go_end0
      refine ⟨H17.out.kept, .inl ⟨?_, rfl, ?_⟩⟩
      · rw [HL.out]
        have h7 := HT17.out
        simp only [List.length_append] at h7 ⊢
        omega
      · rw [HL.out]
        have h7 := H17.out.wt
        simpa using h7
end Go.Proofs.YtpfbfkjmdlogcaaDoor
