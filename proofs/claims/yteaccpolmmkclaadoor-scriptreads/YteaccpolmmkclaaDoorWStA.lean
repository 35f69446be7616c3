/-
  WStepA, WHead.
-/
import Derived.Test.YteaccpolmmkclaaDoorWSX
import Derived.Test.YteaccpolmmkclaaDoorConf
namespace Go.Proofs.YteaccpolmmkclaaDoor
open Go.RowKit

theorem keep_spaced (l : List Int) : spaced (l.map printL) = l.flatMap (32 :: printL ·) := by
  unfold spaced
  rw [List.flatMap_map]
theorem line_parts {p : StepP} {c d b k : Bool} (h : formP p.kind = some (c, d, b, k)) : lineS p = wordP p.kind.toNat ++ ((if c then (32 :: printL p.conn) else []) ++ (if d then [32, 61] ++ p.data.flatMap shortP else []) ++ (if 0 < p.brk then (32 :: breakW) ++ (32 :: printL p.brk) else []) ++ (if p.keep = [] then [] else (32 :: keepW) ++ p.keep.flatMap (32 :: printL ·))) ++ [10] := by
  unfold lineS lineW
  rw [restW_eq h]
  unfold tailW
  rw [spaced_append, spaced_append, spaced_append]
  have e1 : spaced (if c then [printL p.conn] else []) = if c then (32 :: printL p.conn) else [] := by cases c <;> simp [spaced]
  have e2 : spaced (if d then [dataW p.data] else []) = if d then [32, 61] ++ p.data.flatMap shortP else [] := by cases d <;> simp [spaced, dataW]
  have e3 : spaced (if 0 < p.brk then [breakW, printL p.brk] else []) = if 0 < p.brk then (32 :: breakW) ++ (32 :: printL p.brk) else [] := by split <;> simp [spaced]
  have e4 : spaced (if p.keep = [] then [] else keepW :: p.keep.map printL) = if p.keep = [] then [] else (32 :: keepW) ++ p.keep.flatMap (32 :: printL ·) := by
    split
    · rfl
    · rw [spaced_cons, keep_spaced]
      simp
  rw [e1, e2, e3, e4]
  simp only [List.append_assoc]
theorem word_short (k : Nat) : (wordP k).length ≤ 100 := by
  unfold wordP
  split <;> decide
theorem wstep_any (D W : World) (B tb : Nat) (t : Tx) (p : StepP) (dv kv : Value) (T : Tabs W) (hw : WtAt W B tb t) (low : Below D.heap.size D W) (six : 6 ≤ B) (dB : D.heap.size ≤ B) (ht : t.length ≤ 1048576) (h : StepIn D p dv kv) (hc : checkB p = true) :
    Calls Tryd.prog 29 #[.pointer (some ⟨tb, 0, none⟩), .agg #[.int .i64 p.kind, .int .i64 p.conn, dv, .int .i64 p.brk, kv]] W (AddPost W B tb t (lineS p)) := by
  obtain ⟨c, d, b, k, hf, ⟨c0, c1, c2⟩, ⟨b0, b1, b2⟩, hd2, hk2, hn⟩ := check_parts hc
  obtain ⟨⟨ad, cd, rfl, hd⟩, ak, ck, rfl, hk⟩ := h
  obtain ⟨k1, k7, hfa, hx⟩ := form_at T hf
  have hkk : ((p.kind.toNat : Nat) : Int) = p.kind := by omega
  have hkr : 1 ≤ p.kind.toNat ∧ p.kind.toNat ≤ 7 := by omega
  have hwl := word_short p.kind.toNat
  have hL := line_parts hf
  have hcd : (c = true ∧ d = false) ∨ (c = true ∧ d = true) ∨ (c = false ∧ d = false) := by
    rcases form_cases hf with h | h | h | h | h | h | h <;> simp [h.2.1, h.2.2.1]
  rw [← hkk]
  by_cases hb : 0 < p.brk
  · rw [if_pos hb] at hL
    by_cases hke : p.keep = []
    · rw [if_pos hke] at hL
      rw [show p.keep.length = 0 by rw [hke]; rfl]
      rcases hcd with ⟨rfl, rfl⟩ | ⟨rfl, rfl⟩ | ⟨rfl, rfl⟩
      · exact wstep_A10 D W B tb t _ p.kind.toNat p.conn p.brk p.data ad ak cd ck b k hkr T hw low six dB ht hfa hx hwl hd ⟨c0, c1⟩ ⟨hb, b1⟩ (by rw [hL]; simp)
      · exact wstep_B10 D W B tb t _ p.kind.toNat p.conn p.brk p.data ad ak cd ck b k hkr T hw low six dB ht hfa hx hwl hd ⟨c0, c1⟩ ⟨hb, b1⟩ (by rw [hL]; simp)
      · exact wstep_C10 D W B tb t _ p.kind.toNat p.conn p.brk p.data ad ak cd ck b k hkr T hw low six dB ht hfa hx hwl hd ⟨hb, b1⟩ (by rw [hL]; simp)
    · rw [if_neg hke] at hL
      rcases hcd with ⟨rfl, rfl⟩ | ⟨rfl, rfl⟩ | ⟨rfl, rfl⟩
      · exact wstep_A11 D W B tb t _ p.kind.toNat p.conn p.brk p.data p.keep ad ak cd ck b k hkr T hw low six dB ht hfa hx hwl hd hk hn ⟨c0, c1⟩ ⟨hb, b1⟩ hke (by rw [hL]; simp)
      · exact wstep_B11 D W B tb t _ p.kind.toNat p.conn p.brk p.data p.keep ad ak cd ck b k hkr T hw low six dB ht hfa hx hwl hd hk hn ⟨c0, c1⟩ ⟨hb, b1⟩ hke (by rw [hL]; simp)
      · exact wstep_C11 D W B tb t _ p.kind.toNat p.conn p.brk p.data p.keep ad ak cd ck b k hkr T hw low six dB ht hfa hx hwl hd hk hn ⟨hb, b1⟩ hke (by rw [hL]; simp)
  · rw [if_neg hb] at hL
    rw [show p.brk = 0 by omega]
    by_cases hke : p.keep = []
    · rw [if_pos hke] at hL
      rw [show p.keep.length = 0 by rw [hke]; rfl]
      rcases hcd with ⟨rfl, rfl⟩ | ⟨rfl, rfl⟩ | ⟨rfl, rfl⟩
      · exact wstep_A00 D W B tb t _ p.kind.toNat p.conn p.data ad ak cd ck b k hkr T hw low six dB ht hfa hx hwl hd ⟨c0, c1⟩ (by rw [hL]; simp)
      · exact wstep_B00 D W B tb t _ p.kind.toNat p.conn p.data ad ak cd ck b k hkr T hw low six dB ht hfa hx hwl hd ⟨c0, c1⟩ (by rw [hL]; simp)
      · exact wstep_C00 D W B tb t _ p.kind.toNat p.conn p.data ad ak cd ck b k hkr T hw low six dB ht hfa hx hwl hd (by rw [hL]; simp)
    · rw [if_neg hke] at hL
      rcases hcd with ⟨rfl, rfl⟩ | ⟨rfl, rfl⟩ | ⟨rfl, rfl⟩
      · exact wstep_A01 D W B tb t _ p.kind.toNat p.conn p.data p.keep ad ak cd ck b k hkr T hw low six dB ht hfa hx hwl hd hk hn ⟨c0, c1⟩ hke (by rw [hL]; simp)
      · exact wstep_B01 D W B tb t _ p.kind.toNat p.conn p.data p.keep ad ak cd ck b k hkr T hw low six dB ht hfa hx hwl hd hk hn ⟨c0, c1⟩ hke (by rw [hL]; simp)
      · exact wstep_C01 D W B tb t _ p.kind.toNat p.conn p.data p.keep ad ak cd ck b k hkr T hw low six dB ht hfa hx hwl hd hk hn hke (by rw [hL]; simp)
end Go.Proofs.YteaccpolmmkclaaDoor

namespace Go.Proofs.YteaccpolmmkclaaDoor
open Go.RowKit

theorem head_len {j s q : Int} (h : configB j s q = true) : (printL j).length ≤ 19 ∧ (printL s).length ≤ 19 ∧ (printL q).length ≤ 19 := by
  obtain ⟨a, b, c⟩ := config_parts h
  exact ⟨itoa_short a.1 a.2, itoa_short b.1 b.2, itoa_short c.1 c.2⟩
/-- What head needs of one world and gives to the next. -/
structure HS (D W w : World) (B tb cb : Nat) (t : Tx) (j s q : Int) : Prop where
  wt : WtAt w B tb t
  conf : w.heap[cb]? = some (.cells #[.int .i64 j, .int .i64 s, .int .i64 q] 28 (0, 0))
  kept : Kept (Wr B tb W) W w
  tabs : Tabs w
  six : 6 ≤ B
theorem HS.bsz {D W w : World} {B tb cb : Nat} {t : Tx} {j s q : Int} (h : HS D W w B tb cb t j s q) : B ≤ w.heap.size := by
  obtain ⟨v, h1, _, h3⟩ := h.wt
  have := (Array.getElem?_eq_some_iff.1 h1).1
  omega
theorem HS.call {D W w w' : World} {B tb cb : Nat} {t u : Tx} {j s q : Int} {e : Ending} (h : HS D W w B tb cb t j s q) (hp : AddPost w B tb t u e w') (hl : (t ++ u).length ≤ 1048576) : e = .returned (.tuple #[]) ∧ HS D W w' B tb cb (t ++ u) j s q := by
  obtain ⟨k1, h2⟩ := hp
  rcases h2 with ⟨_, he, hw⟩ | ⟨hx, _⟩
  · refine ⟨he, hw, (k1.block cb (Array.getElem?_eq_some_iff.1 h.conf).1 (fun hp => ?_)).trans h.conf, Wr.trans h.kept k1, h.tabs.keptB ((Wr.low k1 h.bsz).mono h.six), h.six⟩
    rcases hp.2 with e1 | ⟨cur, hc⟩
    · obtain ⟨v, h1, _⟩ := h.wt
      rw [← e1, h.conf] at h1
      simp at h1
    · rw [h.conf] at hc
      simp at hc
  · omega
theorem HS.cells {D W w : World} {B tb cb : Nat} {t : Tx} {j s q : Int} (h : HS D W w B tb cb t j s q) : w.cell? ⟨cb, 0, none⟩ = some (.int .i64 j) ∧ w.cell? ⟨cb, 1, none⟩ = some (.int .i64 s) ∧ w.cell? ⟨cb, 2, none⟩ = some (.int .i64 q) := by
  have := h.conf
  simp [World.cell?, this]
set_option maxHeartbeats 2000000 in
set_option maxRecDepth 1000000 in
theorem whead_any (W : World) (B tb : Nat) (j s q : Int) (T : Tabs W) (hw : WtAt W B tb []) (six : 6 ≤ B) (hc : configB j s q = true) :
    Calls Tryd.prog 27 #[.pointer (some ⟨tb, 0, none⟩), .agg #[.int .i64 j, .int .i64 s, .int .i64 q]] W fun e w' => e = .returned (.tuple #[]) ∧ Kept (Wr B tb W) W w' ∧ WtAt w' B tb (headS j s q) := by
  have b1 : Below W.heap.size W (W.alloc (.cells #[.int .i64 j, .int .i64 s, .int .i64 q] 28)) := (Below.refl _ W).alloc (Nat.le_refl _) _
  have h1 : HS W W (W.alloc (.cells #[.int .i64 j, .int .i64 s, .int .i64 q] 28)) B tb W.heap.size [] j s q := ⟨hw.later b1, heap_alloc_new W _, Kept.ofBelow b1, T.below b1, six⟩
  have hl := head_len hc
  have hp := config_parts hc
  have H1 := hide h1
  clear h1 b1 T hw
  go_enter Tryd.func27, Tryd.ntmps27
  go_wp2_with fail
  refine (add_any _ B tb [] ⟨#[115, 116, 105, 110, 116]⟩ H1.out.wt H1.out.bsz (by simp) (by decide)).mono ?_
  intro e w2 h2
  obtain ⟨rfl, h3⟩ := H1.out.call h2 (by decide)
  have H2 := hide h3
  obtain ⟨a0, a1, a2⟩ := h3.cells
  clear h2 h3
  go_wp2_with fail
  refine (number_anyW _ B tb _ j H2.out.tabs H2.out.wt H2.out.bsz (by decide) hp.1.1 hp.1.2).mono ?_
  intro e w3 h2
  obtain ⟨rfl, h3⟩ := H2.out.call h2 (by simp; omega)
  have H3 := hide h3
  clear a0 a1 a2
  obtain ⟨a0, a1, a2⟩ := h3.cells
  clear h2 h3
  go_wp2_with fail
  refine (number_anyW _ B tb _ s H3.out.tabs H3.out.wt H3.out.bsz (by simp; omega) hp.2.1.1 hp.2.1.2).mono ?_
  intro e w4 h2
  obtain ⟨rfl, h3⟩ := H3.out.call h2 (by simp; omega)
  have H4 := hide h3
  clear a0 a1 a2
  obtain ⟨a0, a1, a2⟩ := h3.cells
  clear h2 h3
  go_wp2_with fail
  refine (number_anyW _ B tb _ q H4.out.tabs H4.out.wt H4.out.bsz (by simp; omega) hp.2.2.1 hp.2.2.2).mono ?_
  intro e w5 h2
  obtain ⟨rfl, h3⟩ := H4.out.call h2 (by simp; omega)
  have H5 := hide h3
  clear a0 a1 a2
  clear h2 h3
  go_wp2_with fail
  refine (add_any _ B tb _ ⟨#[10]⟩ H5.out.wt H5.out.bsz (by simp; omega) (by decide)).mono ?_
  intro e w6 h2
  obtain ⟨rfl, h3⟩ := H5.out.call h2 (by simp; omega)
  have H6 := hide h3
  clear h2 h3
  go_wp2_with fail
  go_end0
  refine ⟨rfl, H6.out.kept, ?_⟩
  have := H6.out.wt
  simpa [headS, spaced, stintW] using this
end Go.Proofs.YteaccpolmmkclaaDoor
