/-
  The writer's step, of whatever step that has a line; the writer's head.
-/
import Derived.Test.YteecmbpabkndlaaDoorWSA
import Derived.Test.YteecmbpabkndlaaDoorWSB
import Derived.Test.YteecmbpabkndlaaDoorWSC
import Derived.Test.YteecmbpabkndlaaDoorConf
namespace Go.Proofs.YteecmbpabkndlaaDoor
open Go.RowKit

theorem keep_spaced (l : List Int) : spaced (l.map printL) = l.flatMap (32 :: printL ·) := by
  unfold spaced
  rw [List.flatMap_map]
theorem line_parts {p : StepP} {c d b k : Bool} (h : formP p.kind = some (c, d, b, k)) : lineS p = wordP p.kind.toNat ++ ((if c then (32 :: printL p.conn) else []) ++ (if d then [32, 61] ++ p.data.flatMap shortP else []) ++ (if 0 < p.brk then (32 :: breakW) ++ (32 :: printL p.brk) else []) ++ (if p.keep = [] then [] else (32 :: keepW) ++ p.keep.flatMap (32 :: printL ·))) ++ [10] := by
  unfold lineS lineW
  rw [restW_eq h]
  unfold tailW
  rw [spaced_append, spaced_append, spaced_append]
  have e1 : spaced (if c then [printL p.conn] else []) = if c then (32 :: printL p.conn) else [] := by cases c <;> simp [spaced]
  have e2 : spaced (if d then [dataW p.data] else []) = if d then [32, 61] ++ p.data.flatMap shortP else [] := by cases d <;> simp [spaced, dataW]
  have e3 : spaced (if 0 < p.brk then [breakW, printL p.brk] else []) = if 0 < p.brk then (32 :: breakW) ++ (32 :: printL p.brk) else [] := by split <;> simp [spaced]
  have e4 : spaced (if p.keep = [] then [] else keepW :: p.keep.map printL) = if p.keep = [] then [] else (32 :: keepW) ++ p.keep.flatMap (32 :: printL ·) := by
    split
    · rfl
    · rw [spaced_cons, keep_spaced]
      simp
  rw [e1, e2, e3, e4]
  simp only [List.append_assoc]
theorem word_short (k : Nat) : (wordP k).length ≤ 100 := by
  unfold wordP
  split <;> decide
theorem wstep_any (D W : World) (B tb : Nat) (t : Tx) (p : StepP) (dv kv : Value) (T : Tabs W) (hw : WtAt W B tb t) (low : Below D.heap.size D W) (six : 6 ≤ B) (dB : D.heap.size ≤ B) (ht : t.length ≤ 1048576) (h : StepIn D p dv kv) (hc : checkB p = true) :
    Calls Tryd.prog 37 #[.pointer (some ⟨tb, 0, none⟩), .agg #[.int .i64 p.kind, .int .i64 p.conn, dv, .int .i64 p.brk, kv]] W (AddPost W B tb t (lineS p)) := by
  obtain ⟨c, d, b, k, hf, ⟨c0, c1, c2⟩, ⟨b0, b1, b2⟩, hd2, hk2, hn⟩ := check_parts hc
  obtain ⟨⟨ad, cd, rfl, hd⟩, ak, ck, rfl, hk⟩ := h
  obtain ⟨k1, k7, hfa, hx⟩ := form_at T hf
  have hkk : ((p.kind.toNat : Nat) : Int) = p.kind := by omega
  have hkr : 1 ≤ p.kind.toNat ∧ p.kind.toNat ≤ 7 := by omega
  have hwl := word_short p.kind.toNat
  have hL := line_parts hf
  have hcd : (c = true ∧ d = false) ∨ (c = true ∧ d = true) ∨ (c = false ∧ d = false) := by
    rcases form_cases hf with h | h | h | h | h | h | h <;> simp [h.2.1, h.2.2.1]
  rw [← hkk]
  by_cases hb : 0 < p.brk
  · rw [if_pos hb] at hL
    by_cases hke : p.keep = []
    · rw [if_pos hke] at hL
      rw [show p.keep.length = 0 by rw [hke]; rfl]
      rcases hcd with ⟨rfl, rfl⟩ | ⟨rfl, rfl⟩ | ⟨rfl, rfl⟩
      · exact wstep_A10 D W B tb t _ p.kind.toNat p.conn p.brk p.data ad ak cd ck b k hkr T hw low six dB ht hfa hx hwl hd ⟨c0, c1⟩ ⟨hb, b1⟩ (by rw [hL]; simp)
      · exact wstep_B10 D W B tb t _ p.kind.toNat p.conn p.brk p.data ad ak cd ck b k hkr T hw low six dB ht hfa hx hwl hd ⟨c0, c1⟩ ⟨hb, b1⟩ (by rw [hL]; simp)
      · exact wstep_C10 D W B tb t _ p.kind.toNat p.conn p.brk p.data ad ak cd ck b k hkr T hw low six dB ht hfa hx hwl hd ⟨hb, b1⟩ (by rw [hL]; simp)
    · rw [if_neg hke] at hL
      rcases hcd with ⟨rfl, rfl⟩ | ⟨rfl, rfl⟩ | ⟨rfl, rfl⟩
      · exact wstep_A11 D W B tb t _ p.kind.toNat p.conn p.brk p.data p.keep ad ak cd ck b k hkr T hw low six dB ht hfa hx hwl hd hk hn ⟨c0, c1⟩ ⟨hb, b1⟩ hke (by rw [hL]; simp)
      · exact wstep_B11 D W B tb t _ p.kind.toNat p.conn p.brk p.data p.keep ad ak cd ck b k hkr T hw low six dB ht hfa hx hwl hd hk hn ⟨c0, c1⟩ ⟨hb, b1⟩ hke (by rw [hL]; simp)
      · exact wstep_C11 D W B tb t _ p.kind.toNat p.conn p.brk p.data p.keep ad ak cd ck b k hkr T hw low six dB ht hfa hx hwl hd hk hn ⟨hb, b1⟩ hke (by rw [hL]; simp)
  · rw [if_neg hb] at hL
    rw [show p.brk = 0 by omega]
    by_cases hke : p.keep = []
    · rw [if_pos hke] at hL
      rw [show p.keep.length = 0 by rw [hke]; rfl]
      rcases hcd with ⟨rfl, rfl⟩ | ⟨rfl, rfl⟩ | ⟨rfl, rfl⟩
      · exact wstep_A00 D W B tb t _ p.kind.toNat p.conn p.data ad ak cd ck b k hkr T hw low six dB ht hfa hx hwl hd ⟨c0, c1⟩ (by rw [hL]; simp)
      · exact wstep_B00 D W B tb t _ p.kind.toNat p.conn p.data ad ak cd ck b k hkr T hw low six dB ht hfa hx hwl hd ⟨c0, c1⟩ (by rw [hL]; simp)
      · exact wstep_C00 D W B tb t _ p.kind.toNat p.conn p.data ad ak cd ck b k hkr T hw low six dB ht hfa hx hwl hd (by rw [hL]; simp)
    · rw [if_neg hke] at hL
      rcases hcd with ⟨rfl, rfl⟩ | ⟨rfl, rfl⟩ | ⟨rfl, rfl⟩
      · exact wstep_A01 D W B tb t _ p.kind.toNat p.conn p.data p.keep ad ak cd ck b k hkr T hw low six dB ht hfa hx hwl hd hk hn ⟨c0, c1⟩ hke (by rw [hL]; simp)
      · exact wstep_B01 D W B tb t _ p.kind.toNat p.conn p.data p.keep ad ak cd ck b k hkr T hw low six dB ht hfa hx hwl hd hk hn ⟨c0, c1⟩ hke (by rw [hL]; simp)
      · exact wstep_C01 D W B tb t _ p.kind.toNat p.conn p.data p.keep ad ak cd ck b k hkr T hw low six dB ht hfa hx hwl hd hk hn hke (by rw [hL]; simp)
end Go.Proofs.YteecmbpabkndlaaDoor
