/-
  The document's line, of whatever step that may be written.
-/
import Derived.Test.YtpfbfkjmdlogcaaDoorRLnA
set_option linter.unusedSimpArgs false
namespace Go.Proofs.YtpfbfkjmdlogcaaDoor
open Go.RowKit

theorem refLine_any (W : World) (p : StepP) (dv kv : Value) (h : StepIn W p dv kv) (hc : checkB p = true) (hdl : p.data.length ≤ 1048576) :
    Calls Tryd.prog 41 #[.agg #[.int .i64 p.kind, .int .i64 p.conn, dv, .int .i64 p.brk, kv]] W (LinePost W (lineS p)) := by
  obtain ⟨c, d, b, k, hf, ⟨c0, c1, c2⟩, ⟨b0, b1, b2⟩, hd2, hk2, hn⟩ := check_parts hc
  obtain ⟨⟨ad, cd, rfl, hd⟩, ak, ck, rfl, hk⟩ := h
  have hL := line_parts hf
  rcases form_cases hf with ⟨hk1, rfl, rfl, rfl, rfl⟩ | ⟨hk1, rfl, rfl, rfl, rfl⟩ | ⟨hk1, rfl, rfl, rfl, rfl⟩ | ⟨hk1, rfl, rfl, rfl, rfl⟩ | ⟨hk1, rfl, rfl, rfl, rfl⟩ | ⟨hk1, rfl, rfl, rfl, rfl⟩ | ⟨hk1, rfl, rfl, rfl, rfl⟩
  · rw [hk1] at hL ⊢
    have hz : p.brk = 0 := by rcases b2 with h | h; cases h; exact h
    rw [if_neg (show ¬ 0 < p.brk by omega)] at hL
    rw [hz]
    have hke : p.keep = [] := by rcases hk2 with h | h | h; cases h; exact h; exact absurd hz h
    rw [if_pos hke] at hL
    rw [show p.keep.length = 0 by rw [hke]; rfl]
    exact ln_100 W p.conn p.data ad ak cd ck ⟨c0, c1⟩ _ (by rw [hL]; simp [breakW, keepW, dataW])
  · rw [hk1] at hL ⊢
    by_cases hb : 0 < p.brk
    · rw [if_pos hb] at hL
      by_cases hke : p.keep = []
      · rw [if_pos hke] at hL
        rw [show p.keep.length = 0 by rw [hke]; rfl]
        exact ln_210 W p.conn p.brk p.data ad ak cd ck ⟨c0, c1⟩ hd hdl ⟨hb, b1⟩ _ (by rw [hL]; simp [breakW, keepW, dataW])
      · rw [if_neg hke] at hL
        exact ln_211 W p.conn p.brk p.data ad ak cd ck p.keep hk hn hke ⟨c0, c1⟩ hd hdl ⟨hb, b1⟩ _ (by rw [hL]; simp [breakW, keepW, dataW])
    · rw [if_neg hb] at hL
      have hz : p.brk = 0 := by omega
      have hke : p.keep = [] := by rcases hk2 with h | h | h; cases h; exact h; exact absurd hz h
      rw [if_pos hke] at hL
      rw [show p.keep.length = 0 by rw [hke]; rfl, hz]
      exact ln_200 W p.conn p.data ad ak cd ck ⟨c0, c1⟩ hd hdl _ (by rw [hL]; simp [breakW, keepW, dataW])
  · rw [hk1] at hL ⊢
    by_cases hb : 0 < p.brk
    · rw [if_pos hb] at hL
      by_cases hke : p.keep = []
      · rw [if_pos hke] at hL
        rw [show p.keep.length = 0 by rw [hke]; rfl]
        exact ln_310 W p.conn p.brk p.data ad ak cd ck ⟨c0, c1⟩ ⟨hb, b1⟩ _ (by rw [hL]; simp [breakW, keepW, dataW])
      · rw [if_neg hke] at hL
        exact ln_311 W p.conn p.brk p.data ad ak cd ck p.keep hk hn hke ⟨c0, c1⟩ ⟨hb, b1⟩ _ (by rw [hL]; simp [breakW, keepW, dataW])
    · rw [if_neg hb] at hL
      have hz : p.brk = 0 := by omega
      have hke : p.keep = [] := by rcases hk2 with h | h | h; cases h; exact h; exact absurd hz h
      rw [if_pos hke] at hL
      rw [show p.keep.length = 0 by rw [hke]; rfl, hz]
      exact ln_300 W p.conn p.data ad ak cd ck ⟨c0, c1⟩ _ (by rw [hL]; simp [breakW, keepW, dataW])
  · rw [hk1] at hL ⊢
    by_cases hb : 0 < p.brk
    · rw [if_pos hb] at hL
      by_cases hke : p.keep = []
      · rw [if_pos hke] at hL
        rw [show p.keep.length = 0 by rw [hke]; rfl]
        exact ln_410 W p.conn p.brk p.data ad ak cd ck ⟨hb, b1⟩ _ (by rw [hL]; simp [breakW, keepW, dataW])
      · rw [if_neg hke] at hL
        exact ln_411 W p.conn p.brk p.data ad ak cd ck p.keep hk hn hke ⟨hb, b1⟩ _ (by rw [hL]; simp [breakW, keepW, dataW])
    · rw [if_neg hb] at hL
      have hz : p.brk = 0 := by omega
      have hke : p.keep = [] := by rcases hk2 with h | h | h; cases h; exact h; exact absurd hz h
      rw [if_pos hke] at hL
      rw [show p.keep.length = 0 by rw [hke]; rfl, hz]
      exact ln_400 W p.conn p.data ad ak cd ck _ (by rw [hL]; simp [breakW, keepW, dataW])
  · rw [hk1] at hL ⊢
    have hz : p.brk = 0 := by rcases b2 with h | h; cases h; exact h
    rw [if_neg (show ¬ 0 < p.brk by omega)] at hL
    rw [hz]
    have hke : p.keep = [] := by rcases hk2 with h | h | h; cases h; exact h; exact absurd hz h
    rw [if_pos hke] at hL
    rw [show p.keep.length = 0 by rw [hke]; rfl]
    exact ln_500 W p.conn p.data ad ak cd ck _ (by rw [hL]; simp [breakW, keepW, dataW])
  · rw [hk1] at hL ⊢
    have hz : p.brk = 0 := by rcases b2 with h | h; cases h; exact h
    rw [if_neg (show ¬ 0 < p.brk by omega)] at hL
    rw [hz]
    by_cases hke : p.keep = []
    · rw [if_pos hke] at hL
      rw [show p.keep.length = 0 by rw [hke]; rfl]
      exact ln_600 W p.conn p.data ad ak cd ck _ (by rw [hL]; simp [breakW, keepW, dataW])
    · rw [if_neg hke] at hL
      exact ln_601 W p.conn p.data ad ak cd ck p.keep hk hn hke _ (by rw [hL]; simp [breakW, keepW, dataW])
  · rw [hk1] at hL ⊢
    by_cases hb : 0 < p.brk
    · rw [if_pos hb] at hL
      by_cases hke : p.keep = []
      · rw [if_pos hke] at hL
        rw [show p.keep.length = 0 by rw [hke]; rfl]
        exact ln_710 W p.conn p.brk p.data ad ak cd ck ⟨hb, b1⟩ _ (by rw [hL]; simp [breakW, keepW, dataW])
      · rw [if_neg hke] at hL
        exact ln_711 W p.conn p.brk p.data ad ak cd ck p.keep hk hn hke ⟨hb, b1⟩ _ (by rw [hL]; simp [breakW, keepW, dataW])
    · rw [if_neg hb] at hL
      have hz : p.brk = 0 := by omega
      have hke : p.keep = [] := by rcases hk2 with h | h | h; cases h; exact h; exact absurd hz h
      rw [if_pos hke] at hL
      rw [show p.keep.length = 0 by rw [hke]; rfl, hz]
      exact ln_700 W p.conn p.data ad ak cd ck _ (by rw [hL]; simp [breakW, keepW, dataW])
end Go.Proofs.YtpfbfkjmdlogcaaDoor
