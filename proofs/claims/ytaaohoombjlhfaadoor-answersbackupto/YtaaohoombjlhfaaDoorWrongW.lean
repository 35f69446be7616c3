/-
  The walk of wrong, of bytes with which no whole reply begins.
-/
import Derived.Test.YtaaohoombjlhfaaDoorCutKit
namespace Go.Proofs.YtaaohoombjlhfaaDoor
open Go.RowKit

set_option maxHeartbeats 2000000 in
set_option maxRecDepth 1000000 in
theorem wrong_any (a : Option Addr) (c : Nat) (b : List UInt8) (w : World) (hb : IsBytes w a c b) (hl : b.length ≤ 4294967296) (hT : Tabs w) (h5 : 5 ≤ w.heap.size) (hz : (scan b).1 = 0) :
    Calls Tryd.prog 33 #[.slice a b.length c] w fun e w' => e = .returned (.bool (decide (0 < (scan b).2))) ∧ Below w.heap.size w w' := by
  have HH : Hid (IsBytes w a c b ∧ b.length ≤ 4294967296 ∧ Tabs w ∧ 5 ≤ w.heap.size ∧ (scan b).1 = 0) := ⟨hb, hl, hT, h5, hz⟩
  clear hb hl hT h5 hz
  go_enter Tryd.func33, Tryd.ntmps33
  go_wp2_with fail
  refine (new_rd w HH.out.2.2.2.1).mono ?_
  rintro x w1 ⟨rfl, r1, B1⟩
  obtain ⟨rb, hrb⟩ : ∃ rb, rb = w.heap.size := ⟨_, rfl⟩
  rw [← hrb] at r1 ⊢
  have H1 : Hid (RdAt w1 rb (.slice none 0 0) [] 0 ∧ Below w.heap.size w w1 ∧ rb = w.heap.size) := ⟨r1, B1, hrb⟩
  clear r1 B1 hrb
  go_wp2_with fail
  refine (feed_any w1 rb (.slice none 0 0) [] b 0 a c H1.out.1 (HH.out.1.below H1.out.2.1) (by simpa using HH.out.2.1) (HH.out.2.2.1.below H1.out.2.1)).mono ?_
  rintro x w2 ⟨rfl, v2, r2, K2, m2⟩
  rw [List.nil_append] at r2
  have H2 : Hid (RdAt w2 rb v2 b 0 ∧ Below w.heap.size w w2 ∧ ∀ k, Mine rb v2 k → w.heap.size ≤ k) := by
    have hlow : ∀ k, Mine rb (.slice none 0 0) k → w.heap.size ≤ k := by
      rintro k (rfl | hk)
      · have := H1.out.2.2; omega
      · cases hk
    refine ⟨r2, H1.out.2.1.trans (K2.below H1.out.2.1.size (fun k hk e => ?_)), fun k hk => ?_⟩
    · have := hlow k e
      omega
    · rcases m2 k hk with e | e
      · exact hlow k e
      · exact Nat.le_trans H1.out.2.1.size e
  clear r2 K2 m2
  go_wp2_with fail
  refine (next_any w2 rb v2 b 0 H2.out.1 HH.out.2.1 (HH.out.2.2.1.below H2.out.2.1)).mono ?_
  rintro x w3 h3
  rcases h3 with ⟨h, _⟩ | ⟨h0, rfl, v3, r3, K3, m3⟩
  · have := HH.out.2.2.2.2
    omega
  · have H3 : Hid (Below w.heap.size w w3) := H2.out.2.1.trans (K3.below H2.out.2.1.size (fun k hk e => by have := H2.out.2.2 k e; omega))
    clear r3 K3 m3 h0
    rw [show rpV rp0 (.slice none 0 0) = .agg #[.int .i64 0, .int .i64 0, .int .i64 0, .string ⟨#[]⟩, .slice none 0 0] from rfl]
    by_cases hs : 0 < (scan b).2
    · rw [if_pos hs]
      have HS : Hid (0 < (scan b).2) := hs
      clear hs
      go_wp2_with fail
      go_ret
      exact ⟨by simp [HS.out], H3.out.alloc H3.out.size _⟩
    · rw [if_neg hs]
      have HS : Hid (¬ 0 < (scan b).2) := hs
      clear hs
      go_wp2_with fail
      go_ret
      exact ⟨by rw [decide_eq_false HS.out]; rfl, H3.out.alloc H3.out.size _⟩
end Go.Proofs.YtaaohoombjlhfaaDoor
