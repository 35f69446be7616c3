/-
  Layer 9: pairsLent.
-/
import Derived.Test.YtimgjbjibkljhaaYLentP
namespace Go.Proofs.Ytimgjbjibkljhaa
open Go.RowKit
set_option maxHeartbeats 2000000 in
set_option maxRecDepth 1000000 in
theorem pairsLent_any (a : Option Addr) (c : Nat) (ts : List BP) (w : World) (h : IsPairs w a c ts) (hl : ts.length ≤ 1073741800) :
    Calls Try.prog 17 #[.slice a ts.length c] w fun e w' => ∃ g c', e = .returned (.slice (some ⟨g, 0, none⟩) ts.length c') ∧ Prs w' w.heap.size (.slice (some ⟨g, 0, none⟩) (ts ++ [bh, bh]).length c') (ts ++ [bh, bh]) ∧ Below w.heap.size w w' := by
  obtain ⟨n, hn⟩ : ∃ n, n = ts.length := ⟨_, rfl⟩
  have HI := hideY h
  have HN := hideY hn
  rw [← hn] at hl ⊢
  clear h hn
  go_enter Try.func17, Try.ntmps17
  go_upto_region 2 with (refine wpList_appendP rfl (.const (.slice none 0 0)) (.tmp 4) rfl w.heap.size (.slice none 0 0) [] ts rfl (World.ownsRow_nil _ _ _ _) a c n HN.out rfl HI.out (by have := HN.out; simp; omega) (Nat.le_refl _) ?_; intro v1 w1 s1 g1; have S1 := hideY (And.intro s1 (below_ofN g1)); clear s1 g1)
  obtain ⟨w2, hw2⟩ : ∃ w2, w2 = w1.alloc (.cells #[.string bh.1, .string bh.2, .string bh.1, .string bh.2] 41) := ⟨_, rfl⟩
  have B2 : Below w1.heap.size w1 w2 := by rw [hw2]; exact (Below.refl _ w1).alloc (Nat.le_refl _) _
  have T2 : IsPairs w2 (some ⟨w1.heap.size, 0, none⟩) 2 [bh, bh] := by rw [hw2]; exact two_newP w1
  have HT2 := hideY (And.intro T2 B2)
  have HW2 := hideY hw2
  clear T2 B2 hw2
  go_upto_region 3 with (rw [show w1.alloc (.cells #[.string ⟨#[98, 101, 104, 105, 110, 100]⟩, .string ⟨#[]⟩, .string ⟨#[98, 101, 104, 105, 110, 100]⟩, .string ⟨#[]⟩] 41) = w2 from HW2.out.symm]; refine wpList_appendP rfl (.tmp 6) (.tmp 9) rfl w.heap.size v1 ([] ++ ts) [bh, bh] rfl (S1.out.1.below HT2.out.2) (some ⟨w1.heap.size, 0, none⟩) 2 2 rfl rfl HT2.out.1 (by have := HN.out; simp; omega) (Nat.le_trans S1.out.2.size HT2.out.2.size) ?_; intro v3 w3 s3 g3; have S3 := hideY (And.intro s3 g3); clear s3 g3)
  have B3 : Hid (Below w.heap.size w w3) := (S1.out.2.trans (HT2.out.2.mono S1.out.2.size)).grown S3.out.2 (Nat.le_trans S1.out.2.size HT2.out.2.size) (fun g hg => (World.ownsRow.lt S1.out.1 g hg).1)
  have S4 : Hid (Prs w3 w.heap.size v3 (ts ++ [bh, bh])) := by have := S3.out.1; rwa [List.nil_append] at this
  have SH : Hid (∃ g c', v3 = .slice (some ⟨g, 0, none⟩) (n + 2) c' ∧ n + 2 ≤ c' ∧ c' ≤ maxLen) := by
    rcases S4.out.2 with ⟨_, h0⟩ | ⟨g, cap, cur, e, _, _, h1, h2, _⟩
    · simp at h0
    · exact ⟨g, cap, by rw [e, HN.out]; simp, by have := HN.out; simp at h1; omega, h2⟩
  obtain ⟨g, c', e3, hc1, hc2⟩ := SH.out
  subst e3
  unfold maxLen at hc2
  have j1 : (0 : Int) ≤ (n : Int) := by omega
  have j2 : (n : Int) ≤ (c' : Int) := by omega
  clear S1 S3 SH HT2 HW2
  go_wp2_with fail
  go_ret
  exact ⟨g, c', rfl, by have h4 := S4.out; rw [HN.out] at h4; simpa using h4, B3.out⟩
end Go.Proofs.Ytimgjbjibkljhaa
