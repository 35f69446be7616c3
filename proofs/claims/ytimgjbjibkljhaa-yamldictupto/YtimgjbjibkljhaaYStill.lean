/-
  Layer 9: pairsStill.
-/
import Derived.Test.YtimgjbjibkljhaaYHolds
import Derived.Test.YtimgjbjibkljhaaTexts
import Derived.Test.YtimgjbjibkljhaaDictW
import Derived.Deep.Cut
import Derived.Deep.LoopGhost
namespace Go.Proofs.Ytimgjbjibkljhaa
open Go.RowKit

def bh : BP := (⟨#[98, 101, 104, 105, 110, 100]⟩, ⟨#[]⟩)
theorem IsPairs.front {w : World} {a : Option Addr} {c : Nat} {ps qs : List BP} (h : IsPairs w a c (ps ++ qs)) : IsPairs w a c ps := by
  obtain ⟨h1, h2, h3⟩ := h
  rw [List.length_append] at h1 h2
  refine ⟨by omega, by omega, ?_⟩
  rcases h3 with h3 | ⟨b, o, rfl, hb, hc⟩
  · exact .inl (List.append_eq_nil_iff.1 h3).1
  · exact .inr ⟨b, o, rfl, hb, fun j p hj => hc j p (by rw [List.getElem?_append_left (List.getElem?_eq_some_iff.1 hj).1]; exact hj)⟩
set_option maxHeartbeats 4000000 in
set_option maxRecDepth 1000000 in
theorem pairsStill_any (a1 a2 : Option Addr) (c1 c2 : Nat) (ps : List BP) (w : World) (h1 : IsPairs w a1 c1 (ps ++ [bh, bh])) (h2 : IsPairs w a2 c2 ps) :
    Calls Try.prog 36 #[.slice a1 ps.length c1, .slice a2 ps.length c2] w fun e w' => e = .returned (.bool true) ∧ Below w.heap.size w w' := by
  have H1 := hideY h1.front
  have H2 := hideY h2
  obtain ⟨q1, q2, q3⟩ := h1
  rw [List.length_append] at q1 q2
  obtain ⟨b, o, rfl, hb, hc⟩ := q3.resolve_left (by simp)
  have e0 := hc ps.length bh (by simp)
  have e1 := hc (ps.length + 1) bh (by rw [List.getElem?_append_right (by omega)]; simp)
  obtain ⟨n, hn⟩ : ∃ n, n = ps.length := ⟨_, rfl⟩
  rw [← hn] at e0 e1 q1 q2 ⊢
  have HN := hideY hn
  simp at q1 q2
  have E0 := hideY e0
  have E1 := hideY e1
  have hlt : b < w.heap.size := hb
  have hcn : ¬ c1 = n := by omega
  have j1 : (n : Int) ≤ (n : Int) + 2 := by omega
  have j2 : (n : Int) + 2 ≤ (c1 : Int) := by omega
  have j3 : (0 : Int) ≤ (n : Int) := by omega
  clear hc hn e0 e1 q3 h2 hb
  go_enter Try.func36, Try.ntmps36
  go_upto_region 2 with fail
  go_loopg [15] 2 (fun gk i wr => ∃ k : Nat, i = .int .i64 k ∧ k ≤ 2 ∧ 2 - k ≤ gk ∧ Hid (Below w.heap.size w wr))
  case atStart => exact ⟨0, rfl, by omega, by omega, Below.refl _ _⟩
  case round =>
    obtain ⟨k, rfl, hk, hgk, HB⟩ := hrel
    have hbr : b < wr.heap.size := Nat.lt_of_lt_of_le hlt HB.out.size
    rcases (show k = 0 ∨ k = 1 ∨ k = 2 by omega) with rfl | rfl | rfl
    · have x0 : wr.cell? ⟨b, o + n * 2, none⟩ = some (.string ⟨#[98, 101, 104, 105, 110, 100]⟩) := (HB.out.cell (p := ⟨b, o + n * 2, none⟩) hlt).trans E0.out.1
      have x1 : wr.cell? ⟨b, o + n * 2 + 1, none⟩ = some (.string ⟨#[]⟩) := (HB.out.cell (p := ⟨b, o + n * 2 + 1, none⟩) hlt).trans E0.out.2
      go_wp2_with fail
      go_roundg 1
      case measure => omega
      case rel => exact ⟨1, rfl, by omega, by omega, HB.out.alloc HB.out.size _⟩
    · have x0 : wr.cell? ⟨b, o + n * 2 + 2, none⟩ = some (.string ⟨#[98, 101, 104, 105, 110, 100]⟩) := by
        have := (HB.out.cell (p := ⟨b, o + (n + 1) * 2, none⟩) hlt).trans E1.out.1
        rw [show o + (n + 1) * 2 = o + n * 2 + 2 by omega] at this
        exact this
      have x1 : wr.cell? ⟨b, o + n * 2 + 2 + 1, none⟩ = some (.string ⟨#[]⟩) := by
        have := (HB.out.cell (p := ⟨b, o + (n + 1) * 2 + 1, none⟩) hlt).trans E1.out.2
        rw [show o + (n + 1) * 2 + 1 = o + n * 2 + 2 + 1 by omega] at this
        exact this
      go_wp2_with fail
      go_roundg 0
      case measure => omega
      case rel => exact ⟨2, rfl, by omega, by omega, HB.out.alloc HB.out.size _⟩
    · have CP : Hid (Calls Try.prog 22 #[.slice (some ⟨b, o, none⟩) n c1, .slice a2 n c2] wr fun e w' => e = .returned (.bool true) ∧ ∃ m, w' = wr.drewN m) := by
        have := pairs_any (some ⟨b, o, none⟩) a2 c1 c2 ps ps wr (H1.out.below HB.out) (H2.out.below HB.out)
        rw [decide_eq_true rfl, ← HN.out] at this
        exact this
      go_wp2_with (go_at_call 22; refine CP.out.mono ?_; rintro e w2 ⟨rfl, m2, hw2⟩; have B2 : Hid (Below w.heap.size w w2) := (by rw [hw2]; exact HB.out.trans ((below_drewM _ wr m2).mono HB.out.size)); clear hw2)
      go_ret
      exact ⟨rfl, B2.out⟩
theorem IsStrs.front {w : World} {a : Option Addr} {c : Nat} {ts us : List ByteArray} (h : IsStrs w a c (ts ++ us)) : IsStrs w a c ts := by
  obtain ⟨h1, h2, h3⟩ := h
  rw [List.length_append] at h1 h2
  refine ⟨by omega, by omega, ?_⟩
  rcases h3 with h3 | ⟨b, o, rfl, hb, hc⟩
  · exact .inl (List.append_eq_nil_iff.1 h3).1
  · exact .inr ⟨b, o, rfl, hb, fun j p hj => hc j p (by rw [List.getElem?_append_left (List.getElem?_eq_some_iff.1 hj).1]; exact hj)⟩
def bs : ByteArray := ⟨#[98, 101, 104, 105, 110, 100]⟩
set_option maxHeartbeats 4000000 in
set_option maxRecDepth 1000000 in
theorem still_any (a1 a2 : Option Addr) (c1 c2 : Nat) (ts : List ByteArray) (w : World) (h1 : IsStrs w a1 c1 (ts ++ [bs, bs])) (h2 : IsStrs w a2 c2 ts) :
    Calls Try.prog 31 #[.slice a1 ts.length c1, .slice a2 ts.length c2] w fun e w' => e = .returned (.bool true) ∧ Below w.heap.size w w' := by
  have H1 := hideY h1.front
  have H2 := hideY h2
  obtain ⟨q1, q2, q3⟩ := h1
  rw [List.length_append] at q1 q2
  obtain ⟨b, o, rfl, hb, hc⟩ := q3.resolve_left (by simp)
  have e0 := hc ts.length bs (by simp)
  have e1 := hc (ts.length + 1) bs (by rw [List.getElem?_append_right (by omega)]; simp)
  obtain ⟨n, hn⟩ : ∃ n, n = ts.length := ⟨_, rfl⟩
  rw [← hn] at e0 e1 q1 q2 ⊢
  have HN := hideY hn
  simp at q1 q2
  have hn63 : n ≤ 9223372036854775805 := by unfold maxLen at q2; omega
  have hw2 : wrap64 ((n : Int) + 2) = (n : Int) + 2 := by
    have e : wrap64 ((n : Int) + 2) = IntKind.i64.wrap ((n : Int) + 2) := by unfold wrap64; rw [IntKind.wrap_i64]
    rw [e, IntKind.wrap_i64]
    omega
  have E0 := hideY e0
  have E1 := hideY e1
  have hlt : b < w.heap.size := hb
  have hcn : ¬ c1 = n := by omega
  have j1 : (n : Int) ≤ (n : Int) + 2 := by omega
  have j2 : (n : Int) + 2 ≤ (c1 : Int) := by omega
  have j3 : (0 : Int) ≤ (n : Int) := by omega
  clear hc hn e0 e1 q3 h2 hb
  go_enter Try.func31, Try.ntmps31
  go_upto_region 2 with fail
  go_loopg [15] 2 (fun gk i wr => ∃ k : Nat, i = .int .i64 k ∧ k ≤ 2 ∧ 2 - k ≤ gk ∧ wr = w)
  case atStart => exact ⟨0, rfl, by omega, by omega, rfl⟩
  case round =>
    obtain ⟨k, rfl, hk, hgk, hwr⟩ := hrel
    subst hwr
    rcases (show k = 0 ∨ k = 1 ∨ k = 2 by omega) with rfl | rfl | rfl
    · have x0 : wr.cell? ⟨b, o + n, none⟩ = some (.string ⟨#[98, 101, 104, 105, 110, 100]⟩) := E0.out
      go_wp2_with fail
      go_roundg 1
      case measure => omega
      case rel => exact ⟨1, rfl, by omega, by omega, rfl⟩
    · have x0 : wr.cell? ⟨b, o + n + 1, none⟩ = some (.string ⟨#[98, 101, 104, 105, 110, 100]⟩) := E1.out
      go_wp2_with fail
      go_roundg 0
      case measure => omega
      case rel => exact ⟨2, rfl, by omega, by omega, rfl⟩
    · have CP : Hid (Calls Try.prog 16 #[.slice (some ⟨b, o, none⟩) n c1, .slice a2 n c2] wr fun e w' => e = .returned (.bool true) ∧ ∃ m, w' = wr.drewN m) := by
        have := texts_any (some ⟨b, o, none⟩) a2 c1 c2 ts ts wr H1.out H2.out
        rw [decide_eq_true rfl, ← HN.out] at this
        exact this
      go_wp2_with (go_at_call 16; refine CP.out.mono ?_; rintro e w2 ⟨rfl, m2, hw2⟩; have B2 : Hid (Below wr.heap.size wr w2) := (by rw [hw2]; exact below_drewM _ wr m2); clear hw2)
      go_ret
      exact ⟨rfl, B2.out⟩
end Go.Proofs.Ytimgjbjibkljhaa
