/-
  The walk of 'fed', at a line.
-/
import Derived.Test.YtabpicbhhplcgaaShown
import Derived.Test.YtabpicbhhplcgaaAmong
namespace Go.Proofs.Ytabpicbhhplcgaa
open Go.RowKit

theorem feed_line (s : In) (b : List UInt8) (h : s.stand = 0) : s.feed b = { s with held := s.held ++ b } := by
  unfold In.feed letGo
  rw [h]
  simp
theorem feed_n (w : World) (ib : Nat) (v : Value) (s : In) (a : Option Addr) (c n : Nat) (b : List UInt8) (hn : b.length = n) (h : InAt w ib v s) (h0 : s.stand = 0) (hb : IsBytes w a c b) (hl : s.held.length ≤ 2147483648) (hbl : b.length ≤ 2147483648) (hnd : s.need ≤ 4294967297) (hm : MaxAt w) :
    Calls Try.prog 18 #[.pointer (some ⟨ib, 0, none⟩), .slice a n c] w fun e w' => e = .returned (.tuple #[]) ∧ Went w ib v { s with held := s.held ++ b } w' := by
  subst hn
  have := feed_any w ib v s a c b h hb hl hbl hnd hm
  rwa [feed_line s b h0] at this
theorem IsBytes.seg {w : World} {a : Option Addr} {c : Nat} {b : List UInt8} (h : IsBytes w a c b) (j k : Nat) (hj : j ≤ b.length) : IsBytes w (a.map fun x => x.add j) (c - j) ((b.drop j).take k) := (h.map j hj).take k
theorem IsBytes.went {w w' : World} {ib : Nat} {v : Value} {s : In} {a : Option Addr} {c : Nat} {b : List UInt8} (h : IsBytes w a c b) (hk : Went w ib v s w') (hap : ∀ b' o, a = some ⟨b', o, none⟩ → b ≠ [] → ¬ Mine ib v b') : IsBytes w' a c b := h.kept hk.kept hap
theorem apart_went {w : World} {ib : Nat} {v v' : Value} {a : Option Addr} {c : Nat} {b : List UInt8} (h : IsBytes w a c b) (hn : ∀ k, Mine ib v' k → Mine ib v k ∨ w.heap.size ≤ k) (hap : ∀ b' o, a = some ⟨b', o, none⟩ → b ≠ [] → ¬ Mine ib v b') : ∀ b' o, a = some ⟨b', o, none⟩ → b ≠ [] → ¬ Mine ib v' b' := by
  intro b' o e hne hM
  rcases hn b' hM with h1 | h1
  · exact hap b' o e hne h1
  · obtain ⟨b2, o2, e2, hb2, _⟩ := h.get hne
    rw [e] at e2
    cases e2
    omega
set_option maxHeartbeats 2000000 in
set_option maxRecDepth 1000000 in
theorem fed_any (w : World) (ib : Nat) (v : Value) (s : In) (a : Option Addr) (c : Nat) (b : List UInt8) (at_ : Int) (h : InAt w ib v s) (hs : s.stand = 0) (hnd : s.need ≤ 4294967297) (hb : IsBytes w a c b) (hl : s.held.length + b.length ≤ 2147483647) (hm : MaxAt w) (hap : ∀ b' o, a = some ⟨b', o, none⟩ → b ≠ [] → ¬ Mine ib v b') (h0 : ¬ Mine ib v 0) :
    Calls Try.prog 24 #[.pointer (some ⟨ib, 0, none⟩), .slice a b.length c, .int .i64 at_] w fun e w' => e = .returned (.tuple #[]) ∧ Went w ib v { s with held := s.held ++ b } w' := by
  have HI : Hid (InAt w ib v s) := h
  have HB : Hid (IsBytes w a c b) := hb
  have HM : Hid (MaxAt w) := hm
  have hbc : b.length ≤ c := hb.1
  have hcm : c ≤ 9223372036854775807 := by have := hb.2.1; unfold maxLen at this; omega
  have HP : Hid (∀ b' o, a = some ⟨b', o, none⟩ → b ≠ [] → ¬ Mine ib v b') := hap
  clear h hb hm hap
  go_enter Try.func24, Try.ntmps24
  go_wp2_with fail
  refine (among_any at_ (b.length + 1) w (by omega)).mono ?_
  rintro e w1 ⟨rfl, hW⟩
  have hW := hW.symm
  subst hW
  have har := among_range (i := at_) (n := (b.length : Int) + 1) (by omega)
  obtain ⟨k, hk⟩ : ∃ k : Nat, amongI at_ (b.length + 1) = k := ⟨(amongI at_ (b.length + 1)).toNat, by omega⟩
  rw [hk] at har
  rw [hk]
  have hkl : k ≤ b.length := by omega
  have hjk : k / 2 ≤ k := by omega
  clear hk har
  have HE : Hid (s.held ++ b = ((s.held ++ b.take (k / 2)) ++ (b.drop (k / 2)).take (k - k / 2)) ++ b.drop k) := by
    show s.held ++ b = _
    rw [List.append_assoc, List.append_assoc]
    congr 1
    have h2 : b.drop k = (b.drop (k / 2)).drop (k - k / 2) := by rw [List.drop_drop]; congr 1; omega
    rw [h2, List.take_append_drop, List.take_append_drop]
  go_wp2_with fail
  refine (feed_n w ib v s a c (k / 2) (b.take (k / 2)) (by simp; omega) HI.out hs (HB.out.take _) (by omega) (by simp; omega) hnd HM.out).mono ?_
  rintro e w1 ⟨rfl, W1⟩
  obtain ⟨v1, hI1, K1, N1⟩ := W1
  have HI1 : Hid (InAt w1 ib v1 { s with held := s.held ++ b.take (k / 2) } ∧ Kept (Mine ib v) w w1 ∧ ∀ k, Mine ib v1 k → Mine ib v k ∨ w.heap.size ≤ k) := ⟨hI1, K1, N1⟩
  have HB1 : Hid (IsBytes w1 a c b) := HB.out.kept K1 HP.out
  have HP1 : Hid (∀ b' o, a = some ⟨b', o, none⟩ → b ≠ [] → ¬ Mine ib v1 b') := apart_went HB.out N1 HP.out
  have HM1 : Hid (MaxAt w1) := HM.out.kept K1 h0
  have h01 : ¬ Mine ib v1 0 := fun h => (N1 0 h).elim h0 (fun h => by have := HM.out.lt; omega)
  have hsz1 := K1.size
  clear hI1 K1 N1
  go_wp2_with fail
  all_goals (
    refine (feed_n w1 ib v1 { s with held := s.held ++ b.take (k / 2) } _ _ (k - k / 2) ((b.drop (k / 2)).take (k - k / 2)) (by simp; omega) HI1.out.1 hs (by first | exact HB1.out.seg (k / 2) (k - k / 2) (by omega) | (rw [show (b.drop (k / 2)).take (k - k / 2) = [] from List.eq_nil_of_length_eq_zero (by simp; omega)]; exact IsBytes.empty _ _ (by unfold maxLen; omega))) (by simp; omega) (by simp; omega) hnd HM1.out).mono ?_
    rintro e w2 ⟨rfl, W2⟩
    obtain ⟨v2, hI2, K2, N2⟩ := W2
    have HI2 : Hid (InAt w2 ib v2 { s with held := (s.held ++ b.take (k / 2)) ++ (b.drop (k / 2)).take (k - k / 2) } ∧ Kept (Mine ib v1) w1 w2 ∧ ∀ k, Mine ib v2 k → Mine ib v1 k ∨ w1.heap.size ≤ k) := ⟨hI2, K2, N2⟩
    have HB2 : Hid (IsBytes w2 a c b) := HB1.out.kept K2 HP1.out
    have HM2 : Hid (MaxAt w2) := HM1.out.kept K2 h01
    clear hI2 K2 N2
    go_wp2_with fail
    all_goals (
      refine (feed_n w2 ib v2 { s with held := (s.held ++ b.take (k / 2)) ++ (b.drop (k / 2)).take (k - k / 2) } _ _ (b.length - k) (b.drop k) (by simp) HI2.out.1 hs (by first | exact HB2.out.map k hkl | (rw [List.drop_eq_nil_of_le (by omega)]; exact IsBytes.empty _ _ (by unfold maxLen; omega))) (by simp; omega) (by simp; omega) hnd HM2.out).mono ?_
      rintro e w3 ⟨rfl, W3⟩
      have HW : Hid (Went w ib v { s with held := s.held ++ b } w3) := by
        rw [HE.out]
        exact Went.trans HI1.out.2.1 HI1.out.2.2 (Went.trans HI2.out.2.1 HI2.out.2.2 W3)
      clear W3
      go_wp2
      go_end0
      exact ⟨rfl, HW.out⟩))
end Go.Proofs.Ytabpicbhhplcgaa
