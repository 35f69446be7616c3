/-
  The walk of the statement on frames that stand elsewhere.
-/
import Derived.Test.YtjbmolclagmecabShown
import Derived.Test.YtjbmolclagmecabMay
namespace Go.Proofs.Ytjbmolclagmecab.frameElsewhere
open Go.RowKit

theorem take_place {F P Q : Nat} (l : List UInt8) (hf : F < 4294967296) (hp : P < 4294967296) (hq : Q < 4294967296) (hl : lenB l.length = true) : takeE F Q (Crc.frame F P l) = if P = Q then 0 else 23 := by
  have e : Crc.frame F P l = Crc.le 4 l.length ++ (Crc.le 4 (Crc.fsum F P l) ++ (l ++ [])) := by simp [Crc.frame]
  rw [e, take_parts l [] _ (wordB_mk (by omega)) (wordB_mk (by omega)) hl (Crc.fsum_lt _ _ _)]
  by_cases h : P = Q
  · subst h; simp
  · rw [if_neg h, if_neg (Crc.fsum_place F Q P l (by omega) hq hp (fun e => h e.symm))]
theorem take_file {F G P : Nat} (l : List UInt8) (hf : F < 4294967296) (hg : G < 4294967296) (hp : P < 4294967296) (hl : lenB l.length = true) : takeE G P (Crc.frame F P l) = if F = G then 0 else 23 := by
  have e : Crc.frame F P l = Crc.le 4 l.length ++ (Crc.le 4 (Crc.fsum F P l) ++ (l ++ [])) := by simp [Crc.frame]
  rw [e, take_parts l [] _ (wordB_mk (by omega)) (wordB_mk (by omega)) hl (Crc.fsum_lt _ _ _)]
  by_cases h : F = G
  · subst h; simp
  · rw [if_neg h, if_neg (Crc.fsum_file G F P l hg hf (by omega) (fun e => h e.symm))]

set_option maxHeartbeats 2000000 in
set_option maxRecDepth 1000000 in
theorem small (f p o : Int) (a : Option Addr) (c : Nat) (l : List UInt8) (w : World) (c0 : 0 ≤ f) (c1 : f < 4294967296) (c2 : 0 ≤ p) (c3 : p < 4294967296) (c4 : 0 ≤ o) (c5 : o < 4294967296) (h1 : IsBytes w a c l) (hE : makeE f p l = 0) (E1 E2 : Int)
    (x : List UInt8) (hL : makeL f p l = x) (h14 : takeE f o x = E1) (h17 : takeE o p x = E2) (he1 : E1 = 0 ∨ E1 = 23) (he2 : E2 = 0 ∨ E2 = 23) (hp1 : (E1 = 0) = (p = o)) (hp2 : (E2 = 0) = (f = o)) :
    Calls Try.prog 3 #[.int .i64 f, .int .i64 p, .int .i64 o, .slice a l.length c] w fun e w' => e = .returned (.bool true) ∧ Below w.heap.size w w' := by
  have H1 : Hid (IsBytes w a c l) := h1
  clear h1
  have hM : mayB f p l = true := decide_eq_true hE
  have HE : Hid (makeE f p l = 0) := hE
  have HM : Hid (mayB f p l = true) := hM
  have HL : Hid (makeL f p l = x) := hL
  have HT1 : Hid (takeE f o x = E1) := h14
  have HT2 : Hid (takeE o p x = E2) := h17
  clear hE hM hL h14 h17
  rcases he1 with rfl | rfl <;> rcases he2 with rfl | rfl
  · have hPO : p = o := (by simpa using hp1)
    have bPO : (p == o) = true := by simp [hPO]
    have hFO : f = o := (by simpa using hp2)
    have bFO : (f == o) = true := by simp [hFO]
    clear hp1 hp2 hPO hFO
    go_enter Try.func3, Try.ntmps3
    go_wp2_with (first
      | (go_at_call 6; refine (shown_any _).mono ?_; rintro e w1 ⟨rfl, B1⟩; have HB1 : Hid (Below w.heap.size w w1) := B1; clear B1)
      | (go_at_call 7; refine (may_any _ _ _ _ _ _).mono ?_; rintro e w2 ⟨rfl, hW⟩; have hW := hW.symm; subst hW; rw [HM.out])
      | (go_at_call 8; fail))
    refine (make_any f p a c l _ (H1.out.below HB1.out)).mono ?_
    rintro e w2 ⟨v2, rfl, own2, B2⟩
    rw [HE.out]
    rw [HL.out] at own2
    obtain ⟨a2, c2, rfl, is2⟩ := own2.shape
    have HB2 : Hid (Below w.heap.size w w2) := HB1.out.trans (B2.mono HB1.out.size)
    have IS2 : Hid (IsBytes w2 a2 c2 x) := is2
    clear B2 own2 is2
    have hz := HB2.out.size
    go_wp2_with fail
    refine (take_any f o a2 c2 x _ IS2.out).mono ?_
    rintro e w3 ⟨v3, rfl, _, B3⟩
    rw [HT1.out]
    have HB3 : Hid (Below w.heap.size w w3) := HB2.out.trans (B3.mono hz)
    have IS3 : Hid (IsBytes w3 a2 c2 x) := IS2.out.below B3
    clear B3
    have hz3 := HB3.out.size
    go_wp2_with fail
    refine (take_any o p a2 c2 x _ IS3.out).mono ?_
    rintro e w4 ⟨v4, rfl, _, B4⟩
    rw [HT2.out]
    have HB4 : Hid (Below w.heap.size w w4) := HB3.out.trans (B4.mono hz3)
    clear B4
    go_wp2
    go_ret
    exact ⟨rfl, HB4.out⟩
  · have hPO : p = o := (by simpa using hp1)
    have bPO : (p == o) = true := by simp [hPO]
    have hFO : ¬ f = o := (by simpa using hp2)
    have bFO : (f == o) = false := by rw [beq_eq_false_iff_ne]; omega
    clear hp1 hp2 hPO hFO
    go_enter Try.func3, Try.ntmps3
    go_wp2_with (first
      | (go_at_call 6; refine (shown_any _).mono ?_; rintro e w1 ⟨rfl, B1⟩; have HB1 : Hid (Below w.heap.size w w1) := B1; clear B1)
      | (go_at_call 7; refine (may_any _ _ _ _ _ _).mono ?_; rintro e w2 ⟨rfl, hW⟩; have hW := hW.symm; subst hW; rw [HM.out])
      | (go_at_call 8; fail))
    refine (make_any f p a c l _ (H1.out.below HB1.out)).mono ?_
    rintro e w2 ⟨v2, rfl, own2, B2⟩
    rw [HE.out]
    rw [HL.out] at own2
    obtain ⟨a2, c2, rfl, is2⟩ := own2.shape
    have HB2 : Hid (Below w.heap.size w w2) := HB1.out.trans (B2.mono HB1.out.size)
    have IS2 : Hid (IsBytes w2 a2 c2 x) := is2
    clear B2 own2 is2
    have hz := HB2.out.size
    go_wp2_with fail
    refine (take_any f o a2 c2 x _ IS2.out).mono ?_
    rintro e w3 ⟨v3, rfl, _, B3⟩
    rw [HT1.out]
    have HB3 : Hid (Below w.heap.size w w3) := HB2.out.trans (B3.mono hz)
    have IS3 : Hid (IsBytes w3 a2 c2 x) := IS2.out.below B3
    clear B3
    have hz3 := HB3.out.size
    go_wp2_with fail
    refine (take_any o p a2 c2 x _ IS3.out).mono ?_
    rintro e w4 ⟨v4, rfl, _, B4⟩
    rw [HT2.out]
    have HB4 : Hid (Below w.heap.size w w4) := HB3.out.trans (B4.mono hz3)
    clear B4
    go_wp2
    go_ret
    exact ⟨rfl, HB4.out⟩
  · have hPO : ¬ p = o := (by simpa using hp1)
    have bPO : (p == o) = false := by rw [beq_eq_false_iff_ne]; omega
    have hFO : f = o := (by simpa using hp2)
    have bFO : (f == o) = true := by simp [hFO]
    clear hp1 hp2 hPO hFO
    go_enter Try.func3, Try.ntmps3
    go_wp2_with (first
      | (go_at_call 6; refine (shown_any _).mono ?_; rintro e w1 ⟨rfl, B1⟩; have HB1 : Hid (Below w.heap.size w w1) := B1; clear B1)
      | (go_at_call 7; refine (may_any _ _ _ _ _ _).mono ?_; rintro e w2 ⟨rfl, hW⟩; have hW := hW.symm; subst hW; rw [HM.out])
      | (go_at_call 8; fail))
    refine (make_any f p a c l _ (H1.out.below HB1.out)).mono ?_
    rintro e w2 ⟨v2, rfl, own2, B2⟩
    rw [HE.out]
    rw [HL.out] at own2
    obtain ⟨a2, c2, rfl, is2⟩ := own2.shape
    have HB2 : Hid (Below w.heap.size w w2) := HB1.out.trans (B2.mono HB1.out.size)
    have IS2 : Hid (IsBytes w2 a2 c2 x) := is2
    clear B2 own2 is2
    have hz := HB2.out.size
    go_wp2_with fail
    refine (take_any f o a2 c2 x _ IS2.out).mono ?_
    rintro e w3 ⟨v3, rfl, _, B3⟩
    rw [HT1.out]
    have HB3 : Hid (Below w.heap.size w w3) := HB2.out.trans (B3.mono hz)
    have IS3 : Hid (IsBytes w3 a2 c2 x) := IS2.out.below B3
    clear B3
    have hz3 := HB3.out.size
    go_wp2_with fail
    refine (take_any o p a2 c2 x _ IS3.out).mono ?_
    rintro e w4 ⟨v4, rfl, _, B4⟩
    rw [HT2.out]
    have HB4 : Hid (Below w.heap.size w w4) := HB3.out.trans (B4.mono hz3)
    clear B4
    go_wp2
    go_ret
    exact ⟨rfl, HB4.out⟩
  · have hPO : ¬ p = o := (by simpa using hp1)
    have bPO : (p == o) = false := by rw [beq_eq_false_iff_ne]; omega
    have hFO : ¬ f = o := (by simpa using hp2)
    have bFO : (f == o) = false := by rw [beq_eq_false_iff_ne]; omega
    clear hp1 hp2 hPO hFO
    go_enter Try.func3, Try.ntmps3
    go_wp2_with (first
      | (go_at_call 6; refine (shown_any _).mono ?_; rintro e w1 ⟨rfl, B1⟩; have HB1 : Hid (Below w.heap.size w w1) := B1; clear B1)
      | (go_at_call 7; refine (may_any _ _ _ _ _ _).mono ?_; rintro e w2 ⟨rfl, hW⟩; have hW := hW.symm; subst hW; rw [HM.out])
      | (go_at_call 8; fail))
    refine (make_any f p a c l _ (H1.out.below HB1.out)).mono ?_
    rintro e w2 ⟨v2, rfl, own2, B2⟩
    rw [HE.out]
    rw [HL.out] at own2
    obtain ⟨a2, c2, rfl, is2⟩ := own2.shape
    have HB2 : Hid (Below w.heap.size w w2) := HB1.out.trans (B2.mono HB1.out.size)
    have IS2 : Hid (IsBytes w2 a2 c2 x) := is2
    clear B2 own2 is2
    have hz := HB2.out.size
    go_wp2_with fail
    refine (take_any f o a2 c2 x _ IS2.out).mono ?_
    rintro e w3 ⟨v3, rfl, _, B3⟩
    rw [HT1.out]
    have HB3 : Hid (Below w.heap.size w w3) := HB2.out.trans (B3.mono hz)
    have IS3 : Hid (IsBytes w3 a2 c2 x) := IS2.out.below B3
    clear B3
    have hz3 := HB3.out.size
    go_wp2_with fail
    refine (take_any o p a2 c2 x _ IS3.out).mono ?_
    rintro e w4 ⟨v4, rfl, _, B4⟩
    rw [HT2.out]
    have HB4 : Hid (Below w.heap.size w w4) := HB3.out.trans (B4.mono hz3)
    clear B4
    go_wp2
    go_ret
    exact ⟨rfl, HB4.out⟩

set_option maxHeartbeats 2000000 in
set_option maxRecDepth 1000000 in
theorem walk (f p q : Int) (a : Option Addr) (c : Nat) (l : List UInt8) (w : World) (_hf : -9223372036854775808 ≤ f ∧ f ≤ 9223372036854775807) (_hp : -9223372036854775808 ≤ p ∧ p ≤ 9223372036854775807) (_hq : -9223372036854775808 ≤ q ∧ q ≤ 9223372036854775807)
    (h1 : IsBytes w a c l ∧ (a = none → c = 0)) :
    Calls Try.prog 3 #[.int .i64 f, .int .i64 p, .int .i64 q, .slice a l.length c] w fun e w' => e = .returned (.bool true) ∧ Below w.heap.size w w' := by
  by_cases c0 : ¬ (0 ≤ f)
  · go_enter Try.func3, Try.ntmps3
    go_wp2_with (go_at_call 6; refine (shown_any _).mono ?_; rintro e w1 ⟨rfl, B1⟩; have HB1 : Hid (Below w.heap.size w w1) := B1; clear B1)
    go_ret
    exact ⟨rfl, HB1.out⟩
  have c0 := Classical.not_not.1 c0
  by_cases c1 : ¬ (f < 4294967296)
  · go_enter Try.func3, Try.ntmps3
    go_wp2_with (go_at_call 6; refine (shown_any _).mono ?_; rintro e w1 ⟨rfl, B1⟩; have HB1 : Hid (Below w.heap.size w w1) := B1; clear B1)
    go_ret
    exact ⟨rfl, HB1.out⟩
  have c1 := Classical.not_not.1 c1
  by_cases c2 : ¬ (0 ≤ p)
  · go_enter Try.func3, Try.ntmps3
    go_wp2_with (go_at_call 6; refine (shown_any _).mono ?_; rintro e w1 ⟨rfl, B1⟩; have HB1 : Hid (Below w.heap.size w w1) := B1; clear B1)
    go_ret
    exact ⟨rfl, HB1.out⟩
  have c2 := Classical.not_not.1 c2
  by_cases c3 : ¬ (p < 4294967296)
  · go_enter Try.func3, Try.ntmps3
    go_wp2_with (go_at_call 6; refine (shown_any _).mono ?_; rintro e w1 ⟨rfl, B1⟩; have HB1 : Hid (Below w.heap.size w w1) := B1; clear B1)
    go_ret
    exact ⟨rfl, HB1.out⟩
  have c3 := Classical.not_not.1 c3
  by_cases c4 : ¬ (0 ≤ q)
  · go_enter Try.func3, Try.ntmps3
    go_wp2_with (go_at_call 6; refine (shown_any _).mono ?_; rintro e w1 ⟨rfl, B1⟩; have HB1 : Hid (Below w.heap.size w w1) := B1; clear B1)
    go_ret
    exact ⟨rfl, HB1.out⟩
  have c4 := Classical.not_not.1 c4
  by_cases c5 : ¬ (q < 4294967296)
  · go_enter Try.func3, Try.ntmps3
    go_wp2_with (go_at_call 6; refine (shown_any _).mono ?_; rintro e w1 ⟨rfl, B1⟩; have HB1 : Hid (Below w.heap.size w w1) := B1; clear B1)
    go_ret
    exact ⟨rfl, HB1.out⟩
  have c5 := Classical.not_not.1 c5
  obtain ⟨F, rfl⟩ := Int.eq_ofNat_of_zero_le c0
  obtain ⟨P, rfl⟩ := Int.eq_ofNat_of_zero_le c2
  obtain ⟨O, rfl⟩ := Int.eq_ofNat_of_zero_le c4
  by_cases hE : makeE F P l = 0
  · obtain ⟨_, _, hl⟩ := makeE_ok hE
    refine small F P O a c l w c0 c1 c2 c3 c4 c5 h1.1 hE _ _ _ (makeL_ok hE) (take_place l (by omega) (by omega) (by omega) hl) (take_file l (by omega) (by omega) (by omega) hl) ?_ ?_ ?_ ?_
    · by_cases h : P = O <;> simp [h]
    · by_cases h : F = O <;> simp [h]
    · by_cases h : P = O
      · simp [h]
      · have : ¬ (P : Int) = (O : Int) := by omega
        simp [h, this]
    · by_cases h : F = O
      · simp [h]
      · have : ¬ (F : Int) = (O : Int) := by omega
        simp [h, this]
  · have HM : Hid (mayB F P l = false) := decide_eq_false hE
    clear hE
    go_enter Try.func3, Try.ntmps3
    go_wp2_with (first
      | (go_at_call 6; refine (shown_any _).mono ?_; rintro e w1 ⟨rfl, B1⟩; have HB1 : Hid (Below w.heap.size w w1) := B1; clear B1)
      | (go_at_call 7; refine (may_any _ _ _ _ _ _).mono ?_; rintro e w2 ⟨rfl, hW⟩; have hW := hW.symm; subst hW; rw [HM.out]))
    go_ret
    exact ⟨rfl, HB1.out⟩
end Go.Proofs.Ytjbmolclagmecab.frameElsewhere
