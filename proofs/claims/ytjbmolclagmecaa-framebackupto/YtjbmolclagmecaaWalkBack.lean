/-
  The walk of the statement that what is made is read.
-/
import Derived.Test.YtjbmolclagmecaaShown
import Derived.Test.YtjbmolclagmecaaMay
import Derived.Test.YtjbmolclagmecaaCopied
import Derived.Test.YtjbmolclagmecaaSame
namespace Go.Proofs.Ytjbmolclagmecaa.frameBack
open Go.RowKit Go.Lib

theorem same_yes (a1 a2 : Option Addr) (c1 c2 : Nat) (xs : List UInt8) (n : Nat) (w : World) (h1 : IsBytes w a1 c1 xs) (h2 : IsBytes w a2 c2 xs) (hn : xs.length = n) :
    Calls Try.prog 17 #[.slice a1 n c1, .slice a2 n c2] w fun e w' => e = .returned (.bool true) ∧ ∃ n, w' = w.drewN n := by
  have := same_any a1 a2 c1 c2 xs xs w h1 h2
  rw [hn] at this
  refine this.mono ?_
  rintro e w' ⟨rfl, h⟩
  exact ⟨by simp, h⟩

theorem take_sub {w : World} {a : Option Addr} {c : Nat} {l : List UInt8} (h : IsBytes w a c l) (k : Nat) : IsBytes w a c (l.take k) := by
  obtain ⟨h1, h2, h3⟩ := h
  refine ⟨by simp; omega, h2, ?_⟩
  rcases h3 with rfl | ⟨b, o, ha, hb, hc⟩
  · left; simp
  · refine .inr ⟨b, o, ha, hb, fun j x hj => hc j x ?_⟩
    have hjk : j < k := by have := (List.getElem?_eq_some_iff.1 hj).1; simp at this; omega
    rwa [List.getElem?_take_of_lt hjk] at hj

set_option maxHeartbeats 2000000 in
set_option maxRecDepth 1000000 in
theorem walk (f p : Int) (a : Option Addr) (c : Nat) (l : List UInt8) (a' : Option Addr) (c' : Nat) (r : List UInt8) (cut : Int) (w : World) (hf : -9223372036854775808 ≤ f ∧ f ≤ 9223372036854775807) (hp : -9223372036854775808 ≤ p ∧ p ≤ 9223372036854775807)
    (h1 : IsBytes w a c l ∧ (a = none → c = 0)) (h2 : IsBytes w a' c' r ∧ (a' = none → c' = 0)) (hc : -9223372036854775808 ≤ cut ∧ cut ≤ 9223372036854775807) (hk1 : l.length ≤ 1048576) (hk2 : r.length ≤ 1048576) :
    Calls Try.prog 7 #[.int .i64 f, .int .i64 p, .slice a l.length c, .slice a' r.length c', .int .i64 cut] w fun e w' => e = .returned (.bool true) ∧ Below w.heap.size w w' := by
  have H1 : Hid (IsBytes w a c l) := h1.1
  have H2 : Hid (IsBytes w a' c' r) := h2.1
  clear h1 h2
  by_cases hE : makeE f p l = 0
  · obtain ⟨hwf, hwp, hwl⟩ := makeE_ok hE
    have hfb := wordB_yes hwf
    have hpb := wordB_yes hwp
    have hlb := lenB_yes hwl
    obtain ⟨F, rfl⟩ := Int.eq_ofNat_of_zero_le hfb.1
    obtain ⟨P, rfl⟩ := Int.eq_ofNat_of_zero_le hpb.1
    have hM : mayB F P l = true := decide_eq_true hE
    have hL : makeL F P l = Crc.frame F P l := makeL_ok hE
    obtain ⟨x, hx⟩ : ∃ x, x = Crc.frame F P l := ⟨_, rfl⟩
    have hxl : x.length = l.length + 8 := by rw [hx]; exact Crc.frame_length _ _ _
    obtain ⟨t1, t2, t3⟩ := take_frame l r hwf hwp hwl
    rw [← hx] at t1 t2 t3 hL
    have HE : Hid (makeE F P l = 0) := hE
    have HM : Hid (mayB F P l = true) := hM
    have HL : Hid (makeL F P l = x) := hL
    have HX : Hid (x = Crc.frame F P l) := hx
    have HT1 : Hid (takeE F P (x ++ r) = 0) := t1
    have HT2 : Hid (takeN F P (x ++ r) = 8 + (l.length : Int)) := t2
    have HT3 : Hid (takeL F P (x ++ r) = l) := t3
    have HW : Hid (wordB (F : Int) = true ∧ wordB (P : Int) = true ∧ lenB l.length = true) := ⟨hwf, hwp, hwl⟩
    clear hE hM hL hx t1 t2 t3 hwf hwp hwl
    go_enter Try.func7, Try.ntmps7
    go_wp2_with fail
    refine (shown_any _).mono ?_
    rintro e w1 ⟨rfl, B1⟩
    have HB1 : Hid (Below w.heap.size w w1) := B1
    clear B1
    go_wp2_with fail
    refine (make_any F P a c l _ (H1.out.below HB1.out)).mono ?_
    rintro e w2 ⟨v2, rfl, own2, B2⟩
    rw [HE.out]
    rw [HL.out] at own2
    obtain ⟨a2, c2, rfl, is2⟩ := own2.shape
    rw [hxl]
    have HB2 : Hid (Below w.heap.size w w2) := HB1.out.trans (B2.mono HB1.out.size)
    have IS2 : Hid (IsBytes w2 a2 c2 x) := is2
    clear B2 own2 is2
    go_wp2_with fail
    refine (may_any _ _ _ _ _ _).mono ?_
    rintro e w3 ⟨rfl, hW⟩
    have hW := hW.symm
    subst hW
    rw [HM.out]
    go_wp2_with fail
    have hcp := copied_any a2 c2 x w2 IS2.out (by omega)
    rw [hxl] at hcp
    refine hcp.mono ?_
    clear hcp
    rintro e w3 ⟨v3, rfl, own3, B3, _⟩
    have hz2 := HB2.out.size
    have HB3 : Hid (Below w.heap.size w w3) := HB2.out.trans (B3.mono hz2)
    have BB3 : Hid (Below w2.heap.size w2 w3) := B3
    have OWN3 : Hid (Own w3 w2.heap.size v3 x) := own3
    have hz3 := B3.size
    clear B3 own3
    go_wp2_with (at_builtin; go_must (refine wpList_append8 rfl (.tmp 43) (.tmp 44) rfl w2.heap.size v3 x rfl OWN3.out a' c' r rfl (H2.out.below HB3.out) (by omega) hz3 ?_; intro v4 w4 own4 gr4 _ _ _))
    have BB4 : Hid (Below w2.heap.size w2 w4) := BB3.out.grown gr4 hz3 (fun k hk => (OWN3.out.lt k hk).1)
    have HB4 : Hid (Below w.heap.size w w4) := HB2.out.trans (BB4.out.mono hz2)
    have IS4 : Hid (IsBytes w4 a2 c2 x) := IS2.out.below BB4.out
    obtain ⟨a4, c4, rfl, is4⟩ := own4.shape
    refine (take_any F P a4 c4 (x ++ r) w4 is4).mono ?_
    rintro e w5 ⟨v5, rfl, own5, B5⟩
    rw [HT1.out, HT2.out]
    rw [HT3.out] at own5
    obtain ⟨a5, c5, rfl, is5⟩ := own5.shape
    have hz4 := HB4.out.size
    have HB5 : Hid (Below w.heap.size w w5) := HB4.out.trans (B5.mono hz4)
    have IS5 : Hid (IsBytes w5 a2 c2 x) := IS4.out.below B5
    have PS5 : Hid (IsBytes w5 a5 c5 l) := is5
    clear own4 gr4 is4 own5 is5 B5 BB3 BB4 IS2 OWN3 IS4
    have q1 : ((8 + (l.length : Int)) != ((l.length + 8 : Nat) : Int)) = false := by simp; omega
    have q2 : ((8 + (l.length : Int)) != (l.length : Int) + 8) = false := by simp; omega
    by_cases hcut : cut < 1
    · go_wp2_with (go_at_call 17; refine (same_yes _ _ _ _ l _ _ PS5.out (H1.out.below HB5.out) rfl).mono ?_; rintro e w6 ⟨rfl, n6, hW⟩; subst hW)
      go_ret
      exact ⟨rfl, below_drewN HB5.out _⟩
    · by_cases hge : (l.length : Int) + 8 ≤ cut
      · go_wp2_with (go_at_call 17; refine (same_yes _ _ _ _ l _ _ PS5.out (H1.out.below HB5.out) rfl).mono ?_; rintro e w6 ⟨rfl, n6, hW⟩; subst hW)
        go_ret
        exact ⟨rfl, below_drewN HB5.out _⟩
      · obtain ⟨k, rfl⟩ := Int.eq_ofNat_of_zero_le (show 0 ≤ cut by omega)
        have hc2 : l.length + 8 ≤ c2 := by have := IS5.out.1; omega
        have hkc : k ≤ c2 := by omega
        have hE21 : takeE F P (x.take k) = 21 := by
          have := take_cut (F := F) (P := P) l k HW.out.1 HW.out.2.1 HW.out.2.2 (by omega) (by rw [← HX.out]; omega)
          rwa [← HX.out] at this
        have HE21 : Hid (takeE F P (x.take k) = 21) := hE21
        have hTN := take_none (f := F) (p := P) (b := x.take k) (by rw [hE21]; decide)
        have HTN : Hid (takeN F P (x.take k) = 0 ∧ takeL F P (x.take k) = []) := hTN
        have hkl : (x.take k).length = k := by rw [List.length_take]; omega
        have HKL : Hid ((x.take k).length = k) := hkl
        clear hE21 hTN hkl
        go_wp2_with (go_at_call 17; refine (same_yes _ _ _ _ l _ _ PS5.out (H1.out.below HB5.out) rfl).mono ?_; rintro e w6 ⟨rfl, n6, hW⟩; subst hW)
        have ht := take_any F P a2 c2 (x.take k) (w5.drewN n6) (take_sub (IS5.out.below (below_drewN (Below.refl _ w5) n6)) k)
        rw [HKL.out] at ht
        refine ht.mono ?_
        rintro e w7 ⟨v7, rfl, own7, B7⟩
        rw [HE21.out, HTN.out.1]
        rw [HTN.out.2] at own7
        obtain ⟨a7, c7, rfl, _⟩ := own7.shape
        have hz5 := HB5.out.size
        have HB7 : Hid (Below w.heap.size w w7) := (below_drewN HB5.out n6).trans (B7.mono hz5)
        clear own7 B7 ht
        go_wp2
        go_ret
        exact ⟨rfl, HB7.out⟩
  · have hM : mayB f p l = false := decide_eq_false hE
    have HM : Hid (mayB f p l = false) := hM
    have hL : makeL f p l = [] := makeL_no hE
    have HL : Hid (makeL f p l = []) := hL
    obtain ⟨E, hEE⟩ : ∃ E, E = makeE f p l := ⟨_, rfl⟩
    have HE : Hid (E = makeE f p l) := hEE
    have hn0 : ¬ E = 0 := by rw [hEE]; exact hE
    have hnb : (E != 0) = true := by simpa using hn0
    clear hM hL hE hEE
    go_enter Try.func7, Try.ntmps7
    go_wp2_with fail
    refine (shown_any _).mono ?_
    rintro e w1 ⟨rfl, B1⟩
    have HB1 : Hid (Below w.heap.size w w1) := B1
    clear B1
    go_wp2_with fail
    refine (make_any f p a c l _ (H1.out.below HB1.out)).mono ?_
    rintro e w2 ⟨v2, rfl, own2, B2⟩
    rw [← HE.out]
    rw [HL.out] at own2
    obtain ⟨a2, c2, rfl, is2⟩ := own2.shape
    rw [show ([] : List UInt8).length = 0 from rfl]
    have HB2 : Hid (Below w.heap.size w w2) := HB1.out.trans (B2.mono HB1.out.size)
    clear B2 own2 is2
    go_wp2_with fail
    refine (may_any _ _ _ _ _ _).mono ?_
    rintro e w3 ⟨rfl, hW⟩
    have hW := hW.symm
    subst hW
    rw [HM.out]
    go_wp2
    go_ret
    exact ⟨rfl, HB2.out⟩
end Go.Proofs.Ytjbmolclagmecaa.frameBack
