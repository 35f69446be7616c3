/-
  The walk of the document's Take.
-/
import Derived.Test.YtibcfbajjnpbfaaTake
import Derived.Test.YtibcfbajjnpbfaaRefLow
import Derived.Test.YtibcfbajjnpbfaaRefSame
import Derived.Test.YtibcfbajjnpbfaaStore
namespace Go.Proofs.Ytibcfbajjnpbfaa
open Go.RowKit Go.Lib

theorem IsBytes.cutAt {w : World} {g o c : Nat} {l m : List UInt8} (hc : c ≤ maxLen) (hg : g < w.heap.size) (hcell : ∀ (j : Nat) x, l[j]? = some x → w.cell? ⟨g, o + j, none⟩ = some (.int .u8 (x.toNat : Int))) (k d : Nat) (hd : d ≤ c) (hm : m.length ≤ d) (hsub : ∀ (j : Nat) x, m[j]? = some x → l[k + j]? = some x) :
    IsBytes w (some ⟨g, o + k, none⟩) d m := ⟨hm, by omega, .inr ⟨g, o + k, rfl, hg, fun j x hj => by rw [Nat.add_assoc]; exact hcell _ x (hsub j x hj)⟩⟩

set_option maxHeartbeats 2000000 in
set_option maxRecDepth 1000000 in
theorem refTake_any (f p : Int) (a : Option Addr) (c : Nat) (l : List UInt8) (w : World) (hl : IsBytes w a c l) :
    Calls Try.prog 22 #[.int .i64 f, .int .i64 p, .slice a l.length c] w (TakePost f p l w) := by
  have HIS : Hid (IsBytes w a c l) := hl
  obtain ⟨hl1, hl2, hl3⟩ := hl
  unfold maxLen at hl2
  have HL : Hid (l = [] ∨ ∃ b o, a = some ⟨b, o, none⟩ ∧ b < w.heap.size ∧ ∀ (j : Nat) x, l[j]? = some x → w.cell? ⟨b, o + j, none⟩ = some (.int .u8 (x.toNat : Int))) := hl3
  clear hl3
  cases hf : wordB f with
  | false =>
    have HF : Hid (wordB f = false) := hf
    have HP : Hid (wordB f = false) := hf
    clear hf
    go_enter Try.func22, Try.ntmps22
    go_wp2_with (go_at_call 33; refine (refWord_any _ _).mono ?_; rintro e w1 ⟨rfl, hW⟩; have hW := hW.symm; subst hW; first | rw [HF.out] | rw [HP.out])
    go_ret3
    exact take_no (by simp [takeE, HF.out]) (by decide) (Below.refl _ _)
  | true =>
    cases hp : wordB p with
    | false =>
      have HF : Hid (wordB f = true) := hf
      have HP : Hid (wordB p = false) := hp
      clear hf hp
      go_enter Try.func22, Try.ntmps22
      go_wp2_with (go_at_call 33; refine (refWord_any _ _).mono ?_; rintro e w1 ⟨rfl, hW⟩; have hW := hW.symm; subst hW; first | rw [HF.out] | rw [HP.out])
      go_ret3
      exact take_no (by simp [takeE, HP.out]) (by decide) (Below.refl _ _)
    | true =>
      have hfb := wordB_yes hf
      have hpb := wordB_yes hp
      have HF : Hid (wordB f = true) := hf
      have HP : Hid (wordB p = true) := hp
      clear hf hp
      by_cases h0 : l.length = 0
      · have H0 : Hid (l.length = 0) := h0
        have hb0 : ((l.length : Int) == 0) = true := by simp [h0]
        clear h0
        go_enter Try.func22, Try.ntmps22
        go_wp2_with (go_at_call 33; refine (refWord_any _ _).mono ?_; rintro e w1 ⟨rfl, hW⟩; have hW := hW.symm; subst hW; first | rw [HF.out] | rw [HP.out])
        go_ret3
        exact take_no (by simp [takeE, HF.out, HP.out, H0.out]) (by decide) (Below.refl _ _)
      · have H0 : Hid (¬ l.length = 0) := h0
        have hb0 : ((l.length : Int) == 0) = false := by rw [beq_eq_false_iff_ne]; omega
        by_cases h4 : l.length < 4
        · have H4 : Hid (l.length < 4) := h4
          go_enter Try.func22, Try.ntmps22
          go_wp2_with (go_at_call 33; refine (refWord_any _ _).mono ?_; rintro e w1 ⟨rfl, hW⟩; have hW := hW.symm; subst hW; first | rw [HF.out] | rw [HP.out])
          go_ret3
          exact take_no (by simp only [takeE, HF.out, HP.out, H4.out, H0.out, if_true, if_false, and_self]) (by decide) (Below.refl _ _)
        · rcases HL.out with rfl | ⟨g, o, rfl, hg, hcell⟩
          · simp at h0
          have H4 : Hid (¬ l.length < 4) := h4
          obtain ⟨n, hn⟩ : ∃ n, n = takeLen l := ⟨_, rfl⟩
          have HNN : Hid (n = takeLen l) := hn
          have hnum : Calls Try.prog 38 #[.slice (some ⟨g, o, none⟩) 4 c] w fun e w' => e = .returned (.int .i64 n) ∧ w' = w := by
            have h4l : (l.take 4).length = 4 := by rw [List.length_take]; omega
            have := refNumber_any (some ⟨g, o, none⟩) c (l.take 4) w (HIS.out.take 4) (by omega)
            rw [h4l] at this
            rw [hn]
            exact this
          have NUM : Hid (Calls Try.prog 38 #[.slice (some ⟨g, o, none⟩) 4 c] w fun e w' => e = .returned (.int .i64 n) ∧ w' = w) := hnum
          have hnb32 : n < 4294967296 := by
            rw [hn]
            have := Crc.N_lt (l.take 4)
            have h2 : 256 ^ (l.take 4).length ≤ 256 ^ 4 := Nat.pow_le_pow_right (by decide) (by simp; omega)
            unfold takeLen
            omega
          clear hn hnum
          by_cases hn0 : n = 0
          · have hbn : ((n : Int) == 0) = true := by simp [hn0]
            have HLB : Hid (lenB (n : Int) = false) := decide_eq_false (by omega)
            clear hn0
            go_enter Try.func22, Try.ntmps22
            go_wp2_with (first | (go_at_call 33; refine (refWord_any _ _).mono ?_; rintro e w1 ⟨rfl, hW⟩; have hW := hW.symm; subst hW; first | rw [HF.out] | rw [HP.out]) | (go_at_call 38; refine NUM.out.mono ?_; rintro e w1 ⟨rfl, hW⟩; have hW := hW.symm; subst hW))
            go_ret3
            exact take_no (by simp only [takeE, HF.out, HP.out, H4.out, H0.out, ← HNN.out, HLB.out, if_true, if_false, and_self]) (by decide) (Below.refl _ _)
          · have hbn : ((n : Int) == 0) = false := by rw [beq_eq_false_iff_ne]; omega
            by_cases hbig : 66000 < (n : Int)
            · have HLB : Hid (lenB (n : Int) = false) := decide_eq_false (by omega)
              go_enter Try.func22, Try.ntmps22
              go_wp2_with (first | (go_at_call 33; refine (refWord_any _ _).mono ?_; rintro e w1 ⟨rfl, hW⟩; have hW := hW.symm; subst hW; first | rw [HF.out] | rw [HP.out]) | (go_at_call 38; refine NUM.out.mono ?_; rintro e w1 ⟨rfl, hW⟩; have hW := hW.symm; subst hW))
              go_ret3
              exact take_no (by simp only [takeE, HF.out, HP.out, H4.out, H0.out, ← HNN.out, HLB.out, if_true, if_false, and_self]) (by decide) (Below.refl _ _)
            · have HLB : Hid (lenB (n : Int) = true) := decide_eq_true (by omega)
              by_cases h8 : l.length < 8 + n
              · have H8 : Hid (l.length < 8 + n) := h8
                have HX : Hid (takeE f p l = 21) := by
                  show _ = _
                  simp only [takeE, HF.out, HP.out, H4.out, H0.out, ← HNN.out, HLB.out, H8.out, if_true, if_false, and_self, Bool.true_eq_false]
                by_cases h88 : l.length < 8
                · go_enter Try.func22, Try.ntmps22
                  go_wp2_with (first | (go_at_call 33; refine (refWord_any _ _).mono ?_; rintro e w1 ⟨rfl, hW⟩; have hW := hW.symm; subst hW; first | rw [HF.out] | rw [HP.out]) | (go_at_call 38; refine NUM.out.mono ?_; rintro e w1 ⟨rfl, hW⟩; have hW := hW.symm; subst hW))
                  go_ret3
                  exact take_no HX.out (by decide) (Below.refl _ _)
                · go_enter Try.func22, Try.ntmps22
                  go_wp2_with (first | (go_at_call 33; refine (refWord_any _ _).mono ?_; rintro e w1 ⟨rfl, hW⟩; have hW := hW.symm; subst hW; first | rw [HF.out] | rw [HP.out]) | (go_at_call 38; refine NUM.out.mono ?_; rintro e w1 ⟨rfl, hW⟩; have hW := hW.symm; subst hW))
                  go_ret3
                  exact take_no HX.out (by decide) (Below.refl _ _)
              · have H8 : Hid (¬ l.length < 8 + n) := h8
                obtain ⟨F, rfl⟩ := Int.eq_ofNat_of_zero_le hfb.1
                obtain ⟨P, rfl⟩ := Int.eq_ofNat_of_zero_le hpb.1
                have hpl : (takePay l).length = n := by rw [pay_length (by rw [← HNN.out]; omega), HNN.out]
                have hpi : IsBytes w (some ⟨g, o + 8, none⟩) (c - 8) (takePay l) := by
                  refine IsBytes.cutAt (by unfold maxLen; omega) hg hcell 8 (c - 8) (by omega) (by omega) (fun j x hj => ?_)
                  have hj2 : j < takeLen l := by have := (List.getElem?_eq_some_iff.1 hj).1; rw [hpl, HNN.out] at this; exact this
                  unfold takePay at hj
                  rw [List.getElem?_take_of_lt hj2, List.getElem?_drop] at hj
                  exact hj
                have hsi : IsBytes w (some ⟨g, o + 4, none⟩) (c - 4) ((l.drop 4).take 4) := by
                  refine IsBytes.cutAt (by unfold maxLen; omega) hg hcell 4 (c - 4) (by omega) (by simp; omega) (fun j x hj => ?_)
                  have hj2 : j < 4 := by have := (List.getElem?_eq_some_iff.1 hj).1; simp at this; omega
                  rw [List.getElem?_take_of_lt hj2, List.getElem?_drop] at hj
                  exact hj
                have hsl : ((l.drop 4).take 4).length = 4 := by simp; omega
                obtain ⟨b, hb⟩ : ∃ b, b = takePay l := ⟨_, rfl⟩
                obtain ⟨q, hq⟩ : ∃ q, q = (l.drop 4).take 4 := ⟨_, rfl⟩
                rw [← hb] at hpl hpi
                rw [← hq] at hsi hsl
                have PI : Hid (IsBytes w (some ⟨g, o + 8, none⟩) (c - 8) b) := hpi
                have SI : Hid (IsBytes w (some ⟨g, o + 4, none⟩) (c - 4) q) := hsi
                have HPL : Hid (b.length = n) := hpl
                have HSL : Hid (q.length = 4) := hsl
                have HB : Hid (b = takePay l) := hb
                have HQ : Hid (q = (l.drop 4).take 4) := hq
                clear hpl hpi hsi hsl hb hq hcell HL HIS
                go_enter Try.func22, Try.ntmps22
                have hRS : takeSum l = Crc.N q := by unfold takeSum; rw [HQ.out]
                have HB8 : Hid (b.length = 8 + n - 8) := by rw [HPL.out]; show n = _; omega
                go_wp2_with (first
                  | (go_at_call 33; refine (refWord_any _ _).mono ?_; rintro e w1 ⟨rfl, hW⟩; have hW := hW.symm; subst hW; first | rw [HF.out] | rw [HP.out])
                  | (go_at_call 38; refine NUM.out.mono ?_; rintro e w1 ⟨rfl, hW⟩; have hW := hW.symm; subst hW)
                  | (refine wpList_append8 rfl (.tmp 45) (.tmp 49) rfl w.heap.size (.slice (some ⟨w.heap.size, 0, none⟩) 0 0) [] rfl (Own.lit w _ (Nat.le_refl _)) (some ⟨g, o + 8, none⟩) (c - 8) b (by first | (rw [HPL.out]; rfl) | (rw [HB8.out]; rfl)) (PI.out.below ((Below.refl _ w).alloc (Nat.le_refl _) _)) (by rw [HPL.out]; simp; omega) (by simp) ?_
                     intro v3 w3 own3 gr3 _ _ _
                     have HB3 : Hid (Below w.heap.size w w3) := ((Below.refl _ w).alloc (Nat.le_refl _) _).grown gr3 (by simp) (fun k hk => by simp [Value.ownBlock] at hk; omega)
                     have OWN3 : Hid (Own w3 w.heap.size v3 b) := own3
                     have hz3 := HB3.out.size
                     clear own3 gr3))
                obtain ⟨a3, c3, hv3, is3⟩ := OWN3.out.shape
                rw [HPL.out] at hv3
                subst hv3
                have hfs := refFsum_any F P a3 c3 b w3 (by omega) (by omega) is3 (by rw [HPL.out]; omega)
                rw [HPL.out] at hfs
                refine hfs.mono ?_
                clear hfs is3
                rintro e w4 ⟨v4, rfl, own4, B4⟩
                obtain ⟨a4, c4, hv4, is4⟩ := own4.shape
                rw [Crc.le_length] at hv4
                subst hv4
                have HB4 : Hid (Below w.heap.size w w4) := HB3.out.trans (B4.mono hz3)
                have OWN4 : Hid (Own w4 w.heap.size (.slice a3 n c3) b) := OWN3.out.below B4
                have IS4 : Hid (IsBytes w4 a4 c4 (Crc.le 4 (Crc.fsum F P b))) := is4
                have hz4 := HB4.out.size
                clear own4 is4 B4
                go_wp2_with fail
                have hsm := refSame_any (some ⟨g, o + 4, none⟩) a4 (c - 4) c4 q (Crc.le 4 (Crc.fsum F P b)) w4 (SI.out.below HB4.out) IS4.out
                rw [HSL.out, Crc.le_length] at hsm
                refine hsm.mono ?_
                clear hsm
                rintro e w5 ⟨rfl, n5, hW⟩
                have HB5 : Hid (Below w.heap.size w w5) := by rw [hW]; exact below_drewN HB4.out n5
                have OWN5 : Hid (Own w5 w.heap.size (.slice a3 n c3) b) := OWN4.out.below (by rw [hW]; exact below_drewN (Below.refl _ w4) n5)
                clear hW
                by_cases heq : q = Crc.le 4 (Crc.fsum F P b)
                · have hs : takeSum l = Crc.fsum F P (takePay l) := by
                    rw [hRS, heq, Crc.N_le, ← HB.out]
                    have := Crc.fsum_lt F P b
                    omega
                  have HE : Hid (takeE F P l = 0) := by
                    show _ = _
                    simp only [takeE, HF.out, HP.out, H4.out, H0.out, ← HNN.out, HLB.out, H8.out, if_true, if_false, and_self, Bool.true_eq_false, Int.toNat_natCast, hs]
                  rw [show decide (q = Crc.le 4 (Crc.fsum F P b)) = true from decide_eq_true heq]
                  clear heq hs hRS
                  go_wp2
                  go_ret3
                  refine ⟨.slice a3 n c3, ?_, ?_, HB5.out⟩
                  · have hN : takeN F P l = 8 + (n : Int) := by unfold takeN; rw [if_pos HE.out, ← HNN.out]; omega
                    rw [HE.out, hN]
                    rfl
                  · have : takeL F P l = takePay l := by unfold takeL; rw [if_pos HE.out]
                    rw [this, ← HB.out]
                    exact OWN5.out
                · have hs : ¬ takeSum l = Crc.fsum F P (takePay l) := by
                    rw [hRS, ← HB.out]
                    exact fun h => heq (by rw [← Crc.le_N q, HSL.out, h])
                  have HE : Hid (takeE F P l = 23) := by
                    show _ = _
                    simp only [takeE, HF.out, HP.out, H4.out, H0.out, ← HNN.out, HLB.out, H8.out, if_true, if_false, and_self, Bool.true_eq_false, Int.toNat_natCast, hs]
                  rw [show decide (q = Crc.le 4 (Crc.fsum F P b)) = false from decide_eq_false heq]
                  clear heq hs hRS
                  go_wp2
                  go_ret3
                  exact take_no HE.out (by decide) HB5.out
end Go.Proofs.Ytibcfbajjnpbfaa
