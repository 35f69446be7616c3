/-
  The walk of the document's Make.
-/
import Derived.Test.YtjbmolclagmecaaMake
import Derived.Test.YtjbmolclagmecaaRefLow
namespace Go.Proofs.Ytjbmolclagmecaa
open Go.RowKit Go.Lib

set_option maxHeartbeats 1000000 in
set_option maxRecDepth 1000000 in
theorem refMake_any (f p : Int) (a : Option Addr) (c : Nat) (l : List UInt8) (w : World) (hl : IsBytes w a c l) :
    Calls Try.prog 16 #[.int .i64 f, .int .i64 p, .slice a l.length c] w (MakePost f p l w) := by
  have HL : Hid (IsBytes w a c l) := hl
  have hlm : l.length ≤ 9223372036854775807 := by have := hl.1; have := hl.2.1; unfold maxLen at *; omega
  clear hl
  cases hf : wordB f with
  | false =>
    have HF : Hid (wordB f = false) := hf
    have HP : Hid (wordB f = false) := hf
    clear hf
    go_enter Try.func16, Try.ntmps16
    go_wp2_with (go_at_call 33; refine (refWord_any _ _).mono ?_; rintro e w1 ⟨rfl, hW⟩; have hW := hW.symm; subst hW; first | rw [HF.out] | rw [HP.out])
    go_ret2
    have hE : makeE f p l = 24 := by simp [makeE, HF.out]
    exact ⟨_, by rw [hE]; rfl, by unfold makeL; rw [hE]; exact Own.nil _ _, Below.refl _ _⟩
  | true =>
    cases hp : wordB p with
    | false =>
      have HF : Hid (wordB f = true) := hf
      have HP : Hid (wordB p = false) := hp
      clear hf hp
      go_enter Try.func16, Try.ntmps16
      go_wp2_with (go_at_call 33; refine (refWord_any _ _).mono ?_; rintro e w1 ⟨rfl, hW⟩; have hW := hW.symm; subst hW; first | rw [HF.out] | rw [HP.out])
      go_ret2
      have hE : makeE f p l = 24 := by simp [makeE, HP.out]
      exact ⟨_, by rw [hE]; rfl, by unfold makeL; rw [hE]; exact Own.nil _ _, Below.refl _ _⟩
    | true =>
      have HF : Hid (wordB f = true) := hf
      have HP : Hid (wordB p = true) := hp
      have hfb := wordB_yes hf
      have hpb := wordB_yes hp
      clear hf hp
      by_cases h0 : l.length = 0
      · have hb0 : ((l.length : Int) == 0) = true := by simp [h0]
        have hE : makeE f p l = 22 := by
          have : lenB l.length = false := decide_eq_false (by omega)
          simp [makeE, HF.out, HP.out, this]
        have HE : Hid (makeE f p l = 22) := hE
        clear hE h0
        go_enter Try.func16, Try.ntmps16
        go_wp2_with (go_at_call 33; refine (refWord_any _ _).mono ?_; rintro e w1 ⟨rfl, hW⟩; have hW := hW.symm; subst hW; first | rw [HF.out] | rw [HP.out])
        go_ret2
        exact ⟨_, by rw [HE.out]; rfl, by unfold makeL; rw [HE.out]; exact Own.nil _ _, Below.refl _ _⟩
      · have hb0 : ((l.length : Int) == 0) = false := by rw [beq_eq_false_iff_ne]; omega
        by_cases hbig : 66000 < (l.length : Int)
        · have HE : Hid (makeE f p l = 22) := by
            have : lenB l.length = false := decide_eq_false (by omega)
            show _ = _
            simp [makeE, HF.out, HP.out, this]
          go_enter Try.func16, Try.ntmps16
          go_wp2_with (go_at_call 33; refine (refWord_any _ _).mono ?_; rintro e w1 ⟨rfl, hW⟩; have hW := hW.symm; subst hW; first | rw [HF.out] | rw [HP.out])
          go_ret2
          exact ⟨_, by rw [HE.out]; rfl, by unfold makeL; rw [HE.out]; exact Own.nil _ _, Below.refl _ _⟩
        · have HE : Hid (makeE f p l = 0) := by
            have : lenB l.length = true := decide_eq_true (by omega)
            show _ = _
            simp [makeE, HF.out, HP.out, this]
          obtain ⟨F, rfl⟩ := Int.eq_ofNat_of_zero_le hfb.1
          obtain ⟨P, rfl⟩ := Int.eq_ofNat_of_zero_le hpb.1
          go_enter Try.func16, Try.ntmps16
          go_wp2_with (go_at_call 33; refine (refWord_any _ _).mono ?_; rintro e w1 ⟨rfl, hW⟩; have hW := hW.symm; subst hW; first | rw [HF.out] | rw [HP.out])
          refine (refLow_any l.length 4 w (by omega) (by decide)).mono ?_
          rintro e w1 ⟨v1, rfl, own1, B1⟩
          have OWN1 : Hid (Own w1 w.heap.size v1 (Crc.le 4 l.length)) := own1
          have HB1 : Hid (Below w.heap.size w w1) := B1
          have hz1 := B1.size
          clear own1 B1
          go_wp2_with fail
          refine (refFsum_any F P a c l w1 (by omega) (by omega) (HL.out.below HB1.out) (by omega)).mono ?_
          rintro e w2 ⟨v2, rfl, own2, B2⟩
          obtain ⟨a2, c2, hv2, is2⟩ := own2.shape
          rw [Crc.le_length] at hv2
          subst hv2
          have OWN2 : Hid (Own w2 w.heap.size v1 (Crc.le 4 l.length)) := OWN1.out.below B2
          have IS2 : Hid (IsBytes w2 a2 c2 (Crc.le 4 (Crc.fsum F P l))) := is2
          have HB2 : Hid (Below w.heap.size w w2) := HB1.out.trans (B2.mono hz1)
          have hz2 := HB2.out.size
          have hl4 : (Crc.le 4 (Crc.fsum F P l)).length = 4 := Crc.le_length _ _
          clear own2 is2 B2
          go_wp2_with (first
            | (refine wpList_append8 rfl (.tmp 28) (.tmp 32) rfl w.heap.size v1 (Crc.le 4 l.length) rfl OWN2.out a2 c2 (Crc.le 4 (Crc.fsum F P l)) (by rw [hl4]; rfl) IS2.out (by rw [Crc.le_length, Crc.le_length]; omega) hz2 ?_
               intro v3 w3 own3 gr3 _ _ _
               have HB3 : Hid (Below w.heap.size w w3) := HB2.out.grown gr3 hz2 (fun j hj => (OWN2.out.lt j hj).1)
               have OWN3 : Hid (Own w3 w.heap.size v3 (Crc.le 4 l.length ++ Crc.le 4 (Crc.fsum F P l))) := own3
               have hz3 := HB3.out.size
               clear own3 gr3)
            | (refine wpList_append8 rfl (.tmp 34) (.tmp 35) rfl w.heap.size v3 (Crc.le 4 l.length ++ Crc.le 4 (Crc.fsum F P l)) rfl OWN3.out a c l rfl (HL.out.below HB3.out) (by rw [List.length_append, Crc.le_length, Crc.le_length]; omega) hz3 ?_
               intro v4 w4 own4 gr4 _ _ _
               have HB4 : Hid (Below w.heap.size w w4) := HB3.out.grown gr4 hz3 (fun j hj => (OWN3.out.lt j hj).1)
               have OWN4 : Hid (Own w4 w.heap.size v4 (Crc.le 4 l.length ++ Crc.le 4 (Crc.fsum F P l) ++ l)) := own4
               clear own4 gr4))
          go_ret2
          refine ⟨v4, by rw [HE.out]; rfl, ?_, HB4.out⟩
          unfold makeL
          rw [if_pos HE.out]
          have := OWN4.out
          rw [List.append_assoc] at this
          exact this
end Go.Proofs.Ytjbmolclagmecaa
