/-
  The walk of Take.
-/
import Derived.Test.YtibcfbajjnpbfaaMake
import Derived.Test.YtibcfbajjnpbfaaRead
namespace Go.Proofs.Ytibcfbajjnpbfaa
open Go.RowKit

def takeLen (b : List UInt8) : Nat := Crc.N (b.take 4)
def takePay (b : List UInt8) : List UInt8 := (b.drop 8).take (takeLen b)
def takeSum (b : List UInt8) : Nat := Crc.N ((b.drop 4).take 4)
/-- What Take answers: an error's number, the payload, how many bytes. -/
def takeE (f p : Int) (b : List UInt8) : Int :=
  if wordB f = true ∧ wordB p = true then
    if b.length = 0 then 20 else if b.length < 4 then 21 else if lenB (takeLen b) = false then 22 else if b.length < 8 + takeLen b then 21
    else if takeSum b = Crc.fsum f.toNat p.toNat (takePay b) then 0 else 23
  else 24
def takeL (f p : Int) (b : List UInt8) : List UInt8 := if takeE f p b = 0 then takePay b else []
def takeN (f p : Int) (b : List UInt8) : Int := if takeE f p b = 0 then ((8 + takeLen b : Nat) : Int) else 0

def TakePost (f p : Int) (b : List UInt8) (w : World) (e : Ending) (w' : World) : Prop :=
  ∃ v, e = .returned (.tuple #[v, .int .i64 (takeN f p b), .int .i64 (takeE f p b)]) ∧ Own w' w.heap.size v (takeL f p b) ∧ Below w.heap.size w w'

theorem take_no {f p : Int} {b : List UInt8} {w w' : World} {x : Int} (hx : takeE f p b = x) (h0 : x ≠ 0) (hb : Below w.heap.size w w') : TakePost f p b w (.returned (.tuple #[.slice none 0 0, .int .i64 0, .int .i64 x])) w' :=
  ⟨_, by unfold takeN; rw [hx, if_neg h0], by unfold takeL; rw [hx, if_neg h0]; exact Own.nil _ _, hb⟩

theorem pay_length {b : List UInt8} (h : 8 + takeLen b ≤ b.length) : (takePay b).length = takeLen b := by simp [takePay]; omega
theorem pay_is {w : World} {g o c : Nat} {b : List UInt8} (hb : b.length ≤ c) (hc : c ≤ maxLen) (hg : g < w.heap.size) (hcell : ∀ (j : Nat) x, b[j]? = some x → w.cell? ⟨g, o + j, none⟩ = some (.int .u8 (x.toNat : Int))) (h : 8 + takeLen b ≤ b.length) :
    IsBytes w (some ⟨g, o + 8, none⟩) (takeLen b) (takePay b) := by
  refine ⟨by rw [pay_length h]; exact Nat.le_refl _, by omega, .inr ⟨g, o + 8, rfl, hg, fun j x hj => ?_⟩⟩
  have hj2 : j < takeLen b := by have := (List.getElem?_eq_some_iff.1 hj).1; rw [pay_length h] at this; exact this
  unfold takePay at hj
  rw [List.getElem?_take_of_lt hj2, List.getElem?_drop] at hj
  rw [Nat.add_assoc]
  exact hcell _ x hj

set_option maxHeartbeats 2000000 in
set_option maxRecDepth 1000000 in
theorem take_any (f p : Int) (a : Option Addr) (c : Nat) (l : List UInt8) (w : World) (hl : IsBytes w a c l) :
    Calls Try.prog 21 #[.int .i64 f, .int .i64 p, .slice a l.length c] w (TakePost f p l w) := by
  obtain ⟨hl1, hl2, hl3⟩ := hl
  unfold maxLen at hl2
  have HL : Hid (l = [] ∨ ∃ b o, a = some ⟨b, o, none⟩ ∧ b < w.heap.size ∧ ∀ (j : Nat) x, l[j]? = some x → w.cell? ⟨b, o + j, none⟩ = some (.int .u8 (x.toNat : Int))) := hl3
  clear hl3
  cases hf : wordB f with
  | false =>
    have HF : Hid (wordB f = false) := hf
    clear hf
    go_enter Try.func21, Try.ntmps21
    go_wp2_with (go_at_call 29; refine (isWord_any f _).mono ?_; rintro e w1 ⟨rfl, hW⟩; have hW := hW.symm; subst hW; rw [HF.out])
    go_ret3
    exact take_no (by simp [takeE, HF.out]) (by decide) (Below.refl _ _)
  | true =>
    cases hp : wordB p with
    | false =>
      have HF : Hid (wordB f = true) := hf
      have HP : Hid (wordB p = false) := hp
      clear hf hp
      go_enter Try.func21, Try.ntmps21
      go_wp2_with (go_at_call 29; refine (isWord_any _ _).mono ?_; rintro e w1 ⟨rfl, hW⟩; have hW := hW.symm; subst hW; first | rw [HF.out] | rw [HP.out])
      go_ret3
      exact take_no (by simp [takeE, HP.out]) (by decide) (Below.refl _ _)
    | true =>
      have hfb := wordB_yes hf
      have hpb := wordB_yes hp
      have HF : Hid (wordB f = true) := hf
      have HP : Hid (wordB p = true) := hp
      clear hf hp
      by_cases h0 : l.length = 0
      · have H0 : Hid (l.length = 0) := h0
        have hb0 : ((l.length : Int) == 0) = true := by simp [h0]
        clear h0
        go_enter Try.func21, Try.ntmps21
        go_wp2_with (go_at_call 29; refine (isWord_any _ _).mono ?_; rintro e w1 ⟨rfl, hW⟩; have hW := hW.symm; subst hW; first | rw [HF.out] | rw [HP.out])
        go_ret3
        exact take_no (by simp [takeE, HF.out, HP.out, H0.out]) (by decide) (Below.refl _ _)
      · have H0 : Hid (¬ l.length = 0) := h0
        have hb0 : ((l.length : Int) == 0) = false := by simpa using h0
        by_cases h4 : l.length < 4
        · have H4 : Hid (l.length < 4) := h4
          go_enter Try.func21, Try.ntmps21
          go_wp2_with (go_at_call 29; refine (isWord_any _ _).mono ?_; rintro e w1 ⟨rfl, hW⟩; have hW := hW.symm; subst hW; first | rw [HF.out] | rw [HP.out])
          go_ret3
          exact take_no (by simp only [takeE, HF.out, HP.out, H4.out, H0.out, if_true, if_false, and_self]) (by decide) (Below.refl _ _)
        · rcases HL.out with rfl | ⟨g, o, rfl, hg, hcell⟩
          · simp at h0
          obtain ⟨x0, x1, x2, x3, hx0, hx1, hx2, hx3⟩ : ∃ x0 x1 x2 x3 : UInt8, l[0]? = some x0 ∧ l[1]? = some x1 ∧ l[2]? = some x2 ∧ l[3]? = some x3 := ⟨_, _, _, _, List.getElem?_eq_getElem (by omega), List.getElem?_eq_getElem (by omega), List.getElem?_eq_getElem (by omega), List.getElem?_eq_getElem (by omega)⟩
          have hN : Crc.N [x0, x1, x2, x3] = takeLen l := by
            unfold takeLen
            congr 1
            match l, hx0, hx1, hx2, hx3 with
            | y0 :: y1 :: y2 :: y3 :: r, h0, h1, h2, h3 => simp at h0 h1 h2 h3; subst h0 h1 h2 h3; rfl
          have c0 := hcell 0 x0 hx0
          have c1 := hcell 1 x1 hx1
          have c2 := hcell 2 x2 hx2
          have c3 := hcell 3 x3 hx3
          rw [Nat.add_zero] at c0
          have C0 : Hid (w.cell? ⟨g, o, none⟩ = some (.int .u8 (x0.toNat : Int))) := c0
          have C1 : Hid (w.cell? ⟨g, o + 1, none⟩ = some (.int .u8 (x1.toNat : Int))) := c1
          have C2 : Hid (w.cell? ⟨g, o + 2, none⟩ = some (.int .u8 (x2.toNat : Int))) := c2
          have C3 : Hid (w.cell? ⟨g, o + 3, none⟩ = some (.int .u8 (x3.toNat : Int))) := c3
          clear c0 c1 c2 c3 hx0 hx1 hx2 hx3
          have H4 : Hid (¬ l.length < 4) := h4
          have HN : Hid (Crc.N [x0, x1, x2, x3] = takeLen l) := hN
          clear hN
          obtain ⟨n, hn⟩ : ∃ n, n = takeLen l := ⟨_, rfl⟩
          have HNN : Hid (n = takeLen l) := hn
          clear hn
          cases hlb : lenB (n : Int) with
          | false =>
            have HLB : Hid (lenB (n : Int) = false) := hlb
            clear hlb
            go_enter Try.func21, Try.ntmps21
            go_wp2_with (first
              | (go_at_call 29; refine (isWord_any _ _).mono ?_; rintro e w1 ⟨rfl, hW⟩; have hW := hW.symm; subst hW; first | rw [HF.out] | rw [HP.out])
              | (go_at_call 36; refine (read_any _ _ _ x0 x1 x2 x3 _ C0.out C1.out C2.out C3.out).mono ?_; rintro e w1 ⟨rfl, hW⟩; have hW := hW.symm; subst hW; rw [HN.out, ← HNN.out])
              | (go_at_call 30; refine (isLength_any _ _).mono ?_; rintro e w1 ⟨rfl, hW⟩; have hW := hW.symm; subst hW; rw [HLB.out]))
            go_ret3
            exact take_no (by simp only [takeE, HF.out, HP.out, H4.out, H0.out, ← HNN.out, HLB.out, if_true, if_false, and_self]) (by decide) (Below.refl _ _)
          | true =>
            have hnb := lenB_yes hlb
            have HLB : Hid (lenB (n : Int) = true) := hlb
            clear hlb
            by_cases h8 : l.length < 8 + n
            · have H8 : Hid (l.length < 8 + n) := h8
              go_enter Try.func21, Try.ntmps21
              go_wp2_with (first
                | (go_at_call 29; refine (isWord_any _ _).mono ?_; rintro e w1 ⟨rfl, hW⟩; have hW := hW.symm; subst hW; first | rw [HF.out] | rw [HP.out])
                | (go_at_call 36; refine (read_any _ _ _ x0 x1 x2 x3 _ C0.out C1.out C2.out C3.out).mono ?_; rintro e w1 ⟨rfl, hW⟩; have hW := hW.symm; subst hW; rw [HN.out, ← HNN.out])
                | (go_at_call 30; refine (isLength_any _ _).mono ?_; rintro e w1 ⟨rfl, hW⟩; have hW := hW.symm; subst hW; rw [HLB.out]))
              go_ret3
              exact take_no (by simp only [takeE, HF.out, HP.out, H4.out, H0.out, ← HNN.out, HLB.out, H8.out, if_true, if_false, and_self, Bool.true_eq_false]) (by decide) (Below.refl _ _)
            · have H8 : Hid (¬ l.length < 8 + n) := h8
              obtain ⟨y0, y1, y2, y3, hy0, hy1, hy2, hy3⟩ : ∃ x0 x1 x2 x3 : UInt8, l[4]? = some x0 ∧ l[5]? = some x1 ∧ l[6]? = some x2 ∧ l[7]? = some x3 := ⟨_, _, _, _, List.getElem?_eq_getElem (by omega), List.getElem?_eq_getElem (by omega), List.getElem?_eq_getElem (by omega), List.getElem?_eq_getElem (by omega)⟩
              have hS : Crc.N [y0, y1, y2, y3] = takeSum l := by
                unfold takeSum
                congr 1
                match l, hy0, hy1, hy2, hy3 with
                | _ :: _ :: _ :: _ :: y0 :: y1 :: y2 :: y3 :: r, h0, h1, h2, h3 => simp at h0 h1 h2 h3; subst h0 h1 h2 h3; rfl
              have D0 : Hid (w.cell? ⟨g, o + 4, none⟩ = some (.int .u8 (y0.toNat : Int))) := hcell 4 y0 hy0
              have D1 : Hid (w.cell? ⟨g, o + 4 + 1, none⟩ = some (.int .u8 (y1.toNat : Int))) := hcell 5 y1 hy1
              have D2 : Hid (w.cell? ⟨g, o + 4 + 2, none⟩ = some (.int .u8 (y2.toNat : Int))) := hcell 6 y2 hy2
              have D3 : Hid (w.cell? ⟨g, o + 4 + 3, none⟩ = some (.int .u8 (y3.toNat : Int))) := hcell 7 y3 hy3
              clear hy0 hy1 hy2 hy3
              obtain ⟨s, hs⟩ : ∃ s, s = takeSum l := ⟨_, rfl⟩
              have HS : Hid (Crc.N [y0, y1, y2, y3] = s) := hS.trans hs.symm
              have HSS : Hid (s = takeSum l) := hs
              clear hS hs
              have hpl : (takePay l).length = n := by rw [pay_length (by rw [← HNN.out]; omega), HNN.out]
              have hpi : IsBytes w (some ⟨g, o + 8, none⟩) n (takePay l) := by
                have := pay_is hl1 (by unfold maxLen; omega) hg hcell (by rw [← HNN.out]; omega)
                rwa [← HNN.out] at this
              obtain ⟨F, rfl⟩ := Int.eq_ofNat_of_zero_le hfb.1
              obtain ⟨P, rfl⟩ := Int.eq_ofNat_of_zero_le hpb.1
              obtain ⟨t, ht⟩ : ∃ t, t = Crc.fsum F P (takePay l) := ⟨_, rfl⟩
              have FSM : Hid (∀ W, Below w.heap.size w W → Calls Try.prog 32 #[.int .i64 F, .int .i64 P, .slice (some ⟨g, o + 8, none⟩) n n] W fun e w' => e = .returned (.int .i64 t) ∧ Below W.heap.size W w') := by
                intro W hW
                have := frameSum_any F P (some ⟨g, o + 8, none⟩) n (takePay l) W (by omega) (by omega) (hpi.below hW)
                rw [hpl] at this
                rw [ht]
                exact this
              have CL : Hid (∀ W, Below w.heap.size w W → Calls Try.prog 37 #[.slice (some ⟨g, o + 8, none⟩) n n] W fun e w' => ∃ v, e = .returned v ∧ Own w' W.heap.size v (takePay l) ∧ Below W.heap.size W w') := by
                intro W hW
                have := clone_any (some ⟨g, o + 8, none⟩) n (takePay l) W (hpi.below hW) (by omega) (fun h => by cases h)
                rw [hpl] at this
                exact this
              have HT : Hid (t = Crc.fsum F P (takePay l)) := ht
              clear ht hpi hpl hcell HL
              by_cases hst : s = t
              · subst hst
                have HE : Hid (takeE F P l = 0) := by
                  show _ = _
                  have := HT.out
                  rw [HSS.out] at this
                  simp only [takeE, HF.out, HP.out, H4.out, H0.out, ← HNN.out, HLB.out, H8.out, if_true, if_false, and_self, Bool.true_eq_false, Int.toNat_natCast, this]
                go_enter Try.func21, Try.ntmps21
                go_wp2_with (first
                  | (go_at_call 29; refine (isWord_any _ _).mono ?_; rintro e w1 ⟨rfl, hW⟩; have hW := hW.symm; subst hW; first | rw [HF.out] | rw [HP.out])
                  | (go_at_call 36; refine (read_any _ _ _ x0 x1 x2 x3 _ C0.out C1.out C2.out C3.out).mono ?_; rintro e w1 ⟨rfl, hW⟩; have hW := hW.symm; subst hW; rw [HN.out, ← HNN.out])
                  | (go_at_call 30; refine (isLength_any _ _).mono ?_; rintro e w1 ⟨rfl, hW⟩; have hW := hW.symm; subst hW; rw [HLB.out]))
                go_quiet (fail)
                have BQ : Below w.heap.size w (w.drewN nq) := below_drewN (Below.refl _ w) nq
                have HBQ : Hid (Below w.heap.size w (w.drewN nq)) := BQ
                clear BQ
                rw [show 8 + n - 8 = n by omega]
                go_wp2_with fail
                refine (read_any _ _ _ y0 y1 y2 y3 _ ((HBQ.out.cell hg).trans D0.out) ((HBQ.out.cell hg).trans D1.out) ((HBQ.out.cell hg).trans D2.out) ((HBQ.out.cell hg).trans D3.out)).mono ?_
                rintro e w1 ⟨rfl, hW⟩
                have hW := hW.symm
                subst hW
                rw [HS.out]
                go_wp2_with fail
                refine (FSM.out _ HBQ.out).mono ?_
                rintro e w2 ⟨rfl, B2⟩
                have HB2 : Hid (Below w.heap.size w w2) := HBQ.out.trans (B2.mono HBQ.out.size)
                clear B2
                go_wp2_with fail
                refine (CL.out _ HB2.out).mono ?_
                rintro e w3 ⟨v3, rfl, own3, B3⟩
                have hsz := HB2.out.size
                have HB3 : Hid (Below w.heap.size w w3) := HB2.out.trans (B3.mono hsz)
                have OWN : Hid (Own w3 w.heap.size v3 (takePay l)) := own3.mono hsz
                clear B3 own3 hsz
                go_wp2
                go_ret3
                refine ⟨v3, ?_, ?_, HB3.out⟩
                · have hN : takeN F P l = 8 + (n : Int) := by unfold takeN; rw [if_pos HE.out, ← HNN.out]; omega
                  rw [HE.out, hN]
                  rfl
                · have : takeL F P l = takePay l := by unfold takeL; rw [if_pos HE.out]
                  rw [this]
                  exact OWN.out
              · have hsb : ((s : Int) != (t : Int)) = true := by simp; omega
                have HE : Hid (takeE F P l = 23) := by
                  show _ = _
                  have : ¬ takeSum l = Crc.fsum F P (takePay l) := by rw [← HSS.out, ← HT.out]; exact hst
                  simp only [takeE, HF.out, HP.out, H4.out, H0.out, ← HNN.out, HLB.out, H8.out, if_true, if_false, and_self, Bool.true_eq_false, Int.toNat_natCast, this]
                go_enter Try.func21, Try.ntmps21
                go_wp2_with (first
                  | (go_at_call 29; refine (isWord_any _ _).mono ?_; rintro e w1 ⟨rfl, hW⟩; have hW := hW.symm; subst hW; first | rw [HF.out] | rw [HP.out])
                  | (go_at_call 36; refine (read_any _ _ _ x0 x1 x2 x3 _ C0.out C1.out C2.out C3.out).mono ?_; rintro e w1 ⟨rfl, hW⟩; have hW := hW.symm; subst hW; rw [HN.out, ← HNN.out])
                  | (go_at_call 30; refine (isLength_any _ _).mono ?_; rintro e w1 ⟨rfl, hW⟩; have hW := hW.symm; subst hW; rw [HLB.out]))
                go_quiet (fail)
                have BQ : Below w.heap.size w (w.drewN nq) := below_drewN (Below.refl _ w) nq
                have HBQ : Hid (Below w.heap.size w (w.drewN nq)) := BQ
                clear BQ
                rw [show 8 + n - 8 = n by omega]
                go_wp2_with fail
                refine (read_any _ _ _ y0 y1 y2 y3 _ ((HBQ.out.cell hg).trans D0.out) ((HBQ.out.cell hg).trans D1.out) ((HBQ.out.cell hg).trans D2.out) ((HBQ.out.cell hg).trans D3.out)).mono ?_
                rintro e w1 ⟨rfl, hW⟩
                have hW := hW.symm
                subst hW
                rw [HS.out]
                go_wp2_with fail
                refine (FSM.out _ HBQ.out).mono ?_
                rintro e w2 ⟨rfl, B2⟩
                have HB2 : Hid (Below w.heap.size w w2) := HBQ.out.trans (B2.mono HBQ.out.size)
                clear B2
                go_wp2
                go_ret3
                exact take_no HE.out (by decide) HB2.out
end Go.Proofs.Ytibcfbajjnpbfaa
