/-
  RQ1, RQ2, RQ3.
-/
import Derived.Test.YtomgnailgddchaaDoorRAnsW
import Derived.Test.YtomgnailgddchaaDoorJN
import Derived.Deep.LoopGhost
import Derived.Test.YtomgnailgddchaaDoorJC
import Derived.Test.YtomgnailgddchaaDoorTrial
import Derived.Test.YtomgnailgddchaaDoorClosures
namespace Go.Proofs.YtomgnailgddchaaDoor
open Go.RowKit Go.Sort

def fieldsR (k : Int) : List UInt8 := if k = 1 then [73] else if k = 2 then [84] else if k = 3 ∨ k = 12 then [73, 66] else if k = 10 ∨ k = 13 then [78] else if k = 16 then [66] else []
def mostR (k : Int) (x : UInt8) : Int := if x = 73 then 1099511627776 else if x = 66 ∧ k ≠ 16 then 65535 else 4294967295
def leastR (x : UInt8) : Int := if x = 73 then 1 else 0
theorem fields_short (k : Int) : (fieldsR k).length ≤ 2 := by
  unfold fieldsR
  repeat' split
  all_goals simp

set_option maxHeartbeats 4000000 in
set_option maxRecDepth 1000000 in
theorem refFields_any (k : Int) (w : World) : Calls Tryd.prog 56 #[.int .i64 k] w fun e w' => e = .returned (.string ⟨(fieldsR k).toArray⟩) ∧ w' = w := by
  by_cases h : k = 1 ∨ k = 2 ∨ k = 3 ∨ k = 10 ∨ k = 12 ∨ k = 13 ∨ k = 16
  · rcases h with rfl | rfl | rfl | rfl | rfl | rfl | rfl
    all_goals go_enter Tryd.func56, Tryd.ntmps56
    all_goals go_wp2_with fail
    all_goals go_ret
    all_goals exact ⟨rfl, rfl⟩
  · have hf : fieldsR k = [] := by
      unfold fieldsR
      rw [if_neg (by omega), if_neg (by omega), if_neg (by omega), if_neg (by omega), if_neg (by omega)]
    have b1 : (k == 1) = false := beq_eq_false_iff_ne.2 (by omega)
    have b2 : (k == 2) = false := beq_eq_false_iff_ne.2 (by omega)
    have b3 : (k == 3) = false := beq_eq_false_iff_ne.2 (by omega)
    have b4 : (k == 10) = false := beq_eq_false_iff_ne.2 (by omega)
    have b5 : (k == 12) = false := beq_eq_false_iff_ne.2 (by omega)
    have b6 : (k == 13) = false := beq_eq_false_iff_ne.2 (by omega)
    have b7 : (k == 16) = false := beq_eq_false_iff_ne.2 (by omega)
    rw [hf]
    clear h hf
    go_enter Tryd.func56, Tryd.ntmps56
    go_wp2_with fail
    go_ret
    exact ⟨rfl, rfl⟩

set_option maxHeartbeats 1000000 in
set_option maxRecDepth 1000000 in
theorem refMost_any (k : Int) (x : UInt8) (hx : x = 73 ∨ x = 78 ∨ x = 66) (w : World) :
    Calls Tryd.prog 73 #[.int .i64 k, .int .u8 x.toNat] w fun e w' => e = .returned (.int .i64 (mostR k x)) ∧ w' = w := by
  rcases hx with rfl | rfl | rfl
  · go_enter Tryd.func73, Tryd.ntmps73
    go_wp2_with fail
    go_ret
    exact ⟨rfl, rfl⟩
  · go_enter Tryd.func73, Tryd.ntmps73
    go_wp2_with fail
    go_ret
    exact ⟨rfl, rfl⟩
  · by_cases hk : k = 16
    · subst hk
      go_enter Tryd.func73, Tryd.ntmps73
      go_wp2_with fail
      go_ret
      exact ⟨rfl, rfl⟩
    · have hm : mostR k 66 = 65535 := by unfold mostR; rw [if_neg (by decide), if_pos ⟨rfl, hk⟩]
      have hb : (k != 16) = true := by simpa using hk
      rw [hm]
      clear hk hm
      go_enter Tryd.func73, Tryd.ntmps73
      go_wp2_with fail
      go_ret
      exact ⟨rfl, rfl⟩
set_option maxHeartbeats 1000000 in
set_option maxRecDepth 1000000 in
theorem refLeast_any (x : UInt8) (hx : x = 73 ∨ x = 78 ∨ x = 66) (w : World) :
    Calls Tryd.prog 74 #[.int .u8 x.toNat] w fun e w' => e = .returned (.int .i64 (leastR x)) ∧ w' = w := by
  rcases hx with rfl | rfl | rfl
  all_goals go_enter Tryd.func74, Tryd.ntmps74
  all_goals go_wp2_with fail
  all_goals go_ret
  all_goals exact ⟨rfl, rfl⟩
end Go.Proofs.YtomgnailgddchaaDoor

namespace Go.Proofs.YtomgnailgddchaaDoor
open Go.RowKit

theorem run_stop (nm : Bool) {l : List UInt8} {k : Nat} {x : UInt8} (h : l[k]? = some x) (hs : stopB nm x = true) : (runR nm (l.drop k)).length = 0 := by
  rw [drop_get h]
  unfold runR
  rw [List.takeWhile_cons, hs]
  rfl
theorem run_step (nm : Bool) {l : List UInt8} {k : Nat} {x : UInt8} (h : l[k]? = some x) (hs : stopB nm x = false) : (runR nm (l.drop k)).length = (runR nm (l.drop (k + 1))).length + 1 := by
  rw [drop_get h]
  unfold runR
  rw [List.takeWhile_cons, hs]
  rfl
theorem run_end (nm : Bool) {l : List UInt8} {k : Nat} (h : l.length ≤ k) : (runR nm (l.drop k)).length = 0 := by
  rw [List.drop_of_length_le h]
  rfl

set_option maxHeartbeats 2000000 in
set_option maxRecDepth 1000000 in
theorem refEnd8_any (a : Option Addr) (c p : Nat) (l : List UInt8) (nm : Bool) (w : World) (h : IsBytes w a c l) (hp : p ≤ l.length) :
    Calls Tryd.prog 57 #[.slice a l.length c, .int .i64 p, .bool nm] w fun e w' => e = .returned (.int .i64 ((p + (runR nm (l.drop p)).length : Nat) : Int)) ∧ w' = w := by
  have hlen : l.length ≤ 9223372036854775807 := by
    have h1 := h.1
    have h2 := h.2.1
    unfold maxLen at h2
    omega
  have HB : Hid (IsBytes w a c l) := h
  clear h
  obtain ⟨R, hR⟩ : ∃ R, R = p + (runR nm (l.drop p)).length := ⟨_, rfl⟩
  rw [← hR]
  have HR := hide hR
  clear hR
  go_enter Tryd.func57, Tryd.ntmps57
  go_wp2_with fail
  go_loopg [1] l.length (fun gk i wr => ∃ k : Nat, i = .int .i64 k ∧ k ≤ l.length ∧ l.length - k ≤ gk ∧ wr = w ∧ Hid (R = k + (runR nm (l.drop k)).length))
  case atStart => exact ⟨p, rfl, hp, by omega, rfl, HR.out⟩
  case round =>
    obtain ⟨k, rfl, hk, hgk, hwr, HK⟩ := hrel
    subst hwr
    by_cases hlt : k < l.length
    · obtain ⟨x, hx⟩ : ∃ x, l[k]? = some x := ⟨_, List.getElem?_eq_getElem hlt⟩
      obtain ⟨b, o, hab, _, hc⟩ := HB.out.get (by intro h0; rw [h0] at hlt; cases hlt)
      subst hab
      have cx : wr.cell? ⟨b, o + k, none⟩ = some (.int .u8 (x.toNat : Int)) := hc k x hx
      have HX := hide hx
      clear hc hx
      cases hs : stopB nm x with
      | true =>
        have HS := hide hs
        have hk2 : Hid (R = k) := by
          have := HK.out
          rw [run_stop nm HX.out hs] at this
          exact this
        by_cases h13 : x.toNat = 13
        · have e1 : ((x.toNat : Int) != 13) = false := by rw [h13]; rfl
          clear hs h13
          go_wp2_with fail
          go_ret
          exact ⟨by rw [hk2.out]; rfl, rfl⟩
        · have e1 : ((x.toNat : Int) != 13) = true := by simp; omega
          by_cases h32 : x.toNat = 32
          · have e2 : ((x.toNat : Int) != 32) = false := by rw [h32]; rfl
            clear hs h13 h32
            go_wp2_with fail
            go_ret
            exact ⟨by rw [hk2.out]; rfl, rfl⟩
          · have e2 : ((x.toNat : Int) != 32) = true := by simp; omega
            have hnm : nm = false ∧ ¬ (48 ≤ x.toNat ∧ x.toNat ≤ 57) := by
              unfold stopB at hs
              simp only [Bool.or_eq_true, beq_iff_eq, Bool.not_eq_true', Bool.or_eq_false_iff, Bool.and_eq_false_iff, decide_eq_false_iff_not] at hs
              rcases hs with (rfl | rfl) | ⟨h1, h2⟩
              · exact absurd rfl h13
              · exact absurd rfl h32
              · exact ⟨h1, by omega⟩
            obtain ⟨rfl, hd⟩ := hnm
            clear hs
            by_cases h48 : (48 : Int) ≤ (x.toNat : Int)
            · have h57 : ¬ (x.toNat : Int) ≤ 57 := by omega
              clear hd h13 h32
              go_wp2_with fail
              go_ret
              exact ⟨by rw [hk2.out]; rfl, rfl⟩
            · clear hd h13 h32
              go_wp2_with fail
              go_ret
              exact ⟨by rw [hk2.out]; rfl, rfl⟩
      | false =>
        have hk2 : Hid (R = k + 1 + (runR nm (l.drop (k + 1))).length) := by
          have := HK.out
          rw [run_step nm HX.out hs] at this
          show R = _
          omega
        unfold stopB at hs
        simp only [Bool.or_eq_false_iff, beq_eq_false_iff_ne, ne_eq, Bool.not_eq_false', Bool.or_eq_true, Bool.and_eq_true, decide_eq_true_eq] at hs
        obtain ⟨⟨h13, h32⟩, hd⟩ := hs
        have e1 : ((x.toNat : Int) != 13) = true := by
          simp only [bne_iff_ne, ne_eq]
          intro e; exact h13 (UInt8.toNat_inj.1 (by show x.toNat = 13; omega))
        have e2 : ((x.toNat : Int) != 32) = true := by
          simp only [bne_iff_ne, ne_eq]
          intro e; exact h32 (UInt8.toNat_inj.1 (by show x.toNat = 32; omega))
        clear h13 h32
        cases nm with
        | true =>
          clear hd
          go_wp2_with fail
          go_roundg (l.length - (k + 1))
          case measure => omega
          case rel => exact ⟨k + 1, by go_num, by omega, Nat.le_refl _, rfl, hk2.out⟩
        | false =>
          have h48 : (48 : Int) ≤ (x.toNat : Int) := by rcases hd with hd | hd; (cases hd); omega
          have h57 : (x.toNat : Int) ≤ 57 := by rcases hd with hd | hd; (cases hd); omega
          clear hd
          go_wp2_with fail
          go_roundg (l.length - (k + 1))
          case measure => omega
          case rel => exact ⟨k + 1, by go_num, by omega, Nat.le_refl _, rfl, hk2.out⟩
    · have hk2 : Hid (R = k) := by
        have := HK.out
        rw [run_end nm (by omega)] at this
        exact this
      go_wp2_with fail
      go_ret
      exact ⟨by rw [hk2.out]; rfl, rfl⟩
end Go.Proofs.YtomgnailgddchaaDoor

namespace Go.Proofs.YtomgnailgddchaaDoor
open Go.RowKit Go.Lib

theorem fields_of : ∀ k : Nat, k < 24 → fieldsR (k : Int) = fsOf k := by decide
theorem most_of : ∀ k : Nat, k < 24 → (fsOf k).all (fun x => x == 84 || (decide (mostR (k : Int) x = mostX k x) && (x == 73 || x == 78 || x == 66))) = true := by decide
theorem most_in {k : Nat} (hk : k < 24) {x : UInt8} (hx : x ∈ fsOf k) (h : ¬ x = 84) : mostR (k : Int) x = mostX k x ∧ (x = 73 ∨ x = 78 ∨ x = 66) := by
  have := List.all_eq_true.1 (most_of k hk) x hx
  simp only [Bool.or_eq_true, beq_iff_eq, Bool.and_eq_true, decide_eq_true_eq] at this
  rcases this with h' | ⟨h1, (h2 | h2) | h2⟩
  · exact absurd h' h
  · exact ⟨h1, .inl h2⟩
  · exact ⟨h1, .inr (.inl h2)⟩
  · exact ⟨h1, .inr (.inr h2)⟩
theorem least_X (x : UInt8) : Go.Proofs.YtomgnailgddchaaDoor.leastR x = leastX x := rfl
theorem mostR_le (k : Int) (x : UInt8) : 0 ≤ mostR k x ∧ mostR k x ≤ 1099511627776 := by
  unfold mostR
  split
  · omega
  · split <;> omega

set_option maxHeartbeats 2000000 in
set_option maxRecDepth 1000000 in
theorem right_any (s : ByteArray) (k : Nat) (hk : k < 24) (x : UInt8) (hx : x ∈ fsOf k) (w : World) (hs : s.size ≤ maxLen) :
    Calls Tryd.prog 67 #[.string s, .int .i64 k, .int .u8 x.toNat] w fun e w' => e = .returned (.bool (fitsX k x s.data.toList)) ∧ Below w.heap.size w w' := by
  by_cases h84 : x = 84
  · subst h84
    have hf : Hid (fitsX k 84 s.data.toList = validB s.data.toList) := (show fitsX k 84 s.data.toList = _ by unfold fitsX; rw [if_pos rfl])
    clear hx
    go_enter Tryd.func67, Tryd.ntmps67
    go_wp2_with (go_at_call 72; refine (refValid_any s w).mono ?_; rintro e w1 ⟨rfl, rfl⟩)
    go_ret
    exact ⟨by rw [hf.out]; rfl, Below.refl _ _⟩
  · obtain ⟨hm, hx3⟩ := most_in hk hx h84
    have hmb := mostR_le k x
    have HF0 : Hid (fitsX k x s.data.toList = numFits (leastR x) (mostR k x) s.data.toList) := by
      show fitsX k x s.data.toList = _
      unfold fitsX
      rw [if_neg h84, hm]
      rfl
    have HM := hide (refMost_any k x hx3)
    have HLs := hide (refLeast_any x hx3)
    obtain ⟨most, hmo⟩ : ∃ m, m = mostR k x := ⟨_, rfl⟩
    obtain ⟨least, hle0⟩ : ∃ m, m = leastR x := ⟨_, rfl⟩
    have hlb : 0 ≤ least ∧ least ≤ 1 := by rw [hle0]; unfold leastR; split <;> omega
    rw [← hmo] at hmb HF0 HM
    rw [← hle0] at HF0 HLs
    have hb : ((x.toNat : Int) == 84) = false := by
      rw [beq_eq_false_iff_ne]
      intro e
      exact h84 (UInt8.toNat_inj.1 (by show x.toNat = 84; omega))
    have HX := hide hx3
    clear hx3 hm hx h84 hmo hle0
    have v0 := parseV_pos s.data.toList most
    have v1 := parseV_le s.data.toList most hmb.1
    obtain ⟨v, hv⟩ : ∃ v, v = parseV s.data.toList most := ⟨_, rfl⟩
    obtain ⟨ok, hok⟩ : ∃ ok, ok = parseB s.data.toList most := ⟨_, rfl⟩
    have HF : Hid (fitsX k x s.data.toList = (ok && decide (least ≤ v) && decide (decL v = s.data.toList))) := by
      show fitsX _ _ _ = _
      rw [HF0.out]
      unfold numFits
      rw [← hv, ← hok]
    have HPA : Hid (∀ w : World, Calls Tryd.prog 58 #[.string s, .int .i64 most] w fun e w' => e = .returned (.tuple #[.int .i64 v, .bool ok]) ∧ w' = w) := fun w => by
      rw [hv, hok]
      exact refParse_any s most w hs (by omega) (by omega)
    rw [← hv] at v0 v1
    clear hv hok HF0 hs
    cases ok with
    | false =>
      go_enter Tryd.func67, Tryd.ntmps67
      go_wp2_with (first
        | (go_at_call 73; refine (HM.out _).mono ?_; rintro e w1 ⟨rfl, rfl⟩)
        | (go_at_call 58; refine (HPA.out _).mono ?_; rintro e w1 ⟨rfl, rfl⟩))
      go_ret
      exact ⟨by rw [HF.out]; rfl, Below.refl _ _⟩
    | true =>
      by_cases hle : least ≤ v
      · go_enter Tryd.func67, Tryd.ntmps67
        go_wp2_with (first
          | (go_at_call 73; refine (HM.out _).mono ?_; rintro e w1 ⟨rfl, rfl⟩)
          | (go_at_call 58; refine (HPA.out _).mono ?_; rintro e w1 ⟨rfl, rfl⟩)
          | (go_at_call 74; refine (HLs.out _).mono ?_; rintro e w1 ⟨rfl, rfl⟩)
          | (go_at_call 75; refine (refPrint_any v _ (by omega) (by omega)).mono ?_; rintro e w2 ⟨rfl, b2⟩; have B2 := hide b2; clear b2))
        go_ret
        refine ⟨?_, B2.out⟩
        rw [HF.out, decide_eq_true hle]
        refine congrArg (fun b => Ending.returned (.bool b)) ?_
        rw [ByteArray.toList_eq, print_dec v0]
        unfold decL
        rw [Bool.true_and, Bool.true_and, Bool.beq_eq_decide_eq]
      · go_enter Tryd.func67, Tryd.ntmps67
        go_wp2_with (first
          | (go_at_call 73; refine (HM.out _).mono ?_; rintro e w1 ⟨rfl, rfl⟩)
          | (go_at_call 58; refine (HPA.out _).mono ?_; rintro e w1 ⟨rfl, rfl⟩)
          | (go_at_call 74; refine (HLs.out _).mono ?_; rintro e w1 ⟨rfl, rfl⟩))
        go_ret
        exact ⟨by rw [HF.out, decide_eq_false (by omega)]; rfl, Below.refl _ _⟩
end Go.Proofs.YtomgnailgddchaaDoor
