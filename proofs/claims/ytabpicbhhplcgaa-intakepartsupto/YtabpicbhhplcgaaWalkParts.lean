/-
  The walk of IntakeParts.
-/
import Derived.Test.YtabpicbhhplcgaaPlainParts
import Derived.Test.YtabpicbhhplcgaaParts
import Derived.Test.YtabpicbhhplcgaaNums
import Derived.Test.YtabpicbhhplcgaaFed
import Derived.Test.YtabpicbhhplcgaaAlike
import Derived.Test.YtabpicbhhplcgaaWalkNames
import Derived.Deep.CutRange
namespace Go.Proofs.Ytabpicbhhplcgaa.intakeParts
open Go.RowKit

/-- As the loop finds it. -/
def Out (w : World) (ib : Nat) (mx : Int) (wr : World) : Prop := ∃ v s, InAt wr ib v s ∧ From w.heap.size ib v ∧ Below w.heap.size w wr ∧ Rest s mx []
theorem other {w : World} {ib rb : Nat} {v : Value} {s : In} {cs : Array Value} (h : InAt w ib v s) (hr : w.heap[rb]? = some (.cells cs 59 (0, 0))) : ¬ Mine ib v rb := by
  obtain ⟨g, came, hb, ho, _⟩ := h
  rintro (rfl | hk)
  · unfold BoxAt at hb
    rw [hb] at hr
    simp at hr
  · rcases ho.2 with ⟨rfl, _⟩ | ⟨g', cap, cur, rfl, _, hg, _⟩
    · cases hk
    · cases hk
      rw [hg] at hr
      simp at hr
theorem rest_fit {s : In} {mx : Int} {h : List UInt8} (r : Rest s mx h) (hl : h.length ≤ 2147483648) : s.Fit := ⟨by rw [r.2.1]; decide, r.2.2.1, by rw [r.2.2.2]; exact hl⟩
theorem saidL_len (t : List UInt8) (bd br : Bool) (d : List UInt8) : (saidL t bd br d).length ≤ t.length + d.length + 4 := by
  have := cutL_le t
  unfold saidL
  cases bd <;> cases br <;> simp <;> omega

set_option maxHeartbeats 8000000 in
set_option maxRecDepth 1000000 in
theorem walk (mx : Int) (a : Option Addr) (c : Nat) (l : List PartI) (a' : Option Addr) (c' : Nat) (cuts : List Int) (w : World) (hx : -9223372036854775808 ≤ mx ∧ mx ≤ 9223372036854775807) (h : IsParts w a c l ∧ (a = none → c = 0)) (hcu : IsInts w a' c' cuts ∧ (a' = none → c' = 0)) (hb : totP l ≤ 1048576) (hm : MaxAt w) :
    Calls Try.prog 5 #[.int .i64 mx, .slice a l.length c, .slice a' cuts.length c'] w fun e w' => e = .returned (.bool true) ∧ Below w.heap.size w w' := by
  have HM : Hid (MaxAt w) := hm
  have HA : Hid (IsParts w a c l) := h.1
  have HCU : Hid (IsInts w a' c' cuts) := hcu.1
  have HT : Hid (totP l ≤ 1048576) := hb
  have hlc : l.length ≤ c := h.1.1
  have hll : l.length ≤ 1048576 := by have := totP_len l; omega
  have hclc : cuts.length ≤ c' := hcu.1.1
  have hccm : c' ≤ 9223372036854775807 := by have := hcu.1.2.1; unfold maxLen at this; omega
  clear h hm hb hcu
  have h0 : 0 ≠ w.heap.size := by have := HM.out.lt; omega
  have HP0 := parts_any a c l w HA.out HT.out
  have HP : Hid (Calls Try.prog 22 #[.slice a l.length c] w fun e w' => e = .returned (.bool false) ∧ ∃ n, w' = w.drewN n) := HP0
  clear HP0
  by_cases hr : mx < 1 ∨ 65535 < mx
  · go_enter Try.func5, Try.ntmps5
    go_wp2_with fail
    refine HP.out.mono ?_
    rintro e w0 ⟨rfl, n0, hW0⟩
    have B0 : Below w.heap.size w w0 := by rw [hW0]; exact below_drewN (Below.refl _ w) n0
    have HB0 : Hid (Below w.heap.size w w0) := B0
    have HM0 : Hid (MaxAt w0) := HM.out.below B0 HM.out.lt
    clear B0 hW0
    go_wp2_with fail
    refine (shown_any w0 HM0.out).mono ?_
    rintro e w1 ⟨rfl, B1⟩
    have HB1 : Hid (Below w.heap.size w w1) := HB0.out.trans (B1.mono HB0.out.size)
    clear B1
    go_wp2_with fail
    refine (new_no w1 mx hr).mono ?_
    rintro e w2 ⟨rfl, hW⟩
    have hW := hW.symm
    subst hW
    by_cases h1 : mx < 1
    · go_wp2
      go_ret
      exact ⟨rfl, HB1.out⟩
    · have h2 : (65535 : Int) < mx := by omega
      go_wp2
      go_ret
      exact ⟨rfl, HB1.out⟩
  have t1 : ¬ mx < 1 := by omega
  have t2 : ¬ (65535 : Int) < mx := by omega
  go_enter Try.func5, Try.ntmps5
  go_wp2_with fail
  refine HP.out.mono ?_
  rintro e w0 ⟨rfl, n0, hW0⟩
  have B0 : Below w.heap.size w w0 := by rw [hW0]; exact below_drewN (Below.refl _ w) n0
  have HB0 : Hid (Below w.heap.size w w0) := B0
  have HM0 : Hid (MaxAt w0) := HM.out.below B0 HM.out.lt
  clear B0 hW0
  go_wp2_with fail
  refine (shown_any w0 HM0.out).mono ?_
  rintro e w1 ⟨rfl, B1⟩
  have HB1 : Hid (Below w.heap.size w w1) := HB0.out.trans (B1.mono HB0.out.size)
  clear B1
  go_wp2_with fail
  refine (new_yes w1 mx (by omega) (by omega)).mono ?_
  rintro e w2 ⟨rfl, hI2, B2⟩
  have hsz1 := HB1.out.size
  have HI2 : Hid (InAt w2 w1.heap.size (.slice none 0 0) (In.new mx)) := hI2
  have HB2 : Hid (Below w.heap.size w w2) := HB1.out.trans (B2.mono hsz1)
  obtain ⟨ib, hib⟩ : ∃ ib, ib = w1.heap.size := ⟨_, rfl⟩
  rw [← hib] at HI2
  rw [← hib]
  have hib0 : 0 ≠ ib := by omega
  have hibw : w.heap.size ≤ ib := by omega
  clear hI2 B2 hib
  go_wp2
  go_loopg [52] l.length (fun gk s52 wr => ∃ k : Nat, s52 = .int .i64 k ∧ k ≤ l.length ∧ l.length - k ≤ gk ∧ Hid (Out w ib mx wr))
  case atStart => exact ⟨0, rfl, Nat.zero_le _, Nat.le_refl _, (show Out w ib mx w2 from ⟨.slice none 0 0, In.new mx, HI2.out, nil_from _ _ hibw, HB2.out, rfl, rfl, (show (0 : Nat) ≤ 4294967297 by omega), rfl⟩)⟩
  case round =>
    obtain ⟨k, rfl, hk, hgk, HO⟩ := hrel
    by_cases hp : k < l.length
    · have hpi : (k : Int) < (l.length : Int) := by omega
      obtain ⟨x, hxk⟩ : ∃ x, l[k]? = some x := ⟨_, List.getElem?_eq_getElem hp⟩
      obtain ⟨v, s, hI, hF, hB, hRest⟩ := HO.out
      rcases HA.out.2.2.2 with rfl | ⟨b, o, rfl, hbl, hc⟩
      · simp at hp
      obtain ⟨c0, c1, c2, a3, cp3, c3, hi3, hn3⟩ := hc k x hxk
      have k0 := (hB.cell (p := ⟨b, o + k * 4, none⟩) hbl).trans c0
      have k1 := (hB.cell (p := ⟨b, o + k * 4 + 1, none⟩) hbl).trans c1
      have k2 := (hB.cell (p := ⟨b, o + k * 4 + 2, none⟩) hbl).trans c2
      have k3 := (hB.cell (p := ⟨b, o + k * 4 + 3, none⟩) hbl).trans c3
      have hi3r := (hi3.below (hB.mono (Nat.le_refl _)))
      have hxt := totP_take l k x hxk
      have hxt2 := totP_le l (k + 1)
      have hx1 : x.1.size ≤ 1048576 := by have := HT.out; omega
      have hx2 : x.2.2.2.length ≤ 1048576 := by have := HT.out; omega
      obtain ⟨tx, bd, br, d⟩ := x
      simp only [] at k0 k1 k2 k3 hi3r hx1 hx2
      obtain ⟨L, hL⟩ : ∃ L, L = d.length := ⟨_, rfl⟩
      rw [← hL] at k3 hx2
      obtain ⟨w3, hw3⟩ : ∃ w3, w3 = wr.alloc (.cells #[.string tx, .bool bd, .bool br, .slice a3 L cp3] 59) := ⟨_, rfl⟩
      have B3 : Below wr.heap.size wr w3 := by rw [hw3]; exact (Below.refl _ wr).alloc (Nat.le_refl _) _
      have r3 : w3.heap[wr.heap.size]? = some (.cells #[.string tx, .bool bd, .bool br, .slice a3 L cp3] 59 (0, 0)) := by rw [hw3]; exact heap_alloc_last _ _
      have hs3 : w3.heap.size = wr.heap.size + 1 := by rw [hw3]; simp
      have hlt3 : wr.heap.size < w3.heap.size := by omega
      have j0 : w3.cell? ⟨wr.heap.size, 0, none⟩ = some (.string tx) := by simp [World.cell?, r3]
      have j1 : w3.cell? ⟨wr.heap.size, 1, none⟩ = some (.bool bd) := by simp [World.cell?, r3]
      have fz : w3.frozen? ⟨wr.heap.size, 1, none⟩ = false := by simp [World.frozen?, r3]
      have HBw : Hid (Below w.heap.size w wr) := hB
      have HW3 : Hid (w3 = wr.alloc (.cells #[.string tx, .bool bd, .bool br, .slice a3 L cp3] 59)) := hw3
      have HI3 : Hid (InAt w3 ib v s ∧ From w.heap.size ib v ∧ Below w.heap.size w w3 ∧ Rest s mx []) := ⟨hI.below B3, hF, hB.trans (B3.mono hB.size), hRest⟩
      have HD0 : Hid (IsBytes w a3 cp3 d) := hi3
      have HD : Hid (IsBytes w3 a3 cp3 d ∧ d.length = L) := ⟨hi3r.below B3, hL.symm⟩
      have HR3 : Hid (w3.heap[wr.heap.size]? = some (.cells #[.string tx, .bool bd, .bool br, .slice a3 L cp3] 59 (0, 0))) := r3
      clear hI hF hB hRest c0 c1 c2 c3 hi3 hn3 hc hxk hw3 B3 r3 hi3r hL HO hxt hxt2 hs3
      go_upto_region 14 with fail
      rw [← HW3.out]
      clear k0 k1 k2 k3
      obtain ⟨z, hz⟩ : ∃ z : Int, (k < cuts.length ∧ ∃ b' o', a' = some ⟨b', o', none⟩ ∧ w3.cell? ⟨b', o' + k, none⟩ = some (.int .i64 z)) ∨ (¬ k < cuts.length ∧ z = 0) := by
        by_cases hkc : k < cuts.length
        · obtain ⟨z, hz⟩ : ∃ z, cuts[k]? = some z := ⟨_, List.getElem?_eq_getElem hkc⟩
          rcases HCU.out.2.2.2 with h | ⟨b', o', ha', hb', hc'⟩
          · rw [h] at hkc; simp at hkc
          · exact ⟨z, .inl ⟨hkc, b', o', ha', (HI3.out.2.2.1.cell (p := ⟨b', o' + k, none⟩) hb').trans (hc' k z hz)⟩⟩
        · exact ⟨0, .inr ⟨hkc, rfl⟩⟩
      rcases hz with ⟨hkc, b', o', rfl, cz⟩ | ⟨hkc, rfl⟩
      · have hkci : (k : Int) < (cuts.length : Int) := by omega
        have HBr : Hid (w.heap.size ≤ wr.heap.size) := by
          have h1 := HBw.out.size
          exact h1
        obtain ⟨cs, hcs⟩ : ∃ cs : ByteArray, cs = ⟨(cutL tx.data.toList).toArray⟩ := ⟨_, rfl⟩
        have HCS : Hid (⟨(cutL tx.data.toList).toArray⟩ = cs ∧ cs.size = (cutL tx.data.toList).length) := ⟨hcs.symm, by rw [hcs]; rfl⟩
        have hcsl : cs.size ≤ 1048576 := by
          have h1 := cutL_le tx.data.toList
          have h2 : tx.data.toList.length = tx.size := by simp
          have := HCS.out.2
          omega
        clear hcs
        by_cases hlong : 222 < (cutL tx.data.toList).length
        · have hlc : (222 : Int) < (cs.size : Int) := by have := HCS.out.2; omega
          cases bd with
          | true =>
            go_wp2_with fail
            refine (cutS_any tx w3 (by omega)).mono ?_
            rintro e w3' ⟨rfl, hW⟩
            rw [HCS.out.1]
            have hW := hW.symm
            subst hW
            obtain ⟨w4, hw4⟩ : ∃ w4, w4 = w3.setCell ⟨wr.heap.size, 1, none⟩ (.bool false) := ⟨_, rfl⟩
            obtain ⟨q1, q2⟩ := set_cells HR3.out 1 (.bool false)
            have K4 : Kept (fun k => k = wr.heap.size) w3 w4 := by rw [hw4]; exact Kept.setCell _ w3 wr.heap.size 1 _ rfl
            rw [← hw4] at q1
            have HR4 : Hid (w4.heap[wr.heap.size]? = some (.cells #[.string tx, .bool false, .bool br, .slice a3 L cp3] 59 (0, 0))) := q1
            have HI4 : Hid (InAt w4 ib v s ∧ From w.heap.size ib v ∧ Below w.heap.size w w4 ∧ Rest s mx []) := ⟨HI3.out.1.kept K4 (fun k hk e => by subst e; exact other HI3.out.1 HR3.out hk), HI3.out.2.1, HI3.out.2.2.1.trans ⟨K4.os, K4.tape, K4.output, K4.size, fun k hk => K4.block k (by have := HI3.out.2.2.1.size; omega) (by have := HBr.out; omega)⟩, HI3.out.2.2.2⟩
            have HD4 : Hid (IsBytes w4 a3 cp3 d) := HD.out.1.kept K4 (fun b1 o1 e1 hne e2 => by
              obtain ⟨b2, o2, e3, _, hc2⟩ := HD.out.1.get hne
              rw [e1] at e3
              cases e3
              subst e2
              obtain ⟨y, r, rfl⟩ : ∃ y r, d = y :: r := by cases d with | nil => exact absurd rfl hne | cons y r => exact ⟨y, r, rfl⟩
              have hcell := hc2 0 y rfl
              simp only [World.cell?, HR3.out] at hcell
              match o1, hcell with
              | 0, hc => simp at hc
              | 1, hc => simp at hc
              | 2, hc => simp at hc
              | 3, hc => simp at hc
              | o1 + 4, hc => simp at hc)
            have HW4 : Hid (w4 = w3.setCell ⟨wr.heap.size, 1, none⟩ (.bool false)) := hw4
            have hlt4 : wr.heap.size < w4.heap.size := by have := K4.size; omega
            have m0 : w4.cell? ⟨wr.heap.size, 0, none⟩ = some (.string tx) := by simp [World.cell?, HR4.out]
            clear hw4 q1 q2 K4
            go_upto_region 20 with fail
            rw [← HW4.out]
            have n0 : w4.cell? ⟨wr.heap.size, 0, none⟩ = some (.string tx) := by simp [World.cell?, HR4.out]
            have n1 : w4.cell? ⟨wr.heap.size, 1, none⟩ = some (.bool false) := by simp [World.cell?, HR4.out]
            have n2 : w4.cell? ⟨wr.heap.size, 2, none⟩ = some (.bool br) := by simp [World.cell?, HR4.out]
            have n3 : w4.cell? ⟨wr.heap.size, 3, none⟩ = some (.slice a3 L cp3) := by simp [World.cell?, HR4.out]
            clear m0
            go_wp2_with fail
            refine (said_any tx false br a3 cp3 L d w4 HD4.out HD.out.2 hx1 (by have := HD.out.2; omega)).mono ?_
            rintro e w5 ⟨v5, rfl, own5, B5⟩
            obtain ⟨a5, c5, rfl, is5, hge5⟩ := own5.is
            obtain ⟨S5, hS5⟩ : ∃ S5, S5 = (saidL tx.data.toList false br d).length := ⟨_, rfl⟩
            rw [← hS5]
            have HI5 : Hid (InAt w5 ib v s ∧ Below w.heap.size w w5) := ⟨HI4.out.1.below B5, HI4.out.2.2.1.trans (B5.mono HI4.out.2.2.1.size)⟩
            have HR5 : Hid (w5.heap[wr.heap.size]? = some (.cells #[.string tx, .bool false, .bool br, .slice a3 L cp3] 59 (0, 0))) := (B5.block wr.heap.size hlt4).trans HR4.out
            have HS5 : Hid ((saidL tx.data.toList false br d).length = S5 ∧ IsBytes w5 a5 c5 (saidL tx.data.toList false br d) ∧ ∀ b1 o1, a5 = some ⟨b1, o1, none⟩ → saidL tx.data.toList false br d ≠ [] → ¬ Mine ib v b1) := ⟨hS5.symm, is5, fun b1 o1 e1 _ hM => by have := hge5 b1 o1 e1; have := HI4.out.1.lt b1 hM; omega⟩
            have hS5l : S5 ≤ 3145728 := by have := saidL_len tx.data.toList false br d; have h2 : tx.data.toList.length = tx.size := by { simp }; have := HD.out.2; omega
            clear own5 B5 is5 hge5 hS5
            go_wp2_with fail
            have FD := fun at_ => fed_any w5 ib v s a5 c5 (saidL tx.data.toList false br d) at_ HI5.out.1 HI3.out.2.2.2.2.1 HI3.out.2.2.2.2.2.1 HS5.out.2.1 (by have := HS5.out.1; rw [HI3.out.2.2.2.2.2.2]; simp; omega) (HM.out.below HI5.out.2 HM.out.lt) HS5.out.2.2 (fun h => by have := HI3.out.2.1 0 h; omega)
            rw [HS5.out.1] at FD
            refine (FD _).mono ?_
            clear FD
            rintro e w6 ⟨rfl, W6⟩
            have r6 := (W6.kept.block wr.heap.size (Array.getElem?_eq_some_iff.1 HR5.out).1 (other HI5.out.1 HR5.out)).trans HR5.out
            obtain ⟨v6, hI6, F6, B6⟩ := W6.below HI3.out.2.1 HI5.out.2.size
            have HI6 : Hid (InAt w6 ib v6 { s with held := s.held ++ saidL tx.data.toList false br d } ∧ From w.heap.size ib v6 ∧ Below w.heap.size w w6) := ⟨hI6, F6, HI5.out.2.trans B6⟩
            have HR6 : Hid (w6.heap[wr.heap.size]? = some (.cells #[.string tx, .bool false, .bool br, .slice a3 L cp3] 59 (0, 0))) := r6
            have hq6 : Rest { s with held := s.held ++ saidL tx.data.toList false br d } mx (cutL tx.data.toList ++ [13, 10]) := ⟨HI3.out.2.2.2.1, HI3.out.2.2.2.2.1, HI3.out.2.2.2.2.2.1, by show s.held ++ _ = _; rw [HI3.out.2.2.2.2.2.2]; simp [saidL]⟩
            obtain ⟨s6, hs6⟩ : ∃ s6 : In, s6 = { s with held := s.held ++ saidL tx.data.toList false br d } := ⟨_, rfl⟩
            rw [← hs6] at hq6 HI6
            have HF6 : Hid s6.Fit := rest_fit hq6 (by have h2 : tx.data.toList.length = tx.size := by { simp }; have := cutL_le tx.data.toList; have := HD.out.2; simp; omega)
            obtain ⟨hk6, hR6⟩ := long_next (cutL tx.data.toList) (cutL_none _) hlong hq6
            have HK6 : Hid (s6.next.1.kind = 2 ∧ (⟨s6.next.1.text.toArray⟩ : ByteArray) = ⟨#[]⟩ ∧ s6.next.1.body = []) := by rw [hk6]; exact ⟨rfl, rfl, rfl⟩
            have HQ6 : Hid (Rest s6.next.2 mx ([])) := hR6
            clear W6 r6 hI6 F6 B6 hq6 hs6 hk6 hR6
            go_wp2_with fail
            refine (next_any w6 ib v6 s6 HI6.out.1 HF6.out (HM.out.below HI6.out.2.2 HM.out.lt) hib0).mono ?_
            rintro e w7 ⟨vb, rfl, own7, W7⟩
            have r7 := (W7.went.kept.block wr.heap.size (Array.getElem?_eq_some_iff.1 HR6.out).1 (other HI6.out.1 HR6.out)).trans HR6.out
            obtain ⟨v7, hI7, F7, B7⟩ := W7.went.below HI6.out.2.1 HI6.out.2.2.size
            rw [HK6.out.2.2] at own7
            obtain ⟨ab, cb, rfl, is7, _⟩ := own7.slice
            have HIT : Hid (itemV s6.next.1.kind s6.next.1.text (.slice ab ([] : List UInt8).length cb) = .agg #[.int .i64 2, .string ⟨#[]⟩, .slice ab 0 cb] ∧ (s6.next.1.kind != 0) = true) := ⟨by unfold itemV; rw [HK6.out.1, HK6.out.2.1]; rfl, by rw [HK6.out.1]; rfl⟩
            rw [HIT.out.1, HIT.out.2]
            have hcb : cb ≤ maxLen := is7.2.1
            obtain ⟨w9, hw9⟩ : ∃ w9, w9 = (w7.alloc (.cells #[.int .i64 2, .string ⟨#[]⟩, .slice ab 0 cb] 54)).alloc (.cells #[.int .i64 2, .string ⟨#[]⟩, .slice none 0 0] 54) := ⟨_, rfl⟩
            have B9 : Below w7.heap.size w7 w9 := by rw [hw9]; exact ((Below.refl _ w7).alloc (Nat.le_refl _) _).alloc (by simp) _
            have HW9 : Hid (w9 = (w7.alloc (.cells #[.int .i64 2, .string ⟨#[]⟩, .slice ab 0 cb] 54)).alloc (.cells #[.int .i64 2, .string ⟨#[]⟩, .slice none 0 0] 54)) := hw9
            have HI9 : Hid (InAt w9 ib v7 s6.next.2 ∧ From w.heap.size ib v7 ∧ Below w.heap.size w w9) := ⟨hI7.below B9, F7, (HI6.out.2.2.trans B7).trans (B9.mono (HI6.out.2.2.trans B7).size)⟩
            have HR9 : Hid (w9.heap[wr.heap.size]? = some (.cells #[.string tx, .bool false, .bool br, .slice a3 L cp3] 59 (0, 0))) := (B9.block wr.heap.size (Array.getElem?_eq_some_iff.1 r7).1).trans r7
            clear own7 W7 r7 hI7 F7 B7 is7 hw9 B9
            go_wp2_with fail
            rw [← HW9.out]
            refine (alike_yes 2 ⟨#[]⟩ ab none cb 0 0 [] w9 (IsBytes.empty _ _ hcb) (IsBytes.empty _ _ (Nat.zero_le _)) rfl).mono ?_
            rintro e w10 ⟨rfl, B10⟩
            have r10 := (B10.block wr.heap.size (Array.getElem?_eq_some_iff.1 HR9.out).1).trans HR9.out
            have y1 : w10.cell? ⟨wr.heap.size, 1, none⟩ = some (.bool false) := by simp [World.cell?, r10]
            have y2 : w10.cell? ⟨wr.heap.size, 2, none⟩ = some (.bool br) := by simp [World.cell?, r10]
            have y3 : w10.cell? ⟨wr.heap.size, 3, none⟩ = some (.slice a3 L cp3) := by simp [World.cell?, r10]
            have HI10 : Hid (InAt w10 ib v7 s6.next.2 ∧ From w.heap.size ib v7 ∧ Below w.heap.size w w10) := ⟨HI9.out.1.below B10, HI9.out.2.1, HI9.out.2.2.trans (B10.mono HI9.out.2.2.size)⟩
            have HR10 : Hid (w10.heap[wr.heap.size]? = some (.cells #[.string tx, .bool false, .bool br, .slice a3 L cp3] 59 (0, 0))) := r10
            have HOK : Hid (Out w ib mx w10) := ⟨v7, s6.next.2, HI10.out.1, HI10.out.2.1, HI10.out.2.2, HQ6.out⟩
            clear B10 r10
            go_wp2
            go_roundg (l.length - (k + 1))
            case measure => omega
            case rel => exact ⟨k + 1, by go_num, by omega, Nat.le_refl _, HOK⟩
          | false =>
            go_wp2_with fail
            refine (cutS_any tx w3 (by omega)).mono ?_
            rintro e w3' ⟨rfl, hW⟩
            rw [HCS.out.1]
            have hW := hW.symm
            subst hW
            have n2 : w3.cell? ⟨wr.heap.size, 2, none⟩ = some (.bool br) := by simp [World.cell?, HR3.out]
            have n3 : w3.cell? ⟨wr.heap.size, 3, none⟩ = some (.slice a3 L cp3) := by simp [World.cell?, HR3.out]
            go_wp2_with fail
            refine (said_any tx false br a3 cp3 L d w3 HD.out.1 HD.out.2 hx1 (by have := HD.out.2; omega)).mono ?_
            rintro e w5 ⟨v5, rfl, own5, B5⟩
            obtain ⟨a5, c5, rfl, is5, hge5⟩ := own5.is
            obtain ⟨S5, hS5⟩ : ∃ S5, S5 = (saidL tx.data.toList false br d).length := ⟨_, rfl⟩
            rw [← hS5]
            have HI5 : Hid (InAt w5 ib v s ∧ Below w.heap.size w w5) := ⟨HI3.out.1.below B5, HI3.out.2.2.1.trans (B5.mono HI3.out.2.2.1.size)⟩
            have HR5 : Hid (w5.heap[wr.heap.size]? = some (.cells #[.string tx, .bool false, .bool br, .slice a3 L cp3] 59 (0, 0))) := (B5.block wr.heap.size hlt3).trans HR3.out
            have HS5 : Hid ((saidL tx.data.toList false br d).length = S5 ∧ IsBytes w5 a5 c5 (saidL tx.data.toList false br d) ∧ ∀ b1 o1, a5 = some ⟨b1, o1, none⟩ → saidL tx.data.toList false br d ≠ [] → ¬ Mine ib v b1) := ⟨hS5.symm, is5, fun b1 o1 e1 _ hM => by have := hge5 b1 o1 e1; have := HI3.out.1.lt b1 hM; omega⟩
            have hS5l : S5 ≤ 3145728 := by have := saidL_len tx.data.toList false br d; have h2 : tx.data.toList.length = tx.size := by { simp }; have := HD.out.2; omega
            clear own5 B5 is5 hge5 hS5
            go_wp2_with fail
            have FD := fun at_ => fed_any w5 ib v s a5 c5 (saidL tx.data.toList false br d) at_ HI5.out.1 HI3.out.2.2.2.2.1 HI3.out.2.2.2.2.2.1 HS5.out.2.1 (by have := HS5.out.1; rw [HI3.out.2.2.2.2.2.2]; simp; omega) (HM.out.below HI5.out.2 HM.out.lt) HS5.out.2.2 (fun h => by have := HI3.out.2.1 0 h; omega)
            rw [HS5.out.1] at FD
            refine (FD _).mono ?_
            clear FD
            rintro e w6 ⟨rfl, W6⟩
            have r6 := (W6.kept.block wr.heap.size (Array.getElem?_eq_some_iff.1 HR5.out).1 (other HI5.out.1 HR5.out)).trans HR5.out
            obtain ⟨v6, hI6, F6, B6⟩ := W6.below HI3.out.2.1 HI5.out.2.size
            have HI6 : Hid (InAt w6 ib v6 { s with held := s.held ++ saidL tx.data.toList false br d } ∧ From w.heap.size ib v6 ∧ Below w.heap.size w w6) := ⟨hI6, F6, HI5.out.2.trans B6⟩
            have HR6 : Hid (w6.heap[wr.heap.size]? = some (.cells #[.string tx, .bool false, .bool br, .slice a3 L cp3] 59 (0, 0))) := r6
            have hq6 : Rest { s with held := s.held ++ saidL tx.data.toList false br d } mx (cutL tx.data.toList ++ [13, 10]) := ⟨HI3.out.2.2.2.1, HI3.out.2.2.2.2.1, HI3.out.2.2.2.2.2.1, by show s.held ++ _ = _; rw [HI3.out.2.2.2.2.2.2]; simp [saidL]⟩
            obtain ⟨s6, hs6⟩ : ∃ s6 : In, s6 = { s with held := s.held ++ saidL tx.data.toList false br d } := ⟨_, rfl⟩
            rw [← hs6] at hq6 HI6
            have HF6 : Hid s6.Fit := rest_fit hq6 (by have h2 : tx.data.toList.length = tx.size := by { simp }; have := cutL_le tx.data.toList; have := HD.out.2; simp; omega)
            obtain ⟨hk6, hR6⟩ := long_next (cutL tx.data.toList) (cutL_none _) hlong hq6
            have HK6 : Hid (s6.next.1.kind = 2 ∧ (⟨s6.next.1.text.toArray⟩ : ByteArray) = ⟨#[]⟩ ∧ s6.next.1.body = []) := by rw [hk6]; exact ⟨rfl, rfl, rfl⟩
            have HQ6 : Hid (Rest s6.next.2 mx ([])) := hR6
            clear W6 r6 hI6 F6 B6 hq6 hs6 hk6 hR6
            go_wp2_with fail
            refine (next_any w6 ib v6 s6 HI6.out.1 HF6.out (HM.out.below HI6.out.2.2 HM.out.lt) hib0).mono ?_
            rintro e w7 ⟨vb, rfl, own7, W7⟩
            have r7 := (W7.went.kept.block wr.heap.size (Array.getElem?_eq_some_iff.1 HR6.out).1 (other HI6.out.1 HR6.out)).trans HR6.out
            obtain ⟨v7, hI7, F7, B7⟩ := W7.went.below HI6.out.2.1 HI6.out.2.2.size
            rw [HK6.out.2.2] at own7
            obtain ⟨ab, cb, rfl, is7, _⟩ := own7.slice
            have HIT : Hid (itemV s6.next.1.kind s6.next.1.text (.slice ab ([] : List UInt8).length cb) = .agg #[.int .i64 2, .string ⟨#[]⟩, .slice ab 0 cb] ∧ (s6.next.1.kind != 0) = true) := ⟨by unfold itemV; rw [HK6.out.1, HK6.out.2.1]; rfl, by rw [HK6.out.1]; rfl⟩
            rw [HIT.out.1, HIT.out.2]
            have hcb : cb ≤ maxLen := is7.2.1
            obtain ⟨w9, hw9⟩ : ∃ w9, w9 = (w7.alloc (.cells #[.int .i64 2, .string ⟨#[]⟩, .slice ab 0 cb] 54)).alloc (.cells #[.int .i64 2, .string ⟨#[]⟩, .slice none 0 0] 54) := ⟨_, rfl⟩
            have B9 : Below w7.heap.size w7 w9 := by rw [hw9]; exact ((Below.refl _ w7).alloc (Nat.le_refl _) _).alloc (by simp) _
            have HW9 : Hid (w9 = (w7.alloc (.cells #[.int .i64 2, .string ⟨#[]⟩, .slice ab 0 cb] 54)).alloc (.cells #[.int .i64 2, .string ⟨#[]⟩, .slice none 0 0] 54)) := hw9
            have HI9 : Hid (InAt w9 ib v7 s6.next.2 ∧ From w.heap.size ib v7 ∧ Below w.heap.size w w9) := ⟨hI7.below B9, F7, (HI6.out.2.2.trans B7).trans (B9.mono (HI6.out.2.2.trans B7).size)⟩
            have HR9 : Hid (w9.heap[wr.heap.size]? = some (.cells #[.string tx, .bool false, .bool br, .slice a3 L cp3] 59 (0, 0))) := (B9.block wr.heap.size (Array.getElem?_eq_some_iff.1 r7).1).trans r7
            clear own7 W7 r7 hI7 F7 B7 is7 hw9 B9
            go_wp2_with fail
            rw [← HW9.out]
            refine (alike_yes 2 ⟨#[]⟩ ab none cb 0 0 [] w9 (IsBytes.empty _ _ hcb) (IsBytes.empty _ _ (Nat.zero_le _)) rfl).mono ?_
            rintro e w10 ⟨rfl, B10⟩
            have r10 := (B10.block wr.heap.size (Array.getElem?_eq_some_iff.1 HR9.out).1).trans HR9.out
            have y1 : w10.cell? ⟨wr.heap.size, 1, none⟩ = some (.bool false) := by simp [World.cell?, r10]
            have y2 : w10.cell? ⟨wr.heap.size, 2, none⟩ = some (.bool br) := by simp [World.cell?, r10]
            have y3 : w10.cell? ⟨wr.heap.size, 3, none⟩ = some (.slice a3 L cp3) := by simp [World.cell?, r10]
            have HI10 : Hid (InAt w10 ib v7 s6.next.2 ∧ From w.heap.size ib v7 ∧ Below w.heap.size w w10) := ⟨HI9.out.1.below B10, HI9.out.2.1, HI9.out.2.2.trans (B10.mono HI9.out.2.2.size)⟩
            have HR10 : Hid (w10.heap[wr.heap.size]? = some (.cells #[.string tx, .bool false, .bool br, .slice a3 L cp3] 59 (0, 0))) := r10
            have HOK : Hid (Out w ib mx w10) := ⟨v7, s6.next.2, HI10.out.1, HI10.out.2.1, HI10.out.2.2, HQ6.out⟩
            clear B10 r10
            go_wp2
            go_roundg (l.length - (k + 1))
            case measure => omega
            case rel => exact ⟨k + 1, by go_num, by omega, Nat.le_refl _, HOK⟩
        · have hlc : ¬ (222 : Int) < (cs.size : Int) := by have := HCS.out.2; omega
          cases bd with
          | false =>
            go_wp2_with fail
            refine (cutS_any tx w3 (by omega)).mono ?_
            rintro e w3' ⟨rfl, hW⟩
            rw [HCS.out.1]
            have hW := hW.symm
            subst hW
            have n2 : w3.cell? ⟨wr.heap.size, 2, none⟩ = some (.bool br) := by simp [World.cell?, HR3.out]
            have n3 : w3.cell? ⟨wr.heap.size, 3, none⟩ = some (.slice a3 L cp3) := by simp [World.cell?, HR3.out]
            go_wp2_with fail
            refine (said_any tx false br a3 cp3 L d w3 HD.out.1 HD.out.2 hx1 (by have := HD.out.2; omega)).mono ?_
            rintro e w5 ⟨v5, rfl, own5, B5⟩
            obtain ⟨a5, c5, rfl, is5, hge5⟩ := own5.is
            obtain ⟨S5, hS5⟩ : ∃ S5, S5 = (saidL tx.data.toList false br d).length := ⟨_, rfl⟩
            rw [← hS5]
            have HI5 : Hid (InAt w5 ib v s ∧ Below w.heap.size w w5) := ⟨HI3.out.1.below B5, HI3.out.2.2.1.trans (B5.mono HI3.out.2.2.1.size)⟩
            have HR5 : Hid (w5.heap[wr.heap.size]? = some (.cells #[.string tx, .bool false, .bool br, .slice a3 L cp3] 59 (0, 0))) := (B5.block wr.heap.size hlt3).trans HR3.out
            have HS5 : Hid ((saidL tx.data.toList false br d).length = S5 ∧ IsBytes w5 a5 c5 (saidL tx.data.toList false br d) ∧ ∀ b1 o1, a5 = some ⟨b1, o1, none⟩ → saidL tx.data.toList false br d ≠ [] → ¬ Mine ib v b1) := ⟨hS5.symm, is5, fun b1 o1 e1 _ hM => by have := hge5 b1 o1 e1; have := HI3.out.1.lt b1 hM; omega⟩
            have hS5l : S5 ≤ 3145728 := by have := saidL_len tx.data.toList false br d; have h2 : tx.data.toList.length = tx.size := by { simp }; have := HD.out.2; omega
            clear own5 B5 is5 hge5 hS5
            go_wp2_with fail
            have FD := fun at_ => fed_any w5 ib v s a5 c5 (saidL tx.data.toList false br d) at_ HI5.out.1 HI3.out.2.2.2.2.1 HI3.out.2.2.2.2.2.1 HS5.out.2.1 (by have := HS5.out.1; rw [HI3.out.2.2.2.2.2.2]; simp; omega) (HM.out.below HI5.out.2 HM.out.lt) HS5.out.2.2 (fun h => by have := HI3.out.2.1 0 h; omega)
            rw [HS5.out.1] at FD
            refine (FD _).mono ?_
            clear FD
            rintro e w6 ⟨rfl, W6⟩
            have r6 := (W6.kept.block wr.heap.size (Array.getElem?_eq_some_iff.1 HR5.out).1 (other HI5.out.1 HR5.out)).trans HR5.out
            obtain ⟨v6, hI6, F6, B6⟩ := W6.below HI3.out.2.1 HI5.out.2.size
            have HI6 : Hid (InAt w6 ib v6 { s with held := s.held ++ saidL tx.data.toList false br d } ∧ From w.heap.size ib v6 ∧ Below w.heap.size w w6) := ⟨hI6, F6, HI5.out.2.trans B6⟩
            have HR6 : Hid (w6.heap[wr.heap.size]? = some (.cells #[.string tx, .bool false, .bool br, .slice a3 L cp3] 59 (0, 0))) := r6
            have hq6 : Rest { s with held := s.held ++ saidL tx.data.toList false br d } mx (cutL tx.data.toList ++ 13 :: 10 :: []) := ⟨HI3.out.2.2.2.1, HI3.out.2.2.2.2.1, HI3.out.2.2.2.2.2.1, by show s.held ++ _ = _; rw [HI3.out.2.2.2.2.2.2]; simp [saidL]⟩
            obtain ⟨s6, hs6⟩ : ∃ s6 : In, s6 = { s with held := s.held ++ saidL tx.data.toList false br d } := ⟨_, rfl⟩
            rw [← hs6] at hq6 HI6
            have HF6 : Hid s6.Fit := rest_fit hq6 (by have h2 : tx.data.toList.length = tx.size := by { simp }; have := cutL_le tx.data.toList; have := HD.out.2; simp; omega)
            obtain ⟨hk6, hR6⟩ := line_next (cutL tx.data.toList) _ (cutL_none _) (by omega) hq6
            have HK6 : Hid (s6.next.1.kind = 1 ∧ (⟨s6.next.1.text.toArray⟩ : ByteArray) = cs ∧ s6.next.1.body = []) := by rw [hk6]; exact ⟨rfl, HCS.out.1, rfl⟩
            have HQ6 : Hid (Rest s6.next.2 mx ([])) := hR6
            clear W6 r6 hI6 F6 B6 hq6 hs6 hk6 hR6
            go_wp2_with fail
            refine (next_any w6 ib v6 s6 HI6.out.1 HF6.out (HM.out.below HI6.out.2.2 HM.out.lt) hib0).mono ?_
            rintro e w7 ⟨vb, rfl, own7, W7⟩
            have r7 := (W7.went.kept.block wr.heap.size (Array.getElem?_eq_some_iff.1 HR6.out).1 (other HI6.out.1 HR6.out)).trans HR6.out
            obtain ⟨v7, hI7, F7, B7⟩ := W7.went.below HI6.out.2.1 HI6.out.2.2.size
            rw [HK6.out.2.2] at own7
            obtain ⟨ab, cb, rfl, is7, _⟩ := own7.slice
            have HIT : Hid (itemV s6.next.1.kind s6.next.1.text (.slice ab ([] : List UInt8).length cb) = .agg #[.int .i64 1, .string cs, .slice ab 0 cb] ∧ (s6.next.1.kind != 0) = true) := ⟨by unfold itemV; rw [HK6.out.1, HK6.out.2.1]; rfl, by rw [HK6.out.1]; rfl⟩
            rw [HIT.out.1, HIT.out.2]
            have hcb : cb ≤ maxLen := is7.2.1
            obtain ⟨w9, hw9⟩ : ∃ w9, w9 = (w7.alloc (.cells #[.int .i64 1, .string cs, .slice ab 0 cb] 54)).alloc (.cells #[.int .i64 1, .string cs, .slice none 0 0] 54) := ⟨_, rfl⟩
            have B9 : Below w7.heap.size w7 w9 := by rw [hw9]; exact ((Below.refl _ w7).alloc (Nat.le_refl _) _).alloc (by simp) _
            have HW9 : Hid (w9 = (w7.alloc (.cells #[.int .i64 1, .string cs, .slice ab 0 cb] 54)).alloc (.cells #[.int .i64 1, .string cs, .slice none 0 0] 54)) := hw9
            have HI9 : Hid (InAt w9 ib v7 s6.next.2 ∧ From w.heap.size ib v7 ∧ Below w.heap.size w w9) := ⟨hI7.below B9, F7, (HI6.out.2.2.trans B7).trans (B9.mono (HI6.out.2.2.trans B7).size)⟩
            have HR9 : Hid (w9.heap[wr.heap.size]? = some (.cells #[.string tx, .bool false, .bool br, .slice a3 L cp3] 59 (0, 0))) := (B9.block wr.heap.size (Array.getElem?_eq_some_iff.1 r7).1).trans r7
            clear own7 W7 r7 hI7 F7 B7 is7 hw9 B9
            go_wp2_with fail
            rw [← HW9.out]
            refine (alike_yes 1 cs ab none cb 0 0 [] w9 (IsBytes.empty _ _ hcb) (IsBytes.empty _ _ (Nat.zero_le _)) rfl).mono ?_
            rintro e w10 ⟨rfl, B10⟩
            have r10 := (B10.block wr.heap.size (Array.getElem?_eq_some_iff.1 HR9.out).1).trans HR9.out
            have y1 : w10.cell? ⟨wr.heap.size, 1, none⟩ = some (.bool false) := by simp [World.cell?, r10]
            have y2 : w10.cell? ⟨wr.heap.size, 2, none⟩ = some (.bool br) := by simp [World.cell?, r10]
            have y3 : w10.cell? ⟨wr.heap.size, 3, none⟩ = some (.slice a3 L cp3) := by simp [World.cell?, r10]
            have HI10 : Hid (InAt w10 ib v7 s6.next.2 ∧ From w.heap.size ib v7 ∧ Below w.heap.size w w10) := ⟨HI9.out.1.below B10, HI9.out.2.1, HI9.out.2.2.trans (B10.mono HI9.out.2.2.size)⟩
            have HR10 : Hid (w10.heap[wr.heap.size]? = some (.cells #[.string tx, .bool false, .bool br, .slice a3 L cp3] 59 (0, 0))) := r10
            have HOK : Hid (Out w ib mx w10) := ⟨v7, s6.next.2, HI10.out.1, HI10.out.2.1, HI10.out.2.2, HQ6.out⟩
            clear B10 r10
            go_wp2
            go_roundg (l.length - (k + 1))
            case measure => omega
            case rel => exact ⟨k + 1, by go_num, by omega, Nat.le_refl _, HOK⟩
          | true =>
            go_wp2_with fail
            refine (cutS_any tx w3 (by omega)).mono ?_
            rintro e w3' ⟨rfl, hW⟩
            rw [HCS.out.1]
            have hW := hW.symm
            subst hW
            have n2 : w3.cell? ⟨wr.heap.size, 2, none⟩ = some (.bool br) := by simp [World.cell?, HR3.out]
            have n3 : w3.cell? ⟨wr.heap.size, 3, none⟩ = some (.slice a3 L cp3) := by simp [World.cell?, HR3.out]
            go_wp2_with fail
            refine (said_any tx true br a3 cp3 L d w3 HD.out.1 HD.out.2 hx1 (by have := HD.out.2; omega)).mono ?_
            rintro e w5 ⟨v5, rfl, own5, B5⟩
            obtain ⟨a5, c5, rfl, is5, hge5⟩ := own5.is
            obtain ⟨S5, hS5⟩ : ∃ S5, S5 = (saidL tx.data.toList true br d).length := ⟨_, rfl⟩
            rw [← hS5]
            have HI5 : Hid (InAt w5 ib v s ∧ Below w.heap.size w w5) := ⟨HI3.out.1.below B5, HI3.out.2.2.1.trans (B5.mono HI3.out.2.2.1.size)⟩
            have HR5 : Hid (w5.heap[wr.heap.size]? = some (.cells #[.string tx, .bool true, .bool br, .slice a3 L cp3] 59 (0, 0))) := (B5.block wr.heap.size hlt3).trans HR3.out
            have HS5 : Hid ((saidL tx.data.toList true br d).length = S5 ∧ IsBytes w5 a5 c5 (saidL tx.data.toList true br d) ∧ ∀ b1 o1, a5 = some ⟨b1, o1, none⟩ → saidL tx.data.toList true br d ≠ [] → ¬ Mine ib v b1) := ⟨hS5.symm, is5, fun b1 o1 e1 _ hM => by have := hge5 b1 o1 e1; have := HI3.out.1.lt b1 hM; omega⟩
            have hS5l : S5 ≤ 3145728 := by have := saidL_len tx.data.toList true br d; have h2 : tx.data.toList.length = tx.size := by { simp }; have := HD.out.2; omega
            clear own5 B5 is5 hge5 hS5
            go_wp2_with fail
            have FD := fun at_ => fed_any w5 ib v s a5 c5 (saidL tx.data.toList true br d) at_ HI5.out.1 HI3.out.2.2.2.2.1 HI3.out.2.2.2.2.2.1 HS5.out.2.1 (by have := HS5.out.1; rw [HI3.out.2.2.2.2.2.2]; simp; omega) (HM.out.below HI5.out.2 HM.out.lt) HS5.out.2.2 (fun h => by have := HI3.out.2.1 0 h; omega)
            rw [HS5.out.1] at FD
            refine (FD _).mono ?_
            clear FD
            rintro e w6 ⟨rfl, W6⟩
            have r6 := (W6.kept.block wr.heap.size (Array.getElem?_eq_some_iff.1 HR5.out).1 (other HI5.out.1 HR5.out)).trans HR5.out
            obtain ⟨v6, hI6, F6, B6⟩ := W6.below HI3.out.2.1 HI5.out.2.size
            have HI6 : Hid (InAt w6 ib v6 { s with held := s.held ++ saidL tx.data.toList true br d } ∧ From w.heap.size ib v6 ∧ Below w.heap.size w w6) := ⟨hI6, F6, HI5.out.2.trans B6⟩
            have HR6 : Hid (w6.heap[wr.heap.size]? = some (.cells #[.string tx, .bool true, .bool br, .slice a3 L cp3] 59 (0, 0))) := r6
            have hq6 : Rest { s with held := s.held ++ saidL tx.data.toList true br d } mx (cutL tx.data.toList ++ 13 :: 10 :: (d ++ (if br then [10, 13] else [13, 10]))) := ⟨HI3.out.2.2.2.1, HI3.out.2.2.2.2.1, HI3.out.2.2.2.2.2.1, by show s.held ++ _ = _; rw [HI3.out.2.2.2.2.2.2]; simp [saidL]⟩
            obtain ⟨s6, hs6⟩ : ∃ s6 : In, s6 = { s with held := s.held ++ saidL tx.data.toList true br d } := ⟨_, rfl⟩
            rw [← hs6] at hq6 HI6
            have HF6 : Hid s6.Fit := rest_fit hq6 (by have h2 : tx.data.toList.length = tx.size := by { simp }; have := cutL_le tx.data.toList; have := HD.out.2; cases br <;> simp <;> omega)
            obtain ⟨hk6, hR6⟩ := line_next (cutL tx.data.toList) _ (cutL_none _) (by omega) hq6
            have HK6 : Hid (s6.next.1.kind = 1 ∧ (⟨s6.next.1.text.toArray⟩ : ByteArray) = cs ∧ s6.next.1.body = []) := by rw [hk6]; exact ⟨rfl, HCS.out.1, rfl⟩
            have HQ6 : Hid (Rest s6.next.2 mx (d ++ (if br then [10, 13] else [13, 10]))) := hR6
            clear W6 r6 hI6 F6 B6 hq6 hs6 hk6 hR6
            go_wp2_with fail
            refine (next_any w6 ib v6 s6 HI6.out.1 HF6.out (HM.out.below HI6.out.2.2 HM.out.lt) hib0).mono ?_
            rintro e w7 ⟨vb, rfl, own7, W7⟩
            have r7 := (W7.went.kept.block wr.heap.size (Array.getElem?_eq_some_iff.1 HR6.out).1 (other HI6.out.1 HR6.out)).trans HR6.out
            obtain ⟨v7, hI7, F7, B7⟩ := W7.went.below HI6.out.2.1 HI6.out.2.2.size
            rw [HK6.out.2.2] at own7
            obtain ⟨ab, cb, rfl, is7, _⟩ := own7.slice
            have HIT : Hid (itemV s6.next.1.kind s6.next.1.text (.slice ab ([] : List UInt8).length cb) = .agg #[.int .i64 1, .string cs, .slice ab 0 cb] ∧ (s6.next.1.kind != 0) = true) := ⟨by unfold itemV; rw [HK6.out.1, HK6.out.2.1]; rfl, by rw [HK6.out.1]; rfl⟩
            rw [HIT.out.1, HIT.out.2]
            have hcb : cb ≤ maxLen := is7.2.1
            obtain ⟨w9, hw9⟩ : ∃ w9, w9 = (w7.alloc (.cells #[.int .i64 1, .string cs, .slice ab 0 cb] 54)).alloc (.cells #[.int .i64 1, .string cs, .slice none 0 0] 54) := ⟨_, rfl⟩
            have B9 : Below w7.heap.size w7 w9 := by rw [hw9]; exact ((Below.refl _ w7).alloc (Nat.le_refl _) _).alloc (by simp) _
            have HW9 : Hid (w9 = (w7.alloc (.cells #[.int .i64 1, .string cs, .slice ab 0 cb] 54)).alloc (.cells #[.int .i64 1, .string cs, .slice none 0 0] 54)) := hw9
            have HI9 : Hid (InAt w9 ib v7 s6.next.2 ∧ From w.heap.size ib v7 ∧ Below w.heap.size w w9) := ⟨hI7.below B9, F7, (HI6.out.2.2.trans B7).trans (B9.mono (HI6.out.2.2.trans B7).size)⟩
            have HR9 : Hid (w9.heap[wr.heap.size]? = some (.cells #[.string tx, .bool true, .bool br, .slice a3 L cp3] 59 (0, 0))) := (B9.block wr.heap.size (Array.getElem?_eq_some_iff.1 r7).1).trans r7
            clear own7 W7 r7 hI7 F7 B7 is7 hw9 B9
            go_wp2_with fail
            rw [← HW9.out]
            refine (alike_yes 1 cs ab none cb 0 0 [] w9 (IsBytes.empty _ _ hcb) (IsBytes.empty _ _ (Nat.zero_le _)) rfl).mono ?_
            rintro e w10 ⟨rfl, B10⟩
            have r10 := (B10.block wr.heap.size (Array.getElem?_eq_some_iff.1 HR9.out).1).trans HR9.out
            have y1 : w10.cell? ⟨wr.heap.size, 1, none⟩ = some (.bool true) := by simp [World.cell?, r10]
            have y2 : w10.cell? ⟨wr.heap.size, 2, none⟩ = some (.bool br) := by simp [World.cell?, r10]
            have y3 : w10.cell? ⟨wr.heap.size, 3, none⟩ = some (.slice a3 L cp3) := by simp [World.cell?, r10]
            have HI10 : Hid (InAt w10 ib v7 s6.next.2 ∧ From w.heap.size ib v7 ∧ Below w.heap.size w w10) := ⟨HI9.out.1.below B10, HI9.out.2.1, HI9.out.2.2.trans (B10.mono HI9.out.2.2.size)⟩
            have HR10 : Hid (w10.heap[wr.heap.size]? = some (.cells #[.string tx, .bool true, .bool br, .slice a3 L cp3] 59 (0, 0))) := r10
            clear B10 r10
            cases br with
            | true =>
              have HQ7 : Hid (Rest s6.next.2 mx (d ++ [10, 13])) := HQ6.out
              obtain ⟨g1, g2, g3, g4, g5, g6⟩ := body_next d 10 13 (by have := HD.out.2; omega) HQ7.out
              rw [HD.out.2] at g1 g2 g3 g4 g5 g6
              have HF7 : Hid s6.next.2.Fit := rest_fit HQ7.out (by have := HD.out.2; simp; omega)
              go_wp2_with fail
              refine (Body_any w10 ib v7 s6.next.2 (L : Int) HI10.out.1 HF7.out (HM.out.below HI10.out.2.2 HM.out.lt) hib0).mono ?_
              rintro e w11 ⟨rfl, W11⟩
              rw [g1]
              have r11 := (W11.kept.block wr.heap.size (Array.getElem?_eq_some_iff.1 HR10.out).1 (other HI10.out.1 HR10.out)).trans HR10.out
              obtain ⟨v11, hI11, F11, B11⟩ := W11.below HI10.out.2.1 HI10.out.2.2.size
              obtain ⟨s8, hs8⟩ : ∃ s8, s8 = s6.next.2.body (L : Int) := ⟨_, rfl⟩
              rw [← hs8] at hI11 g2 g3 g4 g5 g6
              have HF8 : Hid s8.Fit := ⟨g2, g3, by omega⟩
              have HI11 : Hid (InAt w11 ib v11 s8 ∧ From w.heap.size ib v11 ∧ Below w.heap.size w w11) := ⟨hI11, F11, HI10.out.2.2.trans B11⟩
              have HR11 : Hid (w11.heap[wr.heap.size]? = some (.cells #[.string tx, .bool true, .bool true, .slice a3 L cp3] 59 (0, 0))) := r11
              clear W11 r11 hI11 F11 B11 hs8 g1 g2 g3 g4 y1 y2 y3
              by_cases hbig : mx < (L : Int)
              · rw [if_pos hbig] at g5
                have HK8 : Hid ((s8.next.1.kind = 4 ∧ (⟨s8.next.1.text.toArray⟩ : ByteArray) = ⟨#[]⟩ ∧ s8.next.1.body = []) ∧ Rest s8.next.2 mx []) := ⟨by rw [g5]; exact ⟨rfl, rfl, rfl⟩, g6⟩
                clear g5 g6
                go_wp2_with fail
                refine (next_any w11 ib v11 s8 HI11.out.1 HF8.out (HM.out.below HI11.out.2.2 HM.out.lt) hib0).mono ?_
                rintro e w12 ⟨vb, rfl, own12, W12⟩
                have r12 := (W12.went.kept.block wr.heap.size (Array.getElem?_eq_some_iff.1 HR11.out).1 (other HI11.out.1 HR11.out)).trans HR11.out
                obtain ⟨v12, hI12, F12, B12⟩ := W12.went.below HI11.out.2.1 HI11.out.2.2.size
                rw [HK8.out.1.2.2] at own12
                obtain ⟨ab2, cb2, rfl, is12, _⟩ := own12.slice
                have HIT2 : Hid (itemV s8.next.1.kind s8.next.1.text (.slice ab2 ([] : List UInt8).length cb2) = .agg #[.int .i64 4, .string ⟨#[]⟩, .slice ab2 0 cb2] ∧ (s8.next.1.kind != 0) = true) := ⟨by unfold itemV; rw [HK8.out.1.1, HK8.out.1.2.1]; rfl, by rw [HK8.out.1.1]; rfl⟩
                rw [HIT2.out.1, HIT2.out.2]
                have HS12 : Hid (IsBytes w12 ab2 cb2 []) := is12
                obtain ⟨w13, hw13⟩ : ∃ w13, w13 = (w12.alloc (.cells #[.int .i64 4, .string ⟨#[]⟩, .slice ab2 0 cb2] 54)).alloc (.cells #[.int .i64 4, .string ⟨#[]⟩, .slice none 0 0] 54) := ⟨_, rfl⟩
                have B13 : Below w12.heap.size w12 w13 := by rw [hw13]; exact ((Below.refl _ w12).alloc (Nat.le_refl _) _).alloc (by simp) _
                have HW13 : Hid (w13 = (w12.alloc (.cells #[.int .i64 4, .string ⟨#[]⟩, .slice ab2 0 cb2] 54)).alloc (.cells #[.int .i64 4, .string ⟨#[]⟩, .slice none 0 0] 54)) := hw13
                have HI13 : Hid (InAt w13 ib v12 s8.next.2 ∧ From w.heap.size ib v12 ∧ Below w.heap.size w w13 ∧ Below w12.heap.size w12 w13) := ⟨hI12.below B13, F12, (HI11.out.2.2.trans B12).trans (B13.mono (HI11.out.2.2.trans B12).size), B13⟩
                have x2 : w12.cell? ⟨wr.heap.size, 2, none⟩ = some (.bool true) := by simp [World.cell?, r12]
                have x3 : w12.cell? ⟨wr.heap.size, 3, none⟩ = some (.slice a3 L cp3) := by simp [World.cell?, r12]
                have hlt12 : wr.heap.size < w12.heap.size := (Array.getElem?_eq_some_iff.1 r12).1
                clear own12 W12 r12 hI12 F12 B12 is12 hw13 B13
                go_wp2_with fail
                rw [← HW13.out]
                refine (alike_yes 4 ⟨#[]⟩ ab2 none cb2 0 0 [] w13 (HS12.out.below HI13.out.2.2.2) (IsBytes.empty _ _ (Nat.zero_le _)) rfl).mono ?_
                rintro e w14 ⟨rfl, B14⟩
                have HOK : Hid (Out w ib mx w14) := ⟨v12, s8.next.2, HI13.out.1.below B14, HI13.out.2.1, HI13.out.2.2.1.trans (B14.mono HI13.out.2.2.1.size), HK8.out.2⟩
                clear B14
                go_wp2
                go_roundg (l.length - (k + 1))
                case measure => omega
                case rel => exact ⟨k + 1, by go_num, by omega, Nat.le_refl _, HOK⟩
              · rw [if_neg hbig, if_neg (by decide)] at g5
                have HK8 : Hid ((s8.next.1.kind = 5 ∧ (⟨s8.next.1.text.toArray⟩ : ByteArray) = ⟨#[]⟩ ∧ s8.next.1.body = []) ∧ Rest s8.next.2 mx []) := ⟨by rw [g5]; exact ⟨rfl, rfl, rfl⟩, g6⟩
                clear g5 g6
                go_wp2_with fail
                refine (next_any w11 ib v11 s8 HI11.out.1 HF8.out (HM.out.below HI11.out.2.2 HM.out.lt) hib0).mono ?_
                rintro e w12 ⟨vb, rfl, own12, W12⟩
                have r12 := (W12.went.kept.block wr.heap.size (Array.getElem?_eq_some_iff.1 HR11.out).1 (other HI11.out.1 HR11.out)).trans HR11.out
                obtain ⟨v12, hI12, F12, B12⟩ := W12.went.below HI11.out.2.1 HI11.out.2.2.size
                rw [HK8.out.1.2.2] at own12
                obtain ⟨ab2, cb2, rfl, is12, _⟩ := own12.slice
                have HIT2 : Hid (itemV s8.next.1.kind s8.next.1.text (.slice ab2 ([] : List UInt8).length cb2) = .agg #[.int .i64 5, .string ⟨#[]⟩, .slice ab2 0 cb2] ∧ (s8.next.1.kind != 0) = true) := ⟨by unfold itemV; rw [HK8.out.1.1, HK8.out.1.2.1]; rfl, by rw [HK8.out.1.1]; rfl⟩
                rw [HIT2.out.1, HIT2.out.2]
                have HS12 : Hid (IsBytes w12 ab2 cb2 []) := is12
                obtain ⟨w13, hw13⟩ : ∃ w13, w13 = (w12.alloc (.cells #[.int .i64 5, .string ⟨#[]⟩, .slice ab2 0 cb2] 54)).alloc (.cells #[.int .i64 5, .string ⟨#[]⟩, .slice none 0 0] 54) := ⟨_, rfl⟩
                have B13 : Below w12.heap.size w12 w13 := by rw [hw13]; exact ((Below.refl _ w12).alloc (Nat.le_refl _) _).alloc (by simp) _
                have HW13 : Hid (w13 = (w12.alloc (.cells #[.int .i64 5, .string ⟨#[]⟩, .slice ab2 0 cb2] 54)).alloc (.cells #[.int .i64 5, .string ⟨#[]⟩, .slice none 0 0] 54)) := hw13
                have HI13 : Hid (InAt w13 ib v12 s8.next.2 ∧ From w.heap.size ib v12 ∧ Below w.heap.size w w13 ∧ Below w12.heap.size w12 w13) := ⟨hI12.below B13, F12, (HI11.out.2.2.trans B12).trans (B13.mono (HI11.out.2.2.trans B12).size), B13⟩
                have x2 : w12.cell? ⟨wr.heap.size, 2, none⟩ = some (.bool true) := by simp [World.cell?, r12]
                have x3 : w12.cell? ⟨wr.heap.size, 3, none⟩ = some (.slice a3 L cp3) := by simp [World.cell?, r12]
                have hlt12 : wr.heap.size < w12.heap.size := (Array.getElem?_eq_some_iff.1 r12).1
                clear own12 W12 r12 hI12 F12 B12 is12 hw13 B13
                go_wp2_with fail
                rw [← HW13.out]
                refine (alike_yes 5 ⟨#[]⟩ ab2 none cb2 0 0 [] w13 (HS12.out.below HI13.out.2.2.2) (IsBytes.empty _ _ (Nat.zero_le _)) rfl).mono ?_
                rintro e w14 ⟨rfl, B14⟩
                have HOK : Hid (Out w ib mx w14) := ⟨v12, s8.next.2, HI13.out.1.below B14, HI13.out.2.1, HI13.out.2.2.1.trans (B14.mono HI13.out.2.2.1.size), HK8.out.2⟩
                clear B14
                go_wp2
                go_roundg (l.length - (k + 1))
                case measure => omega
                case rel => exact ⟨k + 1, by go_num, by omega, Nat.le_refl _, HOK⟩
            | false =>
              have HQ7 : Hid (Rest s6.next.2 mx (d ++ [13, 10])) := HQ6.out
              obtain ⟨g1, g2, g3, g4, g5, g6⟩ := body_next d 13 10 (by have := HD.out.2; omega) HQ7.out
              rw [HD.out.2] at g1 g2 g3 g4 g5 g6
              have HF7 : Hid s6.next.2.Fit := rest_fit HQ7.out (by have := HD.out.2; simp; omega)
              go_wp2_with fail
              refine (Body_any w10 ib v7 s6.next.2 (L : Int) HI10.out.1 HF7.out (HM.out.below HI10.out.2.2 HM.out.lt) hib0).mono ?_
              rintro e w11 ⟨rfl, W11⟩
              rw [g1]
              have r11 := (W11.kept.block wr.heap.size (Array.getElem?_eq_some_iff.1 HR10.out).1 (other HI10.out.1 HR10.out)).trans HR10.out
              obtain ⟨v11, hI11, F11, B11⟩ := W11.below HI10.out.2.1 HI10.out.2.2.size
              obtain ⟨s8, hs8⟩ : ∃ s8, s8 = s6.next.2.body (L : Int) := ⟨_, rfl⟩
              rw [← hs8] at hI11 g2 g3 g4 g5 g6
              have HF8 : Hid s8.Fit := ⟨g2, g3, by omega⟩
              have HI11 : Hid (InAt w11 ib v11 s8 ∧ From w.heap.size ib v11 ∧ Below w.heap.size w w11) := ⟨hI11, F11, HI10.out.2.2.trans B11⟩
              have HR11 : Hid (w11.heap[wr.heap.size]? = some (.cells #[.string tx, .bool true, .bool false, .slice a3 L cp3] 59 (0, 0))) := r11
              clear W11 r11 hI11 F11 B11 hs8 g1 g2 g3 g4 y1 y2 y3
              by_cases hbig : mx < (L : Int)
              · rw [if_pos hbig] at g5
                have HK8 : Hid ((s8.next.1.kind = 4 ∧ (⟨s8.next.1.text.toArray⟩ : ByteArray) = ⟨#[]⟩ ∧ s8.next.1.body = []) ∧ Rest s8.next.2 mx []) := ⟨by rw [g5]; exact ⟨rfl, rfl, rfl⟩, g6⟩
                clear g5 g6
                go_wp2_with fail
                refine (next_any w11 ib v11 s8 HI11.out.1 HF8.out (HM.out.below HI11.out.2.2 HM.out.lt) hib0).mono ?_
                rintro e w12 ⟨vb, rfl, own12, W12⟩
                have r12 := (W12.went.kept.block wr.heap.size (Array.getElem?_eq_some_iff.1 HR11.out).1 (other HI11.out.1 HR11.out)).trans HR11.out
                obtain ⟨v12, hI12, F12, B12⟩ := W12.went.below HI11.out.2.1 HI11.out.2.2.size
                rw [HK8.out.1.2.2] at own12
                obtain ⟨ab2, cb2, rfl, is12, _⟩ := own12.slice
                have HIT2 : Hid (itemV s8.next.1.kind s8.next.1.text (.slice ab2 ([] : List UInt8).length cb2) = .agg #[.int .i64 4, .string ⟨#[]⟩, .slice ab2 0 cb2] ∧ (s8.next.1.kind != 0) = true) := ⟨by unfold itemV; rw [HK8.out.1.1, HK8.out.1.2.1]; rfl, by rw [HK8.out.1.1]; rfl⟩
                rw [HIT2.out.1, HIT2.out.2]
                have HS12 : Hid (IsBytes w12 ab2 cb2 []) := is12
                obtain ⟨w13, hw13⟩ : ∃ w13, w13 = (w12.alloc (.cells #[.int .i64 4, .string ⟨#[]⟩, .slice ab2 0 cb2] 54)).alloc (.cells #[.int .i64 4, .string ⟨#[]⟩, .slice none 0 0] 54) := ⟨_, rfl⟩
                have B13 : Below w12.heap.size w12 w13 := by rw [hw13]; exact ((Below.refl _ w12).alloc (Nat.le_refl _) _).alloc (by simp) _
                have HW13 : Hid (w13 = (w12.alloc (.cells #[.int .i64 4, .string ⟨#[]⟩, .slice ab2 0 cb2] 54)).alloc (.cells #[.int .i64 4, .string ⟨#[]⟩, .slice none 0 0] 54)) := hw13
                have HI13 : Hid (InAt w13 ib v12 s8.next.2 ∧ From w.heap.size ib v12 ∧ Below w.heap.size w w13 ∧ Below w12.heap.size w12 w13) := ⟨hI12.below B13, F12, (HI11.out.2.2.trans B12).trans (B13.mono (HI11.out.2.2.trans B12).size), B13⟩
                have x2 : w12.cell? ⟨wr.heap.size, 2, none⟩ = some (.bool false) := by simp [World.cell?, r12]
                have x3 : w12.cell? ⟨wr.heap.size, 3, none⟩ = some (.slice a3 L cp3) := by simp [World.cell?, r12]
                have hlt12 : wr.heap.size < w12.heap.size := (Array.getElem?_eq_some_iff.1 r12).1
                clear own12 W12 r12 hI12 F12 B12 is12 hw13 B13
                go_wp2_with fail
                rw [← HW13.out]
                refine (alike_yes 4 ⟨#[]⟩ ab2 none cb2 0 0 [] w13 (HS12.out.below HI13.out.2.2.2) (IsBytes.empty _ _ (Nat.zero_le _)) rfl).mono ?_
                rintro e w14 ⟨rfl, B14⟩
                have HOK : Hid (Out w ib mx w14) := ⟨v12, s8.next.2, HI13.out.1.below B14, HI13.out.2.1, HI13.out.2.2.1.trans (B14.mono HI13.out.2.2.1.size), HK8.out.2⟩
                clear B14
                go_wp2
                go_roundg (l.length - (k + 1))
                case measure => omega
                case rel => exact ⟨k + 1, by go_num, by omega, Nat.le_refl _, HOK⟩
              · rw [if_neg hbig, if_pos (by decide)] at g5
                have HK8 : Hid ((s8.next.1.kind = 3 ∧ (⟨s8.next.1.text.toArray⟩ : ByteArray) = ⟨#[]⟩ ∧ s8.next.1.body = d) ∧ Rest s8.next.2 mx []) := ⟨by rw [g5]; exact ⟨rfl, rfl, rfl⟩, g6⟩
                clear g5 g6
                go_wp2_with fail
                refine (next_any w11 ib v11 s8 HI11.out.1 HF8.out (HM.out.below HI11.out.2.2 HM.out.lt) hib0).mono ?_
                rintro e w12 ⟨vb, rfl, own12, W12⟩
                have r12 := (W12.went.kept.block wr.heap.size (Array.getElem?_eq_some_iff.1 HR11.out).1 (other HI11.out.1 HR11.out)).trans HR11.out
                obtain ⟨v12, hI12, F12, B12⟩ := W12.went.below HI11.out.2.1 HI11.out.2.2.size
                rw [HK8.out.1.2.2] at own12
                obtain ⟨ab2, cb2, rfl, is12, _⟩ := own12.slice
                have HIT2 : Hid (itemV s8.next.1.kind s8.next.1.text (.slice ab2 d.length cb2) = .agg #[.int .i64 3, .string ⟨#[]⟩, .slice ab2 L cb2] ∧ (s8.next.1.kind != 0) = true) := ⟨by unfold itemV; rw [HK8.out.1.1, HK8.out.1.2.1]; rw [HD.out.2], by rw [HK8.out.1.1]; rfl⟩
                rw [HIT2.out.1, HIT2.out.2]
                have HS12 : Hid (IsBytes w12 ab2 cb2 d) := is12
                obtain ⟨w13, hw13⟩ : ∃ w13, w13 = (w12.alloc (.cells #[.int .i64 3, .string ⟨#[]⟩, .slice ab2 L cb2] 54)).alloc (.cells #[.int .i64 3, .string ⟨#[]⟩, .slice a3 L cp3] 54) := ⟨_, rfl⟩
                have B13 : Below w12.heap.size w12 w13 := by rw [hw13]; exact ((Below.refl _ w12).alloc (Nat.le_refl _) _).alloc (by simp) _
                have HW13 : Hid (w13 = (w12.alloc (.cells #[.int .i64 3, .string ⟨#[]⟩, .slice ab2 L cb2] 54)).alloc (.cells #[.int .i64 3, .string ⟨#[]⟩, .slice a3 L cp3] 54)) := hw13
                have HI13 : Hid (InAt w13 ib v12 s8.next.2 ∧ From w.heap.size ib v12 ∧ Below w.heap.size w w13 ∧ Below w12.heap.size w12 w13) := ⟨hI12.below B13, F12, (HI11.out.2.2.trans B12).trans (B13.mono (HI11.out.2.2.trans B12).size), B13⟩
                have x2 : w12.cell? ⟨wr.heap.size, 2, none⟩ = some (.bool false) := by simp [World.cell?, r12]
                have x3 : w12.cell? ⟨wr.heap.size, 3, none⟩ = some (.slice a3 L cp3) := by simp [World.cell?, r12]
                have hlt12 : wr.heap.size < w12.heap.size := (Array.getElem?_eq_some_iff.1 r12).1
                clear own12 W12 r12 hI12 F12 B12 is12 hw13 B13
                go_wp2_with fail
                rw [← HW13.out]
                refine (alike_yes 3 ⟨#[]⟩ ab2 a3 cb2 cp3 L d w13 (HS12.out.below HI13.out.2.2.2) (HD0.out.below HI13.out.2.2.1) HD.out.2).mono ?_
                rintro e w14 ⟨rfl, B14⟩
                have HOK : Hid (Out w ib mx w14) := ⟨v12, s8.next.2, HI13.out.1.below B14, HI13.out.2.1, HI13.out.2.2.1.trans (B14.mono HI13.out.2.2.1.size), HK8.out.2⟩
                clear B14
                go_wp2
                go_roundg (l.length - (k + 1))
                case measure => omega
                case rel => exact ⟨k + 1, by go_num, by omega, Nat.le_refl _, HOK⟩
      · have hkci : ¬ (k : Int) < (cuts.length : Int) := by omega
        have HBr : Hid (w.heap.size ≤ wr.heap.size) := by
          have h1 := HBw.out.size
          exact h1
        obtain ⟨cs, hcs⟩ : ∃ cs : ByteArray, cs = ⟨(cutL tx.data.toList).toArray⟩ := ⟨_, rfl⟩
        have HCS : Hid (⟨(cutL tx.data.toList).toArray⟩ = cs ∧ cs.size = (cutL tx.data.toList).length) := ⟨hcs.symm, by rw [hcs]; rfl⟩
        have hcsl : cs.size ≤ 1048576 := by
          have h1 := cutL_le tx.data.toList
          have h2 : tx.data.toList.length = tx.size := by simp
          have := HCS.out.2
          omega
        clear hcs
        by_cases hlong : 222 < (cutL tx.data.toList).length
        · have hlc : (222 : Int) < (cs.size : Int) := by have := HCS.out.2; omega
          cases bd with
          | true =>
            go_wp2_with fail
            refine (cutS_any tx w3 (by omega)).mono ?_
            rintro e w3' ⟨rfl, hW⟩
            rw [HCS.out.1]
            have hW := hW.symm
            subst hW
            obtain ⟨w4, hw4⟩ : ∃ w4, w4 = w3.setCell ⟨wr.heap.size, 1, none⟩ (.bool false) := ⟨_, rfl⟩
            obtain ⟨q1, q2⟩ := set_cells HR3.out 1 (.bool false)
            have K4 : Kept (fun k => k = wr.heap.size) w3 w4 := by rw [hw4]; exact Kept.setCell _ w3 wr.heap.size 1 _ rfl
            rw [← hw4] at q1
            have HR4 : Hid (w4.heap[wr.heap.size]? = some (.cells #[.string tx, .bool false, .bool br, .slice a3 L cp3] 59 (0, 0))) := q1
            have HI4 : Hid (InAt w4 ib v s ∧ From w.heap.size ib v ∧ Below w.heap.size w w4 ∧ Rest s mx []) := ⟨HI3.out.1.kept K4 (fun k hk e => by subst e; exact other HI3.out.1 HR3.out hk), HI3.out.2.1, HI3.out.2.2.1.trans ⟨K4.os, K4.tape, K4.output, K4.size, fun k hk => K4.block k (by have := HI3.out.2.2.1.size; omega) (by have := HBr.out; omega)⟩, HI3.out.2.2.2⟩
            have HD4 : Hid (IsBytes w4 a3 cp3 d) := HD.out.1.kept K4 (fun b1 o1 e1 hne e2 => by
              obtain ⟨b2, o2, e3, _, hc2⟩ := HD.out.1.get hne
              rw [e1] at e3
              cases e3
              subst e2
              obtain ⟨y, r, rfl⟩ : ∃ y r, d = y :: r := by cases d with | nil => exact absurd rfl hne | cons y r => exact ⟨y, r, rfl⟩
              have hcell := hc2 0 y rfl
              simp only [World.cell?, HR3.out] at hcell
              match o1, hcell with
              | 0, hc => simp at hc
              | 1, hc => simp at hc
              | 2, hc => simp at hc
              | 3, hc => simp at hc
              | o1 + 4, hc => simp at hc)
            have HW4 : Hid (w4 = w3.setCell ⟨wr.heap.size, 1, none⟩ (.bool false)) := hw4
            have hlt4 : wr.heap.size < w4.heap.size := by have := K4.size; omega
            have m0 : w4.cell? ⟨wr.heap.size, 0, none⟩ = some (.string tx) := by simp [World.cell?, HR4.out]
            clear hw4 q1 q2 K4
            go_upto_region 20 with fail
            rw [← HW4.out]
            have n0 : w4.cell? ⟨wr.heap.size, 0, none⟩ = some (.string tx) := by simp [World.cell?, HR4.out]
            have n1 : w4.cell? ⟨wr.heap.size, 1, none⟩ = some (.bool false) := by simp [World.cell?, HR4.out]
            have n2 : w4.cell? ⟨wr.heap.size, 2, none⟩ = some (.bool br) := by simp [World.cell?, HR4.out]
            have n3 : w4.cell? ⟨wr.heap.size, 3, none⟩ = some (.slice a3 L cp3) := by simp [World.cell?, HR4.out]
            clear m0
            go_wp2_with fail
            refine (said_any tx false br a3 cp3 L d w4 HD4.out HD.out.2 hx1 (by have := HD.out.2; omega)).mono ?_
            rintro e w5 ⟨v5, rfl, own5, B5⟩
            obtain ⟨a5, c5, rfl, is5, hge5⟩ := own5.is
            obtain ⟨S5, hS5⟩ : ∃ S5, S5 = (saidL tx.data.toList false br d).length := ⟨_, rfl⟩
            rw [← hS5]
            have HI5 : Hid (InAt w5 ib v s ∧ Below w.heap.size w w5) := ⟨HI4.out.1.below B5, HI4.out.2.2.1.trans (B5.mono HI4.out.2.2.1.size)⟩
            have HR5 : Hid (w5.heap[wr.heap.size]? = some (.cells #[.string tx, .bool false, .bool br, .slice a3 L cp3] 59 (0, 0))) := (B5.block wr.heap.size hlt4).trans HR4.out
            have HS5 : Hid ((saidL tx.data.toList false br d).length = S5 ∧ IsBytes w5 a5 c5 (saidL tx.data.toList false br d) ∧ ∀ b1 o1, a5 = some ⟨b1, o1, none⟩ → saidL tx.data.toList false br d ≠ [] → ¬ Mine ib v b1) := ⟨hS5.symm, is5, fun b1 o1 e1 _ hM => by have := hge5 b1 o1 e1; have := HI4.out.1.lt b1 hM; omega⟩
            have hS5l : S5 ≤ 3145728 := by have := saidL_len tx.data.toList false br d; have h2 : tx.data.toList.length = tx.size := by { simp }; have := HD.out.2; omega
            clear own5 B5 is5 hge5 hS5
            go_wp2_with fail
            have FD := fun at_ => fed_any w5 ib v s a5 c5 (saidL tx.data.toList false br d) at_ HI5.out.1 HI3.out.2.2.2.2.1 HI3.out.2.2.2.2.2.1 HS5.out.2.1 (by have := HS5.out.1; rw [HI3.out.2.2.2.2.2.2]; simp; omega) (HM.out.below HI5.out.2 HM.out.lt) HS5.out.2.2 (fun h => by have := HI3.out.2.1 0 h; omega)
            rw [HS5.out.1] at FD
            refine (FD _).mono ?_
            clear FD
            rintro e w6 ⟨rfl, W6⟩
            have r6 := (W6.kept.block wr.heap.size (Array.getElem?_eq_some_iff.1 HR5.out).1 (other HI5.out.1 HR5.out)).trans HR5.out
            obtain ⟨v6, hI6, F6, B6⟩ := W6.below HI3.out.2.1 HI5.out.2.size
            have HI6 : Hid (InAt w6 ib v6 { s with held := s.held ++ saidL tx.data.toList false br d } ∧ From w.heap.size ib v6 ∧ Below w.heap.size w w6) := ⟨hI6, F6, HI5.out.2.trans B6⟩
            have HR6 : Hid (w6.heap[wr.heap.size]? = some (.cells #[.string tx, .bool false, .bool br, .slice a3 L cp3] 59 (0, 0))) := r6
            have hq6 : Rest { s with held := s.held ++ saidL tx.data.toList false br d } mx (cutL tx.data.toList ++ [13, 10]) := ⟨HI3.out.2.2.2.1, HI3.out.2.2.2.2.1, HI3.out.2.2.2.2.2.1, by show s.held ++ _ = _; rw [HI3.out.2.2.2.2.2.2]; simp [saidL]⟩
            obtain ⟨s6, hs6⟩ : ∃ s6 : In, s6 = { s with held := s.held ++ saidL tx.data.toList false br d } := ⟨_, rfl⟩
            rw [← hs6] at hq6 HI6
            have HF6 : Hid s6.Fit := rest_fit hq6 (by have h2 : tx.data.toList.length = tx.size := by { simp }; have := cutL_le tx.data.toList; have := HD.out.2; simp; omega)
            obtain ⟨hk6, hR6⟩ := long_next (cutL tx.data.toList) (cutL_none _) hlong hq6
            have HK6 : Hid (s6.next.1.kind = 2 ∧ (⟨s6.next.1.text.toArray⟩ : ByteArray) = ⟨#[]⟩ ∧ s6.next.1.body = []) := by rw [hk6]; exact ⟨rfl, rfl, rfl⟩
            have HQ6 : Hid (Rest s6.next.2 mx ([])) := hR6
            clear W6 r6 hI6 F6 B6 hq6 hs6 hk6 hR6
            go_wp2_with fail
            refine (next_any w6 ib v6 s6 HI6.out.1 HF6.out (HM.out.below HI6.out.2.2 HM.out.lt) hib0).mono ?_
            rintro e w7 ⟨vb, rfl, own7, W7⟩
            have r7 := (W7.went.kept.block wr.heap.size (Array.getElem?_eq_some_iff.1 HR6.out).1 (other HI6.out.1 HR6.out)).trans HR6.out
            obtain ⟨v7, hI7, F7, B7⟩ := W7.went.below HI6.out.2.1 HI6.out.2.2.size
            rw [HK6.out.2.2] at own7
            obtain ⟨ab, cb, rfl, is7, _⟩ := own7.slice
            have HIT : Hid (itemV s6.next.1.kind s6.next.1.text (.slice ab ([] : List UInt8).length cb) = .agg #[.int .i64 2, .string ⟨#[]⟩, .slice ab 0 cb] ∧ (s6.next.1.kind != 0) = true) := ⟨by unfold itemV; rw [HK6.out.1, HK6.out.2.1]; rfl, by rw [HK6.out.1]; rfl⟩
            rw [HIT.out.1, HIT.out.2]
            have hcb : cb ≤ maxLen := is7.2.1
            obtain ⟨w9, hw9⟩ : ∃ w9, w9 = (w7.alloc (.cells #[.int .i64 2, .string ⟨#[]⟩, .slice ab 0 cb] 54)).alloc (.cells #[.int .i64 2, .string ⟨#[]⟩, .slice none 0 0] 54) := ⟨_, rfl⟩
            have B9 : Below w7.heap.size w7 w9 := by rw [hw9]; exact ((Below.refl _ w7).alloc (Nat.le_refl _) _).alloc (by simp) _
            have HW9 : Hid (w9 = (w7.alloc (.cells #[.int .i64 2, .string ⟨#[]⟩, .slice ab 0 cb] 54)).alloc (.cells #[.int .i64 2, .string ⟨#[]⟩, .slice none 0 0] 54)) := hw9
            have HI9 : Hid (InAt w9 ib v7 s6.next.2 ∧ From w.heap.size ib v7 ∧ Below w.heap.size w w9) := ⟨hI7.below B9, F7, (HI6.out.2.2.trans B7).trans (B9.mono (HI6.out.2.2.trans B7).size)⟩
            have HR9 : Hid (w9.heap[wr.heap.size]? = some (.cells #[.string tx, .bool false, .bool br, .slice a3 L cp3] 59 (0, 0))) := (B9.block wr.heap.size (Array.getElem?_eq_some_iff.1 r7).1).trans r7
            clear own7 W7 r7 hI7 F7 B7 is7 hw9 B9
            go_wp2_with fail
            rw [← HW9.out]
            refine (alike_yes 2 ⟨#[]⟩ ab none cb 0 0 [] w9 (IsBytes.empty _ _ hcb) (IsBytes.empty _ _ (Nat.zero_le _)) rfl).mono ?_
            rintro e w10 ⟨rfl, B10⟩
            have r10 := (B10.block wr.heap.size (Array.getElem?_eq_some_iff.1 HR9.out).1).trans HR9.out
            have y1 : w10.cell? ⟨wr.heap.size, 1, none⟩ = some (.bool false) := by simp [World.cell?, r10]
            have y2 : w10.cell? ⟨wr.heap.size, 2, none⟩ = some (.bool br) := by simp [World.cell?, r10]
            have y3 : w10.cell? ⟨wr.heap.size, 3, none⟩ = some (.slice a3 L cp3) := by simp [World.cell?, r10]
            have HI10 : Hid (InAt w10 ib v7 s6.next.2 ∧ From w.heap.size ib v7 ∧ Below w.heap.size w w10) := ⟨HI9.out.1.below B10, HI9.out.2.1, HI9.out.2.2.trans (B10.mono HI9.out.2.2.size)⟩
            have HR10 : Hid (w10.heap[wr.heap.size]? = some (.cells #[.string tx, .bool false, .bool br, .slice a3 L cp3] 59 (0, 0))) := r10
            have HOK : Hid (Out w ib mx w10) := ⟨v7, s6.next.2, HI10.out.1, HI10.out.2.1, HI10.out.2.2, HQ6.out⟩
            clear B10 r10
            go_wp2
            go_roundg (l.length - (k + 1))
            case measure => omega
            case rel => exact ⟨k + 1, by go_num, by omega, Nat.le_refl _, HOK⟩
          | false =>
            go_wp2_with fail
            refine (cutS_any tx w3 (by omega)).mono ?_
            rintro e w3' ⟨rfl, hW⟩
            rw [HCS.out.1]
            have hW := hW.symm
            subst hW
            have n2 : w3.cell? ⟨wr.heap.size, 2, none⟩ = some (.bool br) := by simp [World.cell?, HR3.out]
            have n3 : w3.cell? ⟨wr.heap.size, 3, none⟩ = some (.slice a3 L cp3) := by simp [World.cell?, HR3.out]
            go_wp2_with fail
            refine (said_any tx false br a3 cp3 L d w3 HD.out.1 HD.out.2 hx1 (by have := HD.out.2; omega)).mono ?_
            rintro e w5 ⟨v5, rfl, own5, B5⟩
            obtain ⟨a5, c5, rfl, is5, hge5⟩ := own5.is
            obtain ⟨S5, hS5⟩ : ∃ S5, S5 = (saidL tx.data.toList false br d).length := ⟨_, rfl⟩
            rw [← hS5]
            have HI5 : Hid (InAt w5 ib v s ∧ Below w.heap.size w w5) := ⟨HI3.out.1.below B5, HI3.out.2.2.1.trans (B5.mono HI3.out.2.2.1.size)⟩
            have HR5 : Hid (w5.heap[wr.heap.size]? = some (.cells #[.string tx, .bool false, .bool br, .slice a3 L cp3] 59 (0, 0))) := (B5.block wr.heap.size hlt3).trans HR3.out
            have HS5 : Hid ((saidL tx.data.toList false br d).length = S5 ∧ IsBytes w5 a5 c5 (saidL tx.data.toList false br d) ∧ ∀ b1 o1, a5 = some ⟨b1, o1, none⟩ → saidL tx.data.toList false br d ≠ [] → ¬ Mine ib v b1) := ⟨hS5.symm, is5, fun b1 o1 e1 _ hM => by have := hge5 b1 o1 e1; have := HI3.out.1.lt b1 hM; omega⟩
            have hS5l : S5 ≤ 3145728 := by have := saidL_len tx.data.toList false br d; have h2 : tx.data.toList.length = tx.size := by { simp }; have := HD.out.2; omega
            clear own5 B5 is5 hge5 hS5
            go_wp2_with fail
            have FD := fun at_ => fed_any w5 ib v s a5 c5 (saidL tx.data.toList false br d) at_ HI5.out.1 HI3.out.2.2.2.2.1 HI3.out.2.2.2.2.2.1 HS5.out.2.1 (by have := HS5.out.1; rw [HI3.out.2.2.2.2.2.2]; simp; omega) (HM.out.below HI5.out.2 HM.out.lt) HS5.out.2.2 (fun h => by have := HI3.out.2.1 0 h; omega)
            rw [HS5.out.1] at FD
            refine (FD _).mono ?_
            clear FD
            rintro e w6 ⟨rfl, W6⟩
            have r6 := (W6.kept.block wr.heap.size (Array.getElem?_eq_some_iff.1 HR5.out).1 (other HI5.out.1 HR5.out)).trans HR5.out
            obtain ⟨v6, hI6, F6, B6⟩ := W6.below HI3.out.2.1 HI5.out.2.size
            have HI6 : Hid (InAt w6 ib v6 { s with held := s.held ++ saidL tx.data.toList false br d } ∧ From w.heap.size ib v6 ∧ Below w.heap.size w w6) := ⟨hI6, F6, HI5.out.2.trans B6⟩
            have HR6 : Hid (w6.heap[wr.heap.size]? = some (.cells #[.string tx, .bool false, .bool br, .slice a3 L cp3] 59 (0, 0))) := r6
            have hq6 : Rest { s with held := s.held ++ saidL tx.data.toList false br d } mx (cutL tx.data.toList ++ [13, 10]) := ⟨HI3.out.2.2.2.1, HI3.out.2.2.2.2.1, HI3.out.2.2.2.2.2.1, by show s.held ++ _ = _; rw [HI3.out.2.2.2.2.2.2]; simp [saidL]⟩
            obtain ⟨s6, hs6⟩ : ∃ s6 : In, s6 = { s with held := s.held ++ saidL tx.data.toList false br d } := ⟨_, rfl⟩
            rw [← hs6] at hq6 HI6
            have HF6 : Hid s6.Fit := rest_fit hq6 (by have h2 : tx.data.toList.length = tx.size := by { simp }; have := cutL_le tx.data.toList; have := HD.out.2; simp; omega)
            obtain ⟨hk6, hR6⟩ := long_next (cutL tx.data.toList) (cutL_none _) hlong hq6
            have HK6 : Hid (s6.next.1.kind = 2 ∧ (⟨s6.next.1.text.toArray⟩ : ByteArray) = ⟨#[]⟩ ∧ s6.next.1.body = []) := by rw [hk6]; exact ⟨rfl, rfl, rfl⟩
            have HQ6 : Hid (Rest s6.next.2 mx ([])) := hR6
            clear W6 r6 hI6 F6 B6 hq6 hs6 hk6 hR6
            go_wp2_with fail
            refine (next_any w6 ib v6 s6 HI6.out.1 HF6.out (HM.out.below HI6.out.2.2 HM.out.lt) hib0).mono ?_
            rintro e w7 ⟨vb, rfl, own7, W7⟩
            have r7 := (W7.went.kept.block wr.heap.size (Array.getElem?_eq_some_iff.1 HR6.out).1 (other HI6.out.1 HR6.out)).trans HR6.out
            obtain ⟨v7, hI7, F7, B7⟩ := W7.went.below HI6.out.2.1 HI6.out.2.2.size
            rw [HK6.out.2.2] at own7
            obtain ⟨ab, cb, rfl, is7, _⟩ := own7.slice
            have HIT : Hid (itemV s6.next.1.kind s6.next.1.text (.slice ab ([] : List UInt8).length cb) = .agg #[.int .i64 2, .string ⟨#[]⟩, .slice ab 0 cb] ∧ (s6.next.1.kind != 0) = true) := ⟨by unfold itemV; rw [HK6.out.1, HK6.out.2.1]; rfl, by rw [HK6.out.1]; rfl⟩
            rw [HIT.out.1, HIT.out.2]
            have hcb : cb ≤ maxLen := is7.2.1
            obtain ⟨w9, hw9⟩ : ∃ w9, w9 = (w7.alloc (.cells #[.int .i64 2, .string ⟨#[]⟩, .slice ab 0 cb] 54)).alloc (.cells #[.int .i64 2, .string ⟨#[]⟩, .slice none 0 0] 54) := ⟨_, rfl⟩
            have B9 : Below w7.heap.size w7 w9 := by rw [hw9]; exact ((Below.refl _ w7).alloc (Nat.le_refl _) _).alloc (by simp) _
            have HW9 : Hid (w9 = (w7.alloc (.cells #[.int .i64 2, .string ⟨#[]⟩, .slice ab 0 cb] 54)).alloc (.cells #[.int .i64 2, .string ⟨#[]⟩, .slice none 0 0] 54)) := hw9
            have HI9 : Hid (InAt w9 ib v7 s6.next.2 ∧ From w.heap.size ib v7 ∧ Below w.heap.size w w9) := ⟨hI7.below B9, F7, (HI6.out.2.2.trans B7).trans (B9.mono (HI6.out.2.2.trans B7).size)⟩
            have HR9 : Hid (w9.heap[wr.heap.size]? = some (.cells #[.string tx, .bool false, .bool br, .slice a3 L cp3] 59 (0, 0))) := (B9.block wr.heap.size (Array.getElem?_eq_some_iff.1 r7).1).trans r7
            clear own7 W7 r7 hI7 F7 B7 is7 hw9 B9
            go_wp2_with fail
            rw [← HW9.out]
            refine (alike_yes 2 ⟨#[]⟩ ab none cb 0 0 [] w9 (IsBytes.empty _ _ hcb) (IsBytes.empty _ _ (Nat.zero_le _)) rfl).mono ?_
            rintro e w10 ⟨rfl, B10⟩
            have r10 := (B10.block wr.heap.size (Array.getElem?_eq_some_iff.1 HR9.out).1).trans HR9.out
            have y1 : w10.cell? ⟨wr.heap.size, 1, none⟩ = some (.bool false) := by simp [World.cell?, r10]
            have y2 : w10.cell? ⟨wr.heap.size, 2, none⟩ = some (.bool br) := by simp [World.cell?, r10]
            have y3 : w10.cell? ⟨wr.heap.size, 3, none⟩ = some (.slice a3 L cp3) := by simp [World.cell?, r10]
            have HI10 : Hid (InAt w10 ib v7 s6.next.2 ∧ From w.heap.size ib v7 ∧ Below w.heap.size w w10) := ⟨HI9.out.1.below B10, HI9.out.2.1, HI9.out.2.2.trans (B10.mono HI9.out.2.2.size)⟩
            have HR10 : Hid (w10.heap[wr.heap.size]? = some (.cells #[.string tx, .bool false, .bool br, .slice a3 L cp3] 59 (0, 0))) := r10
            have HOK : Hid (Out w ib mx w10) := ⟨v7, s6.next.2, HI10.out.1, HI10.out.2.1, HI10.out.2.2, HQ6.out⟩
            clear B10 r10
            go_wp2
            go_roundg (l.length - (k + 1))
            case measure => omega
            case rel => exact ⟨k + 1, by go_num, by omega, Nat.le_refl _, HOK⟩
        · have hlc : ¬ (222 : Int) < (cs.size : Int) := by have := HCS.out.2; omega
          cases bd with
          | false =>
            go_wp2_with fail
            refine (cutS_any tx w3 (by omega)).mono ?_
            rintro e w3' ⟨rfl, hW⟩
            rw [HCS.out.1]
            have hW := hW.symm
            subst hW
            have n2 : w3.cell? ⟨wr.heap.size, 2, none⟩ = some (.bool br) := by simp [World.cell?, HR3.out]
            have n3 : w3.cell? ⟨wr.heap.size, 3, none⟩ = some (.slice a3 L cp3) := by simp [World.cell?, HR3.out]
            go_wp2_with fail
            refine (said_any tx false br a3 cp3 L d w3 HD.out.1 HD.out.2 hx1 (by have := HD.out.2; omega)).mono ?_
            rintro e w5 ⟨v5, rfl, own5, B5⟩
            obtain ⟨a5, c5, rfl, is5, hge5⟩ := own5.is
            obtain ⟨S5, hS5⟩ : ∃ S5, S5 = (saidL tx.data.toList false br d).length := ⟨_, rfl⟩
            rw [← hS5]
            have HI5 : Hid (InAt w5 ib v s ∧ Below w.heap.size w w5) := ⟨HI3.out.1.below B5, HI3.out.2.2.1.trans (B5.mono HI3.out.2.2.1.size)⟩
            have HR5 : Hid (w5.heap[wr.heap.size]? = some (.cells #[.string tx, .bool false, .bool br, .slice a3 L cp3] 59 (0, 0))) := (B5.block wr.heap.size hlt3).trans HR3.out
            have HS5 : Hid ((saidL tx.data.toList false br d).length = S5 ∧ IsBytes w5 a5 c5 (saidL tx.data.toList false br d) ∧ ∀ b1 o1, a5 = some ⟨b1, o1, none⟩ → saidL tx.data.toList false br d ≠ [] → ¬ Mine ib v b1) := ⟨hS5.symm, is5, fun b1 o1 e1 _ hM => by have := hge5 b1 o1 e1; have := HI3.out.1.lt b1 hM; omega⟩
            have hS5l : S5 ≤ 3145728 := by have := saidL_len tx.data.toList false br d; have h2 : tx.data.toList.length = tx.size := by { simp }; have := HD.out.2; omega
            clear own5 B5 is5 hge5 hS5
            go_wp2_with fail
            have FD := fun at_ => fed_any w5 ib v s a5 c5 (saidL tx.data.toList false br d) at_ HI5.out.1 HI3.out.2.2.2.2.1 HI3.out.2.2.2.2.2.1 HS5.out.2.1 (by have := HS5.out.1; rw [HI3.out.2.2.2.2.2.2]; simp; omega) (HM.out.below HI5.out.2 HM.out.lt) HS5.out.2.2 (fun h => by have := HI3.out.2.1 0 h; omega)
            rw [HS5.out.1] at FD
            refine (FD _).mono ?_
            clear FD
            rintro e w6 ⟨rfl, W6⟩
            have r6 := (W6.kept.block wr.heap.size (Array.getElem?_eq_some_iff.1 HR5.out).1 (other HI5.out.1 HR5.out)).trans HR5.out
            obtain ⟨v6, hI6, F6, B6⟩ := W6.below HI3.out.2.1 HI5.out.2.size
            have HI6 : Hid (InAt w6 ib v6 { s with held := s.held ++ saidL tx.data.toList false br d } ∧ From w.heap.size ib v6 ∧ Below w.heap.size w w6) := ⟨hI6, F6, HI5.out.2.trans B6⟩
            have HR6 : Hid (w6.heap[wr.heap.size]? = some (.cells #[.string tx, .bool false, .bool br, .slice a3 L cp3] 59 (0, 0))) := r6
            have hq6 : Rest { s with held := s.held ++ saidL tx.data.toList false br d } mx (cutL tx.data.toList ++ 13 :: 10 :: []) := ⟨HI3.out.2.2.2.1, HI3.out.2.2.2.2.1, HI3.out.2.2.2.2.2.1, by show s.held ++ _ = _; rw [HI3.out.2.2.2.2.2.2]; simp [saidL]⟩
            obtain ⟨s6, hs6⟩ : ∃ s6 : In, s6 = { s with held := s.held ++ saidL tx.data.toList false br d } := ⟨_, rfl⟩
            rw [← hs6] at hq6 HI6
            have HF6 : Hid s6.Fit := rest_fit hq6 (by have h2 : tx.data.toList.length = tx.size := by { simp }; have := cutL_le tx.data.toList; have := HD.out.2; simp; omega)
            obtain ⟨hk6, hR6⟩ := line_next (cutL tx.data.toList) _ (cutL_none _) (by omega) hq6
            have HK6 : Hid (s6.next.1.kind = 1 ∧ (⟨s6.next.1.text.toArray⟩ : ByteArray) = cs ∧ s6.next.1.body = []) := by rw [hk6]; exact ⟨rfl, HCS.out.1, rfl⟩
            have HQ6 : Hid (Rest s6.next.2 mx ([])) := hR6
            clear W6 r6 hI6 F6 B6 hq6 hs6 hk6 hR6
            go_wp2_with fail
            refine (next_any w6 ib v6 s6 HI6.out.1 HF6.out (HM.out.below HI6.out.2.2 HM.out.lt) hib0).mono ?_
            rintro e w7 ⟨vb, rfl, own7, W7⟩
            have r7 := (W7.went.kept.block wr.heap.size (Array.getElem?_eq_some_iff.1 HR6.out).1 (other HI6.out.1 HR6.out)).trans HR6.out
            obtain ⟨v7, hI7, F7, B7⟩ := W7.went.below HI6.out.2.1 HI6.out.2.2.size
            rw [HK6.out.2.2] at own7
            obtain ⟨ab, cb, rfl, is7, _⟩ := own7.slice
            have HIT : Hid (itemV s6.next.1.kind s6.next.1.text (.slice ab ([] : List UInt8).length cb) = .agg #[.int .i64 1, .string cs, .slice ab 0 cb] ∧ (s6.next.1.kind != 0) = true) := ⟨by unfold itemV; rw [HK6.out.1, HK6.out.2.1]; rfl, by rw [HK6.out.1]; rfl⟩
            rw [HIT.out.1, HIT.out.2]
            have hcb : cb ≤ maxLen := is7.2.1
            obtain ⟨w9, hw9⟩ : ∃ w9, w9 = (w7.alloc (.cells #[.int .i64 1, .string cs, .slice ab 0 cb] 54)).alloc (.cells #[.int .i64 1, .string cs, .slice none 0 0] 54) := ⟨_, rfl⟩
            have B9 : Below w7.heap.size w7 w9 := by rw [hw9]; exact ((Below.refl _ w7).alloc (Nat.le_refl _) _).alloc (by simp) _
            have HW9 : Hid (w9 = (w7.alloc (.cells #[.int .i64 1, .string cs, .slice ab 0 cb] 54)).alloc (.cells #[.int .i64 1, .string cs, .slice none 0 0] 54)) := hw9
            have HI9 : Hid (InAt w9 ib v7 s6.next.2 ∧ From w.heap.size ib v7 ∧ Below w.heap.size w w9) := ⟨hI7.below B9, F7, (HI6.out.2.2.trans B7).trans (B9.mono (HI6.out.2.2.trans B7).size)⟩
            have HR9 : Hid (w9.heap[wr.heap.size]? = some (.cells #[.string tx, .bool false, .bool br, .slice a3 L cp3] 59 (0, 0))) := (B9.block wr.heap.size (Array.getElem?_eq_some_iff.1 r7).1).trans r7
            clear own7 W7 r7 hI7 F7 B7 is7 hw9 B9
            go_wp2_with fail
            rw [← HW9.out]
            refine (alike_yes 1 cs ab none cb 0 0 [] w9 (IsBytes.empty _ _ hcb) (IsBytes.empty _ _ (Nat.zero_le _)) rfl).mono ?_
            rintro e w10 ⟨rfl, B10⟩
            have r10 := (B10.block wr.heap.size (Array.getElem?_eq_some_iff.1 HR9.out).1).trans HR9.out
            have y1 : w10.cell? ⟨wr.heap.size, 1, none⟩ = some (.bool false) := by simp [World.cell?, r10]
            have y2 : w10.cell? ⟨wr.heap.size, 2, none⟩ = some (.bool br) := by simp [World.cell?, r10]
            have y3 : w10.cell? ⟨wr.heap.size, 3, none⟩ = some (.slice a3 L cp3) := by simp [World.cell?, r10]
            have HI10 : Hid (InAt w10 ib v7 s6.next.2 ∧ From w.heap.size ib v7 ∧ Below w.heap.size w w10) := ⟨HI9.out.1.below B10, HI9.out.2.1, HI9.out.2.2.trans (B10.mono HI9.out.2.2.size)⟩
            have HR10 : Hid (w10.heap[wr.heap.size]? = some (.cells #[.string tx, .bool false, .bool br, .slice a3 L cp3] 59 (0, 0))) := r10
            have HOK : Hid (Out w ib mx w10) := ⟨v7, s6.next.2, HI10.out.1, HI10.out.2.1, HI10.out.2.2, HQ6.out⟩
            clear B10 r10
            go_wp2
            go_roundg (l.length - (k + 1))
            case measure => omega
            case rel => exact ⟨k + 1, by go_num, by omega, Nat.le_refl _, HOK⟩
          | true =>
            go_wp2_with fail
            refine (cutS_any tx w3 (by omega)).mono ?_
            rintro e w3' ⟨rfl, hW⟩
            rw [HCS.out.1]
            have hW := hW.symm
            subst hW
            have n2 : w3.cell? ⟨wr.heap.size, 2, none⟩ = some (.bool br) := by simp [World.cell?, HR3.out]
            have n3 : w3.cell? ⟨wr.heap.size, 3, none⟩ = some (.slice a3 L cp3) := by simp [World.cell?, HR3.out]
            go_wp2_with fail
            refine (said_any tx true br a3 cp3 L d w3 HD.out.1 HD.out.2 hx1 (by have := HD.out.2; omega)).mono ?_
            rintro e w5 ⟨v5, rfl, own5, B5⟩
            obtain ⟨a5, c5, rfl, is5, hge5⟩ := own5.is
            obtain ⟨S5, hS5⟩ : ∃ S5, S5 = (saidL tx.data.toList true br d).length := ⟨_, rfl⟩
            rw [← hS5]
            have HI5 : Hid (InAt w5 ib v s ∧ Below w.heap.size w w5) := ⟨HI3.out.1.below B5, HI3.out.2.2.1.trans (B5.mono HI3.out.2.2.1.size)⟩
            have HR5 : Hid (w5.heap[wr.heap.size]? = some (.cells #[.string tx, .bool true, .bool br, .slice a3 L cp3] 59 (0, 0))) := (B5.block wr.heap.size hlt3).trans HR3.out
            have HS5 : Hid ((saidL tx.data.toList true br d).length = S5 ∧ IsBytes w5 a5 c5 (saidL tx.data.toList true br d) ∧ ∀ b1 o1, a5 = some ⟨b1, o1, none⟩ → saidL tx.data.toList true br d ≠ [] → ¬ Mine ib v b1) := ⟨hS5.symm, is5, fun b1 o1 e1 _ hM => by have := hge5 b1 o1 e1; have := HI3.out.1.lt b1 hM; omega⟩
            have hS5l : S5 ≤ 3145728 := by have := saidL_len tx.data.toList true br d; have h2 : tx.data.toList.length = tx.size := by { simp }; have := HD.out.2; omega
            clear own5 B5 is5 hge5 hS5
            go_wp2_with fail
            have FD := fun at_ => fed_any w5 ib v s a5 c5 (saidL tx.data.toList true br d) at_ HI5.out.1 HI3.out.2.2.2.2.1 HI3.out.2.2.2.2.2.1 HS5.out.2.1 (by have := HS5.out.1; rw [HI3.out.2.2.2.2.2.2]; simp; omega) (HM.out.below HI5.out.2 HM.out.lt) HS5.out.2.2 (fun h => by have := HI3.out.2.1 0 h; omega)
            rw [HS5.out.1] at FD
            refine (FD _).mono ?_
            clear FD
            rintro e w6 ⟨rfl, W6⟩
            have r6 := (W6.kept.block wr.heap.size (Array.getElem?_eq_some_iff.1 HR5.out).1 (other HI5.out.1 HR5.out)).trans HR5.out
            obtain ⟨v6, hI6, F6, B6⟩ := W6.below HI3.out.2.1 HI5.out.2.size
            have HI6 : Hid (InAt w6 ib v6 { s with held := s.held ++ saidL tx.data.toList true br d } ∧ From w.heap.size ib v6 ∧ Below w.heap.size w w6) := ⟨hI6, F6, HI5.out.2.trans B6⟩
            have HR6 : Hid (w6.heap[wr.heap.size]? = some (.cells #[.string tx, .bool true, .bool br, .slice a3 L cp3] 59 (0, 0))) := r6
            have hq6 : Rest { s with held := s.held ++ saidL tx.data.toList true br d } mx (cutL tx.data.toList ++ 13 :: 10 :: (d ++ (if br then [10, 13] else [13, 10]))) := ⟨HI3.out.2.2.2.1, HI3.out.2.2.2.2.1, HI3.out.2.2.2.2.2.1, by show s.held ++ _ = _; rw [HI3.out.2.2.2.2.2.2]; simp [saidL]⟩
            obtain ⟨s6, hs6⟩ : ∃ s6 : In, s6 = { s with held := s.held ++ saidL tx.data.toList true br d } := ⟨_, rfl⟩
            rw [← hs6] at hq6 HI6
            have HF6 : Hid s6.Fit := rest_fit hq6 (by have h2 : tx.data.toList.length = tx.size := by { simp }; have := cutL_le tx.data.toList; have := HD.out.2; cases br <;> simp <;> omega)
            obtain ⟨hk6, hR6⟩ := line_next (cutL tx.data.toList) _ (cutL_none _) (by omega) hq6
            have HK6 : Hid (s6.next.1.kind = 1 ∧ (⟨s6.next.1.text.toArray⟩ : ByteArray) = cs ∧ s6.next.1.body = []) := by rw [hk6]; exact ⟨rfl, HCS.out.1, rfl⟩
            have HQ6 : Hid (Rest s6.next.2 mx (d ++ (if br then [10, 13] else [13, 10]))) := hR6
            clear W6 r6 hI6 F6 B6 hq6 hs6 hk6 hR6
            go_wp2_with fail
            refine (next_any w6 ib v6 s6 HI6.out.1 HF6.out (HM.out.below HI6.out.2.2 HM.out.lt) hib0).mono ?_
            rintro e w7 ⟨vb, rfl, own7, W7⟩
            have r7 := (W7.went.kept.block wr.heap.size (Array.getElem?_eq_some_iff.1 HR6.out).1 (other HI6.out.1 HR6.out)).trans HR6.out
            obtain ⟨v7, hI7, F7, B7⟩ := W7.went.below HI6.out.2.1 HI6.out.2.2.size
            rw [HK6.out.2.2] at own7
            obtain ⟨ab, cb, rfl, is7, _⟩ := own7.slice
            have HIT : Hid (itemV s6.next.1.kind s6.next.1.text (.slice ab ([] : List UInt8).length cb) = .agg #[.int .i64 1, .string cs, .slice ab 0 cb] ∧ (s6.next.1.kind != 0) = true) := ⟨by unfold itemV; rw [HK6.out.1, HK6.out.2.1]; rfl, by rw [HK6.out.1]; rfl⟩
            rw [HIT.out.1, HIT.out.2]
            have hcb : cb ≤ maxLen := is7.2.1
            obtain ⟨w9, hw9⟩ : ∃ w9, w9 = (w7.alloc (.cells #[.int .i64 1, .string cs, .slice ab 0 cb] 54)).alloc (.cells #[.int .i64 1, .string cs, .slice none 0 0] 54) := ⟨_, rfl⟩
            have B9 : Below w7.heap.size w7 w9 := by rw [hw9]; exact ((Below.refl _ w7).alloc (Nat.le_refl _) _).alloc (by simp) _
            have HW9 : Hid (w9 = (w7.alloc (.cells #[.int .i64 1, .string cs, .slice ab 0 cb] 54)).alloc (.cells #[.int .i64 1, .string cs, .slice none 0 0] 54)) := hw9
            have HI9 : Hid (InAt w9 ib v7 s6.next.2 ∧ From w.heap.size ib v7 ∧ Below w.heap.size w w9) := ⟨hI7.below B9, F7, (HI6.out.2.2.trans B7).trans (B9.mono (HI6.out.2.2.trans B7).size)⟩
            have HR9 : Hid (w9.heap[wr.heap.size]? = some (.cells #[.string tx, .bool true, .bool br, .slice a3 L cp3] 59 (0, 0))) := (B9.block wr.heap.size (Array.getElem?_eq_some_iff.1 r7).1).trans r7
            clear own7 W7 r7 hI7 F7 B7 is7 hw9 B9
            go_wp2_with fail
            rw [← HW9.out]
            refine (alike_yes 1 cs ab none cb 0 0 [] w9 (IsBytes.empty _ _ hcb) (IsBytes.empty _ _ (Nat.zero_le _)) rfl).mono ?_
            rintro e w10 ⟨rfl, B10⟩
            have r10 := (B10.block wr.heap.size (Array.getElem?_eq_some_iff.1 HR9.out).1).trans HR9.out
            have y1 : w10.cell? ⟨wr.heap.size, 1, none⟩ = some (.bool true) := by simp [World.cell?, r10]
            have y2 : w10.cell? ⟨wr.heap.size, 2, none⟩ = some (.bool br) := by simp [World.cell?, r10]
            have y3 : w10.cell? ⟨wr.heap.size, 3, none⟩ = some (.slice a3 L cp3) := by simp [World.cell?, r10]
            have HI10 : Hid (InAt w10 ib v7 s6.next.2 ∧ From w.heap.size ib v7 ∧ Below w.heap.size w w10) := ⟨HI9.out.1.below B10, HI9.out.2.1, HI9.out.2.2.trans (B10.mono HI9.out.2.2.size)⟩
            have HR10 : Hid (w10.heap[wr.heap.size]? = some (.cells #[.string tx, .bool true, .bool br, .slice a3 L cp3] 59 (0, 0))) := r10
            clear B10 r10
            cases br with
            | true =>
              have HQ7 : Hid (Rest s6.next.2 mx (d ++ [10, 13])) := HQ6.out
              obtain ⟨g1, g2, g3, g4, g5, g6⟩ := body_next d 10 13 (by have := HD.out.2; omega) HQ7.out
              rw [HD.out.2] at g1 g2 g3 g4 g5 g6
              have HF7 : Hid s6.next.2.Fit := rest_fit HQ7.out (by have := HD.out.2; simp; omega)
              go_wp2_with fail
              refine (Body_any w10 ib v7 s6.next.2 (L : Int) HI10.out.1 HF7.out (HM.out.below HI10.out.2.2 HM.out.lt) hib0).mono ?_
              rintro e w11 ⟨rfl, W11⟩
              rw [g1]
              have r11 := (W11.kept.block wr.heap.size (Array.getElem?_eq_some_iff.1 HR10.out).1 (other HI10.out.1 HR10.out)).trans HR10.out
              obtain ⟨v11, hI11, F11, B11⟩ := W11.below HI10.out.2.1 HI10.out.2.2.size
              obtain ⟨s8, hs8⟩ : ∃ s8, s8 = s6.next.2.body (L : Int) := ⟨_, rfl⟩
              rw [← hs8] at hI11 g2 g3 g4 g5 g6
              have HF8 : Hid s8.Fit := ⟨g2, g3, by omega⟩
              have HI11 : Hid (InAt w11 ib v11 s8 ∧ From w.heap.size ib v11 ∧ Below w.heap.size w w11) := ⟨hI11, F11, HI10.out.2.2.trans B11⟩
              have HR11 : Hid (w11.heap[wr.heap.size]? = some (.cells #[.string tx, .bool true, .bool true, .slice a3 L cp3] 59 (0, 0))) := r11
              clear W11 r11 hI11 F11 B11 hs8 g1 g2 g3 g4 y1 y2 y3
              by_cases hbig : mx < (L : Int)
              · rw [if_pos hbig] at g5
                have HK8 : Hid ((s8.next.1.kind = 4 ∧ (⟨s8.next.1.text.toArray⟩ : ByteArray) = ⟨#[]⟩ ∧ s8.next.1.body = []) ∧ Rest s8.next.2 mx []) := ⟨by rw [g5]; exact ⟨rfl, rfl, rfl⟩, g6⟩
                clear g5 g6
                go_wp2_with fail
                refine (next_any w11 ib v11 s8 HI11.out.1 HF8.out (HM.out.below HI11.out.2.2 HM.out.lt) hib0).mono ?_
                rintro e w12 ⟨vb, rfl, own12, W12⟩
                have r12 := (W12.went.kept.block wr.heap.size (Array.getElem?_eq_some_iff.1 HR11.out).1 (other HI11.out.1 HR11.out)).trans HR11.out
                obtain ⟨v12, hI12, F12, B12⟩ := W12.went.below HI11.out.2.1 HI11.out.2.2.size
                rw [HK8.out.1.2.2] at own12
                obtain ⟨ab2, cb2, rfl, is12, _⟩ := own12.slice
                have HIT2 : Hid (itemV s8.next.1.kind s8.next.1.text (.slice ab2 ([] : List UInt8).length cb2) = .agg #[.int .i64 4, .string ⟨#[]⟩, .slice ab2 0 cb2] ∧ (s8.next.1.kind != 0) = true) := ⟨by unfold itemV; rw [HK8.out.1.1, HK8.out.1.2.1]; rfl, by rw [HK8.out.1.1]; rfl⟩
                rw [HIT2.out.1, HIT2.out.2]
                have HS12 : Hid (IsBytes w12 ab2 cb2 []) := is12
                obtain ⟨w13, hw13⟩ : ∃ w13, w13 = (w12.alloc (.cells #[.int .i64 4, .string ⟨#[]⟩, .slice ab2 0 cb2] 54)).alloc (.cells #[.int .i64 4, .string ⟨#[]⟩, .slice none 0 0] 54) := ⟨_, rfl⟩
                have B13 : Below w12.heap.size w12 w13 := by rw [hw13]; exact ((Below.refl _ w12).alloc (Nat.le_refl _) _).alloc (by simp) _
                have HW13 : Hid (w13 = (w12.alloc (.cells #[.int .i64 4, .string ⟨#[]⟩, .slice ab2 0 cb2] 54)).alloc (.cells #[.int .i64 4, .string ⟨#[]⟩, .slice none 0 0] 54)) := hw13
                have HI13 : Hid (InAt w13 ib v12 s8.next.2 ∧ From w.heap.size ib v12 ∧ Below w.heap.size w w13 ∧ Below w12.heap.size w12 w13) := ⟨hI12.below B13, F12, (HI11.out.2.2.trans B12).trans (B13.mono (HI11.out.2.2.trans B12).size), B13⟩
                have x2 : w12.cell? ⟨wr.heap.size, 2, none⟩ = some (.bool true) := by simp [World.cell?, r12]
                have x3 : w12.cell? ⟨wr.heap.size, 3, none⟩ = some (.slice a3 L cp3) := by simp [World.cell?, r12]
                have hlt12 : wr.heap.size < w12.heap.size := (Array.getElem?_eq_some_iff.1 r12).1
                clear own12 W12 r12 hI12 F12 B12 is12 hw13 B13
                go_wp2_with fail
                rw [← HW13.out]
                refine (alike_yes 4 ⟨#[]⟩ ab2 none cb2 0 0 [] w13 (HS12.out.below HI13.out.2.2.2) (IsBytes.empty _ _ (Nat.zero_le _)) rfl).mono ?_
                rintro e w14 ⟨rfl, B14⟩
                have HOK : Hid (Out w ib mx w14) := ⟨v12, s8.next.2, HI13.out.1.below B14, HI13.out.2.1, HI13.out.2.2.1.trans (B14.mono HI13.out.2.2.1.size), HK8.out.2⟩
                clear B14
                go_wp2
                go_roundg (l.length - (k + 1))
                case measure => omega
                case rel => exact ⟨k + 1, by go_num, by omega, Nat.le_refl _, HOK⟩
              · rw [if_neg hbig, if_neg (by decide)] at g5
                have HK8 : Hid ((s8.next.1.kind = 5 ∧ (⟨s8.next.1.text.toArray⟩ : ByteArray) = ⟨#[]⟩ ∧ s8.next.1.body = []) ∧ Rest s8.next.2 mx []) := ⟨by rw [g5]; exact ⟨rfl, rfl, rfl⟩, g6⟩
                clear g5 g6
                go_wp2_with fail
                refine (next_any w11 ib v11 s8 HI11.out.1 HF8.out (HM.out.below HI11.out.2.2 HM.out.lt) hib0).mono ?_
                rintro e w12 ⟨vb, rfl, own12, W12⟩
                have r12 := (W12.went.kept.block wr.heap.size (Array.getElem?_eq_some_iff.1 HR11.out).1 (other HI11.out.1 HR11.out)).trans HR11.out
                obtain ⟨v12, hI12, F12, B12⟩ := W12.went.below HI11.out.2.1 HI11.out.2.2.size
                rw [HK8.out.1.2.2] at own12
                obtain ⟨ab2, cb2, rfl, is12, _⟩ := own12.slice
                have HIT2 : Hid (itemV s8.next.1.kind s8.next.1.text (.slice ab2 ([] : List UInt8).length cb2) = .agg #[.int .i64 5, .string ⟨#[]⟩, .slice ab2 0 cb2] ∧ (s8.next.1.kind != 0) = true) := ⟨by unfold itemV; rw [HK8.out.1.1, HK8.out.1.2.1]; rfl, by rw [HK8.out.1.1]; rfl⟩
                rw [HIT2.out.1, HIT2.out.2]
                have HS12 : Hid (IsBytes w12 ab2 cb2 []) := is12
                obtain ⟨w13, hw13⟩ : ∃ w13, w13 = (w12.alloc (.cells #[.int .i64 5, .string ⟨#[]⟩, .slice ab2 0 cb2] 54)).alloc (.cells #[.int .i64 5, .string ⟨#[]⟩, .slice none 0 0] 54) := ⟨_, rfl⟩
                have B13 : Below w12.heap.size w12 w13 := by rw [hw13]; exact ((Below.refl _ w12).alloc (Nat.le_refl _) _).alloc (by simp) _
                have HW13 : Hid (w13 = (w12.alloc (.cells #[.int .i64 5, .string ⟨#[]⟩, .slice ab2 0 cb2] 54)).alloc (.cells #[.int .i64 5, .string ⟨#[]⟩, .slice none 0 0] 54)) := hw13
                have HI13 : Hid (InAt w13 ib v12 s8.next.2 ∧ From w.heap.size ib v12 ∧ Below w.heap.size w w13 ∧ Below w12.heap.size w12 w13) := ⟨hI12.below B13, F12, (HI11.out.2.2.trans B12).trans (B13.mono (HI11.out.2.2.trans B12).size), B13⟩
                have x2 : w12.cell? ⟨wr.heap.size, 2, none⟩ = some (.bool true) := by simp [World.cell?, r12]
                have x3 : w12.cell? ⟨wr.heap.size, 3, none⟩ = some (.slice a3 L cp3) := by simp [World.cell?, r12]
                have hlt12 : wr.heap.size < w12.heap.size := (Array.getElem?_eq_some_iff.1 r12).1
                clear own12 W12 r12 hI12 F12 B12 is12 hw13 B13
                go_wp2_with fail
                rw [← HW13.out]
                refine (alike_yes 5 ⟨#[]⟩ ab2 none cb2 0 0 [] w13 (HS12.out.below HI13.out.2.2.2) (IsBytes.empty _ _ (Nat.zero_le _)) rfl).mono ?_
                rintro e w14 ⟨rfl, B14⟩
                have HOK : Hid (Out w ib mx w14) := ⟨v12, s8.next.2, HI13.out.1.below B14, HI13.out.2.1, HI13.out.2.2.1.trans (B14.mono HI13.out.2.2.1.size), HK8.out.2⟩
                clear B14
                go_wp2
                go_roundg (l.length - (k + 1))
                case measure => omega
                case rel => exact ⟨k + 1, by go_num, by omega, Nat.le_refl _, HOK⟩
            | false =>
              have HQ7 : Hid (Rest s6.next.2 mx (d ++ [13, 10])) := HQ6.out
              obtain ⟨g1, g2, g3, g4, g5, g6⟩ := body_next d 13 10 (by have := HD.out.2; omega) HQ7.out
              rw [HD.out.2] at g1 g2 g3 g4 g5 g6
              have HF7 : Hid s6.next.2.Fit := rest_fit HQ7.out (by have := HD.out.2; simp; omega)
              go_wp2_with fail
              refine (Body_any w10 ib v7 s6.next.2 (L : Int) HI10.out.1 HF7.out (HM.out.below HI10.out.2.2 HM.out.lt) hib0).mono ?_
              rintro e w11 ⟨rfl, W11⟩
              rw [g1]
              have r11 := (W11.kept.block wr.heap.size (Array.getElem?_eq_some_iff.1 HR10.out).1 (other HI10.out.1 HR10.out)).trans HR10.out
              obtain ⟨v11, hI11, F11, B11⟩ := W11.below HI10.out.2.1 HI10.out.2.2.size
              obtain ⟨s8, hs8⟩ : ∃ s8, s8 = s6.next.2.body (L : Int) := ⟨_, rfl⟩
              rw [← hs8] at hI11 g2 g3 g4 g5 g6
              have HF8 : Hid s8.Fit := ⟨g2, g3, by omega⟩
              have HI11 : Hid (InAt w11 ib v11 s8 ∧ From w.heap.size ib v11 ∧ Below w.heap.size w w11) := ⟨hI11, F11, HI10.out.2.2.trans B11⟩
              have HR11 : Hid (w11.heap[wr.heap.size]? = some (.cells #[.string tx, .bool true, .bool false, .slice a3 L cp3] 59 (0, 0))) := r11
              clear W11 r11 hI11 F11 B11 hs8 g1 g2 g3 g4 y1 y2 y3
              by_cases hbig : mx < (L : Int)
              · rw [if_pos hbig] at g5
                have HK8 : Hid ((s8.next.1.kind = 4 ∧ (⟨s8.next.1.text.toArray⟩ : ByteArray) = ⟨#[]⟩ ∧ s8.next.1.body = []) ∧ Rest s8.next.2 mx []) := ⟨by rw [g5]; exact ⟨rfl, rfl, rfl⟩, g6⟩
                clear g5 g6
                go_wp2_with fail
                refine (next_any w11 ib v11 s8 HI11.out.1 HF8.out (HM.out.below HI11.out.2.2 HM.out.lt) hib0).mono ?_
                rintro e w12 ⟨vb, rfl, own12, W12⟩
                have r12 := (W12.went.kept.block wr.heap.size (Array.getElem?_eq_some_iff.1 HR11.out).1 (other HI11.out.1 HR11.out)).trans HR11.out
                obtain ⟨v12, hI12, F12, B12⟩ := W12.went.below HI11.out.2.1 HI11.out.2.2.size
                rw [HK8.out.1.2.2] at own12
                obtain ⟨ab2, cb2, rfl, is12, _⟩ := own12.slice
                have HIT2 : Hid (itemV s8.next.1.kind s8.next.1.text (.slice ab2 ([] : List UInt8).length cb2) = .agg #[.int .i64 4, .string ⟨#[]⟩, .slice ab2 0 cb2] ∧ (s8.next.1.kind != 0) = true) := ⟨by unfold itemV; rw [HK8.out.1.1, HK8.out.1.2.1]; rfl, by rw [HK8.out.1.1]; rfl⟩
                rw [HIT2.out.1, HIT2.out.2]
                have HS12 : Hid (IsBytes w12 ab2 cb2 []) := is12
                obtain ⟨w13, hw13⟩ : ∃ w13, w13 = (w12.alloc (.cells #[.int .i64 4, .string ⟨#[]⟩, .slice ab2 0 cb2] 54)).alloc (.cells #[.int .i64 4, .string ⟨#[]⟩, .slice none 0 0] 54) := ⟨_, rfl⟩
                have B13 : Below w12.heap.size w12 w13 := by rw [hw13]; exact ((Below.refl _ w12).alloc (Nat.le_refl _) _).alloc (by simp) _
                have HW13 : Hid (w13 = (w12.alloc (.cells #[.int .i64 4, .string ⟨#[]⟩, .slice ab2 0 cb2] 54)).alloc (.cells #[.int .i64 4, .string ⟨#[]⟩, .slice none 0 0] 54)) := hw13
                have HI13 : Hid (InAt w13 ib v12 s8.next.2 ∧ From w.heap.size ib v12 ∧ Below w.heap.size w w13 ∧ Below w12.heap.size w12 w13) := ⟨hI12.below B13, F12, (HI11.out.2.2.trans B12).trans (B13.mono (HI11.out.2.2.trans B12).size), B13⟩
                have x2 : w12.cell? ⟨wr.heap.size, 2, none⟩ = some (.bool false) := by simp [World.cell?, r12]
                have x3 : w12.cell? ⟨wr.heap.size, 3, none⟩ = some (.slice a3 L cp3) := by simp [World.cell?, r12]
                have hlt12 : wr.heap.size < w12.heap.size := (Array.getElem?_eq_some_iff.1 r12).1
                clear own12 W12 r12 hI12 F12 B12 is12 hw13 B13
                go_wp2_with fail
                rw [← HW13.out]
                refine (alike_yes 4 ⟨#[]⟩ ab2 none cb2 0 0 [] w13 (HS12.out.below HI13.out.2.2.2) (IsBytes.empty _ _ (Nat.zero_le _)) rfl).mono ?_
                rintro e w14 ⟨rfl, B14⟩
                have HOK : Hid (Out w ib mx w14) := ⟨v12, s8.next.2, HI13.out.1.below B14, HI13.out.2.1, HI13.out.2.2.1.trans (B14.mono HI13.out.2.2.1.size), HK8.out.2⟩
                clear B14
                go_wp2
                go_roundg (l.length - (k + 1))
                case measure => omega
                case rel => exact ⟨k + 1, by go_num, by omega, Nat.le_refl _, HOK⟩
              · rw [if_neg hbig, if_pos (by decide)] at g5
                have HK8 : Hid ((s8.next.1.kind = 3 ∧ (⟨s8.next.1.text.toArray⟩ : ByteArray) = ⟨#[]⟩ ∧ s8.next.1.body = d) ∧ Rest s8.next.2 mx []) := ⟨by rw [g5]; exact ⟨rfl, rfl, rfl⟩, g6⟩
                clear g5 g6
                go_wp2_with fail
                refine (next_any w11 ib v11 s8 HI11.out.1 HF8.out (HM.out.below HI11.out.2.2 HM.out.lt) hib0).mono ?_
                rintro e w12 ⟨vb, rfl, own12, W12⟩
                have r12 := (W12.went.kept.block wr.heap.size (Array.getElem?_eq_some_iff.1 HR11.out).1 (other HI11.out.1 HR11.out)).trans HR11.out
                obtain ⟨v12, hI12, F12, B12⟩ := W12.went.below HI11.out.2.1 HI11.out.2.2.size
                rw [HK8.out.1.2.2] at own12
                obtain ⟨ab2, cb2, rfl, is12, _⟩ := own12.slice
                have HIT2 : Hid (itemV s8.next.1.kind s8.next.1.text (.slice ab2 d.length cb2) = .agg #[.int .i64 3, .string ⟨#[]⟩, .slice ab2 L cb2] ∧ (s8.next.1.kind != 0) = true) := ⟨by unfold itemV; rw [HK8.out.1.1, HK8.out.1.2.1]; rw [HD.out.2], by rw [HK8.out.1.1]; rfl⟩
                rw [HIT2.out.1, HIT2.out.2]
                have HS12 : Hid (IsBytes w12 ab2 cb2 d) := is12
                obtain ⟨w13, hw13⟩ : ∃ w13, w13 = (w12.alloc (.cells #[.int .i64 3, .string ⟨#[]⟩, .slice ab2 L cb2] 54)).alloc (.cells #[.int .i64 3, .string ⟨#[]⟩, .slice a3 L cp3] 54) := ⟨_, rfl⟩
                have B13 : Below w12.heap.size w12 w13 := by rw [hw13]; exact ((Below.refl _ w12).alloc (Nat.le_refl _) _).alloc (by simp) _
                have HW13 : Hid (w13 = (w12.alloc (.cells #[.int .i64 3, .string ⟨#[]⟩, .slice ab2 L cb2] 54)).alloc (.cells #[.int .i64 3, .string ⟨#[]⟩, .slice a3 L cp3] 54)) := hw13
                have HI13 : Hid (InAt w13 ib v12 s8.next.2 ∧ From w.heap.size ib v12 ∧ Below w.heap.size w w13 ∧ Below w12.heap.size w12 w13) := ⟨hI12.below B13, F12, (HI11.out.2.2.trans B12).trans (B13.mono (HI11.out.2.2.trans B12).size), B13⟩
                have x2 : w12.cell? ⟨wr.heap.size, 2, none⟩ = some (.bool false) := by simp [World.cell?, r12]
                have x3 : w12.cell? ⟨wr.heap.size, 3, none⟩ = some (.slice a3 L cp3) := by simp [World.cell?, r12]
                have hlt12 : wr.heap.size < w12.heap.size := (Array.getElem?_eq_some_iff.1 r12).1
                clear own12 W12 r12 hI12 F12 B12 is12 hw13 B13
                go_wp2_with fail
                rw [← HW13.out]
                refine (alike_yes 3 ⟨#[]⟩ ab2 a3 cb2 cp3 L d w13 (HS12.out.below HI13.out.2.2.2) (HD0.out.below HI13.out.2.2.1) HD.out.2).mono ?_
                rintro e w14 ⟨rfl, B14⟩
                have HOK : Hid (Out w ib mx w14) := ⟨v12, s8.next.2, HI13.out.1.below B14, HI13.out.2.1, HI13.out.2.2.1.trans (B14.mono HI13.out.2.2.1.size), HK8.out.2⟩
                clear B14
                go_wp2
                go_roundg (l.length - (k + 1))
                case measure => omega
                case rel => exact ⟨k + 1, by go_num, by omega, Nat.le_refl _, HOK⟩
    · have hpi : ¬ (k : Int) < (l.length : Int) := by omega
      obtain ⟨v, s, hI, hF, hB, hRest⟩ := HO.out
      obtain ⟨hk6, hR6⟩ := end_next hRest
      have HI : Hid (InAt wr ib v s ∧ From w.heap.size ib v ∧ Below w.heap.size w wr) := ⟨hI, hF, hB⟩
      have HFi : Hid s.Fit := rest_fit hRest (by simp)
      have HK : Hid ((s.next.1.kind = 0 ∧ (⟨s.next.1.text.toArray⟩ : ByteArray) = ⟨#[]⟩ ∧ s.next.1.body = []) ∧ Rest s.next.2 mx []) := ⟨by rw [hk6]; exact ⟨rfl, rfl, rfl⟩, hR6⟩
      clear hI hF hB hRest hk6 hR6 HO
      go_wp2_with fail
      refine (next_any wr ib v s HI.out.1 HFi.out (HM.out.below HI.out.2.2 HM.out.lt) hib0).mono ?_
      rintro e w3 ⟨vb, rfl, own3, W3⟩
      obtain ⟨v3, hI3, F3, B3⟩ := W3.went.below HI.out.2.1 HI.out.2.2.size
      rw [HK.out.1.2.2] at own3
      obtain ⟨ab, cb, rfl, _⟩ := own3.slice
      have HIT : Hid (itemV s.next.1.kind s.next.1.text (.slice ab ([] : List UInt8).length cb) = .agg #[.int .i64 0, .string ⟨#[]⟩, .slice ab 0 cb] ∧ (s.next.1.kind != 0) = false) := ⟨by unfold itemV; rw [HK.out.1.1, HK.out.1.2.1]; rfl, by rw [HK.out.1.1]; rfl⟩
      rw [HIT.out.1, HIT.out.2]
      obtain ⟨w4, hw4⟩ : ∃ w4, w4 = w3.alloc (.cells #[.int .i64 0, .string ⟨#[]⟩, .slice ab 0 cb] 54) := ⟨_, rfl⟩
      have B4 : Below w3.heap.size w3 w4 := by rw [hw4]; exact (Below.refl _ w3).alloc (Nat.le_refl _) _
      have HW4 : Hid (w4 = w3.alloc (.cells #[.int .i64 0, .string ⟨#[]⟩, .slice ab 0 cb] 54)) := hw4
      have HI4 : Hid (InAt w4 ib v3 s.next.2 ∧ Below w.heap.size w w4) := ⟨hI3.below B4, (HI.out.2.2.trans B3).trans (B4.mono (HI.out.2.2.trans B3).size)⟩
      have HH := Held_in w4 ib v3 s.next.2 HI4.out.1 (rest_fit HK.out.2 (by simp)).held
      rw [HK.out.2.2.2.2] at HH
      have HHH : Hid (Calls Try.prog 14 #[.pointer (some ⟨ib, 0, none⟩)] w4 fun e w' => e = .returned (.int .i64 0) ∧ ∃ n, w' = w4.drewN n) := HH
      clear own3 W3 hI3 F3 B3 hw4 B4 HH
      go_upto_region 39 with fail
      rw [← HW4.out]
      go_wp2_with fail
      refine HHH.out.mono ?_
      rintro e w5 ⟨rfl, n5, hW5⟩
      subst hW5
      go_wp2
      go_ret
      exact ⟨rfl, below_drewN HI4.out.2 n5⟩
end Go.Proofs.Ytabpicbhhplcgaa.intakeParts
