/-
  The walk of IntakeBounds.
-/
import Derived.Test.YtabpicbhhplcgaaShown
import Derived.Test.YtabpicbhhplcgaaPlainBounds
import Derived.Test.YtabpicbhhplcgaaCutL
import Derived.Test.YtabpicbhhplcgaaAmong
import Derived.Test.YtabpicbhhplcgaaActs
import Derived.Test.YtabpicbhhplcgaaWalkNames
namespace Go.Proofs.Ytabpicbhhplcgaa.intakeBounds
open Go.RowKit

/-- As the outer loop finds it. -/
def Out (w : World) (ib : Nat) (mx : Int) (l : List ActI) (k : Nat) (came told bound size : Nat) (wr : World) : Prop :=
  ∃ v s, InAt wr ib v s ∧ From w.heap.size ib v ∧ Below w.heap.size w wr ∧ Acc s mx came told size ∧ bound = boundOf s size ∧ came ≤ bulk (l.take k) ∧ size ≤ 4294967295
/-- As the inner one does. -/
def Inn (w : World) (ib : Nat) (mx : Int) (gj came told bound size : Nat) (wr : World) : Prop :=
  ∃ v s, InAt wr ib v s ∧ From w.heap.size ib v ∧ Below w.heap.size w wr ∧ Acc s mx came told size ∧ bound = boundOf s size ∧ mu s ≤ gj ∧ size ≤ 4294967295

/-- A block of another type is none of the intake's. -/
theorem other {w : World} {ib rb : Nat} {v : Value} {s : In} {cs : Array Value} (h : InAt w ib v s) (hr : w.heap[rb]? = some (.cells cs 36 (0, 0))) : ¬ Mine ib v rb := by
  obtain ⟨g, came, hb, ho, _⟩ := h
  rintro (rfl | hk)
  · unfold BoxAt at hb
    rw [hb] at hr
    simp at hr
  · rcases ho.2 with ⟨rfl, _⟩ | ⟨g', cap, cur, rfl, _, hg, _⟩
    · cases hk
    · cases hk
      rw [hg] at hr
      simp at hr
theorem fit {s : In} {m : Int} {came told size : Nat} (h : Acc s m came told size) (hc : came ≤ 1048576) : s.Fit := ⟨h.stand, h.need, by have := h.held; omega⟩

set_option maxHeartbeats 8000000 in
set_option maxRecDepth 1000000 in
theorem walk (mx : Int) (a : Option Addr) (c : Nat) (l : List ActI) (w : World) (hx : -9223372036854775808 ≤ mx ∧ mx ≤ 9223372036854775807) (h : IsActs w a c l ∧ (a = none → c = 0)) (hb : tot l ≤ 1048576) (hm : MaxAt w) :
    Calls Try.prog 6 #[.int .i64 mx, .slice a l.length c] w fun e w' => e = .returned (.bool true) ∧ Below w.heap.size w w' := by
  have HM : Hid (MaxAt w) := hm
  have HA : Hid (IsActs w a c l) := h.1
  have HT : Hid (tot l ≤ 1048576) := hb
  have hlc : l.length ≤ c := h.1.1
  have hll : l.length ≤ 1048576 := by have := tot_bulk l; omega
  clear h hm hb
  have h0 : 0 ≠ w.heap.size := by have := HM.out.lt; omega
  by_cases hr : mx < 1 ∨ 65535 < mx
  · go_enter Try.func6, Try.ntmps6
    go_wp2_with fail
    refine (beyond_any a c l w HA.out HT.out).mono ?_
    rintro e w1 ⟨rfl, hW⟩
    have hW := hW.symm
    subst hW
    go_wp2_with fail
    refine (shown_any w HM.out).mono ?_
    rintro e w1 ⟨rfl, B1⟩
    have HB1 : Hid (Below w.heap.size w w1) := B1
    clear B1
    go_wp2_with fail
    refine (new_no w1 mx hr).mono ?_
    rintro e w2 ⟨rfl, hW⟩
    have hW := hW.symm
    subst hW
    by_cases h1 : mx < 1
    · go_wp2
      go_ret
      exact ⟨rfl, HB1.out⟩
    · have h2 : (65535 : Int) < mx := by omega
      go_wp2
      go_ret
      exact ⟨rfl, HB1.out⟩
  have t1 : ¬ mx < 1 := by omega
  have t2 : ¬ (65535 : Int) < mx := by omega
  go_enter Try.func6, Try.ntmps6
  go_wp2_with fail
  refine (beyond_any a c l w HA.out HT.out).mono ?_
  rintro e w1 ⟨rfl, hW⟩
  have hW := hW.symm
  subst hW
  go_wp2_with fail
  refine (shown_any w HM.out).mono ?_
  rintro e w1 ⟨rfl, B1⟩
  have HB1 : Hid (Below w.heap.size w w1) := B1
  clear B1
  go_wp2_with fail
  refine (new_yes w1 mx (by omega) (by omega)).mono ?_
  rintro e w2 ⟨rfl, hI2, B2⟩
  have hsz1 := HB1.out.size
  have HI2 : Hid (InAt w2 w1.heap.size (.slice none 0 0) (In.new mx)) := hI2
  have HB2 : Hid (Below w.heap.size w w2) := HB1.out.trans (B2.mono hsz1)
  obtain ⟨ib, hib⟩ : ∃ ib, ib = w1.heap.size := ⟨_, rfl⟩
  rw [← hib] at HI2
  rw [← hib]
  have hib0 : 0 ≠ ib := by omega
  have hibw : w.heap.size ≤ ib := by omega
  clear hI2 B2 hib
  go_wp2
  go_loopg [7, 8, 9, 10, 44] l.length (fun gk s7 s8 s9 s10 s44 wr => ∃ k came told bound size : Nat, s7 = .int .i64 came ∧ s8 = .int .i64 told ∧ s9 = .int .i64 bound ∧ s10 = .int .i64 size ∧ s44 = .int .i64 k ∧ k ≤ l.length ∧ l.length - k ≤ gk ∧ Hid (Out w ib mx l k came told bound size wr))
  case atStart => exact ⟨0, 0, 0, 223, 0, rfl, rfl, rfl, rfl, rfl, Nat.zero_le _, Nat.le_refl _, (show Out w ib mx l 0 0 0 223 0 w2 from ⟨.slice none 0 0, In.new mx, HI2.out, nil_from _ _ hibw, HB2.out, Acc.zero rfl rfl (show (0 : Nat) ≤ 4294967297 by omega) (show 0 + 0 ≤ 0 by omega), rfl, Nat.zero_le _, by decide⟩)⟩
  case round =>
    obtain ⟨k, came, told, bound, size, rfl, rfl, rfl, rfl, rfl, hk, hgk, HO⟩ := hrel
    by_cases hp : k < l.length
    · have hpi : (k : Int) < (l.length : Int) := by omega
      obtain ⟨x, hxk⟩ : ∃ x, l[k]? = some x := ⟨_, List.getElem?_eq_getElem hp⟩
      obtain ⟨v, s, hI, hF, hB, hA, hbd, hcm, hsz⟩ := HO.out
      have hfits := HA.out.2.2.1 x (List.mem_of_getElem? hxk)
      rcases HA.out.2.2.2 with rfl | ⟨b, o, rfl, hbl, hc⟩
      · simp at hp
      obtain ⟨c0, c1, c2, a3, cp3, c3, hi3, hn3⟩ := hc k x hxk
      have k0 := (hB.cell (p := ⟨b, o + k * 4, none⟩) hbl).trans c0
      have k1 := (hB.cell (p := ⟨b, o + k * 4 + 1, none⟩) hbl).trans c1
      have k2 := (hB.cell (p := ⟨b, o + k * 4 + 2, none⟩) hbl).trans c2
      have k3 := (hB.cell (p := ⟨b, o + k * 4 + 3, none⟩) hbl).trans c3
      have hi3r := (hi3.below (hB.mono (Nat.le_refl _)))
      have hcame2 : came + x.2.2.2.length ≤ bulk (l.take (k + 1)) := by rw [bulk_take l k x hxk]; omega
      have hbl2 : bulk (l.take (k + 1)) ≤ 1048576 := by have := bulk_le l (k + 1); have := tot_bulk l; have := HT.out; omega
      have hxl : x.2.2.2.length ≤ 1048576 := by omega
      have hcb : came ≤ 1048576 := by omega
      obtain ⟨f0, _, f2⟩ := hfits
      obtain ⟨x0, x1, x2, x3⟩ := x
      simp only [] at k0 k1 k2 k3 hi3r hcame2 hxl f0 f2
      have b2 := bounds_i64 f2
      obtain ⟨L, hL⟩ : ∃ L, L = x3.length := ⟨_, rfl⟩
      rw [← hL] at k3 hcame2 hxl
      obtain ⟨w3, hw3⟩ : ∃ w3, w3 = wr.alloc (.cells #[.int .i64 x0, .int .i64 x1, .int .i64 x2, .slice a3 L cp3] 36) := ⟨_, rfl⟩
      have B3 : Below wr.heap.size wr w3 := by rw [hw3]; exact (Below.refl _ wr).alloc (Nat.le_refl _) _
      have r3 : w3.heap[wr.heap.size]? = some (.cells #[.int .i64 x0, .int .i64 x1, .int .i64 x2, .slice a3 L cp3] 36 (0, 0)) := by rw [hw3]; exact heap_alloc_last _ _
      have j0 : w3.cell? ⟨wr.heap.size, 0, none⟩ = some (.int .i64 x0) := by simp [World.cell?, r3]
      have j2 : w3.cell? ⟨wr.heap.size, 2, none⟩ = some (.int .i64 x2) := by simp [World.cell?, r3]
      have j3 : w3.cell? ⟨wr.heap.size, 3, none⟩ = some (.slice a3 L cp3) := by simp [World.cell?, r3]
      have HW3 : Hid (w3 = wr.alloc (.cells #[.int .i64 x0, .int .i64 x1, .int .i64 x2, .slice a3 L cp3] 36)) := hw3
      have HI3 : Hid (InAt w3 ib v s ∧ From w.heap.size ib v ∧ Below w.heap.size w w3) := ⟨hI.below B3, hF, hB.trans (B3.mono hB.size)⟩
      have HAc : Hid (Acc s mx came told size ∧ bound = boundOf s size) := ⟨hA, hbd⟩
      have HD : Hid (IsBytes w3 a3 cp3 x3 ∧ x3.length = L) := ⟨hi3r.below B3, hL.symm⟩
      have HR3 : Hid (w3.heap[wr.heap.size]? = some (.cells #[.int .i64 x0, .int .i64 x1, .int .i64 x2, .slice a3 L cp3] 36 (0, 0))) := r3
      have HC2 : Hid (came + L ≤ bulk (l.take (k + 1)) ∧ bulk (l.take (k + 1)) ≤ 1048576) := ⟨hcame2, hbl2⟩
      have hfs : s.Fit := fit hA hcb
      have HFit : Hid s.Fit := hfs
      have hbnd : bound ≤ 4294967296 := by rw [hbd]; unfold boundOf; split <;> omega
      have htold : told ≤ 1048576 := by have := hA.held; omega
      clear hI hF hB hA hbd hcm c0 c1 c2 c3 hi3 hn3 hc hxk hw3 B3 r3 hi3r hL HO hfs hbl2 hcame2 f0 f2
      go_upto_region 14 with fail
      rw [← HW3.out]
      clear k0 k1 k2 k3
      go_wp2_with fail
      refine (among_any x0 4 w3 (by decide)).mono ?_
      rintro e w4 ⟨rfl, hW4⟩
      have hW4 := hW4.symm
      subst hW4
      have har := among_range (i := x0) (n := 4) (by decide)
      obtain ⟨am, ham⟩ : ∃ am, am = amongI x0 4 := ⟨_, rfl⟩
      rw [← ham]
      rw [← ham] at har
      clear ham
      by_cases h3 : am = 3
      · -- a body
        have e3 : (am == 3) = true := by simp [h3]
        clear h3
        go_wp2_with fail
        refine (Body_any w3 ib v s x2 HI3.out.1 HFit.out (HM.out.below HI3.out.2.2 HM.out.lt) hib0).mono ?_
        rintro e w4 ⟨rfl, W4⟩
        have r4 := (W4.kept.block wr.heap.size (Array.getElem?_eq_some_iff.1 HR3.out).1 (other HI3.out.1 HR3.out)).trans HR3.out
        have i2 : w4.cell? ⟨wr.heap.size, 2, none⟩ = some (.int .i64 x2) := by simp [World.cell?, r4]
        obtain ⟨v4, hI4, F4, B4⟩ := W4.below HI3.out.2.1 HI3.out.2.2.size
        by_cases hno : x2 < 0 ∨ x2 > 4294967295 ∨ s.stand ≠ 0
        · obtain ⟨eE, eS⟩ := In.body_no hno
          rw [eE]
          rw [eS] at hI4
          have HOK : Hid (Out w ib mx l (k + 1) came told bound size w4) := ⟨v4, s, hI4, F4, HI3.out.2.2.trans B4, HAc.out.1, HAc.out.2, by have := HC2.out; omega, hsz⟩
          clear W4 r4 hI4 F4 B4 hno eE eS
          go_wp2
          go_roundg (l.length - (k + 1))
          case measure => omega
          case rel => exact ⟨k + 1, came, told, bound, size, rfl, rfl, rfl, rfl, by go_num, by omega, Nat.le_refl _, HOK⟩
        · obtain ⟨eE, _⟩ := In.body_yes hno
          obtain ⟨n, rfl⟩ : ∃ n : Nat, x2 = n := ⟨x2.toNat, by omega⟩
          obtain ⟨q1, q2⟩ := HAc.out.1.body_ok n (by omega) (by omega)
          have hn4 : n ≤ 4294967295 := by omega
          rw [eE]
          by_cases hnm : (n : Int) ≤ mx
          · rw [if_pos hnm] at q2
            have HOK : Hid (Out w ib mx l (k + 1) came told (n + 1) n w4) := ⟨v4, s.body n, hI4, F4, HI3.out.2.2.trans B4, q1, q2.symm, by have := HC2.out; omega, hn4⟩
            clear W4 r4 hI4 F4 B4 hno eE q1 q2
            go_wp2
            go_roundg (l.length - (k + 1))
            case measure => omega
            case rel => exact ⟨k + 1, came, told, n + 1, n, rfl, rfl, by go_num, rfl, by go_num, by omega, Nat.le_refl _, HOK⟩
          · rw [if_neg hnm] at q2
            have HOK : Hid (Out w ib mx l (k + 1) came told 223 n w4) := ⟨v4, s.body n, hI4, F4, HI3.out.2.2.trans B4, q1, q2.symm, by have := HC2.out; omega, hn4⟩
            clear W4 r4 hI4 F4 B4 hno eE q1 q2
            go_wp2
            go_roundg (l.length - (k + 1))
            case measure => omega
            case rel => exact ⟨k + 1, came, told, 223, n, rfl, rfl, rfl, rfl, by go_num, by omega, Nat.le_refl _, HOK⟩
      · -- bytes
        have e3 : (am == 3) = false := by simpa using h3
        clear h3
        go_wp2_with fail
        have FE := feed_any w3 ib v s a3 cp3 x3 HI3.out.1 HD.out.1 HFit.out.held (by have := HD.out.2; omega) HFit.out.need (HM.out.below HI3.out.2.2 HM.out.lt)
        rw [HD.out.2] at FE
        refine FE.mono ?_
        clear FE
        rintro e w4 ⟨rfl, W4⟩
        have r4 := (W4.kept.block wr.heap.size (Array.getElem?_eq_some_iff.1 HR3.out).1 (other HI3.out.1 HR3.out)).trans HR3.out
        have i3 : w4.cell? ⟨wr.heap.size, 3, none⟩ = some (.slice a3 L cp3) := by simp [World.cell?, r4]
        obtain ⟨v4, hI4, F4, B4⟩ := W4.below HI3.out.2.1 HI3.out.2.2.size
        have q1 := HAc.out.1.feed x3 (by have := letGo_need s.stand s.need x3; have := HFit.out.need; omega)
        rw [HD.out.2] at q1
        have HN0 : Hid (Inn w ib mx (mu (s.feed x3)) (came + L) told bound size w4) := ⟨v4, s.feed x3, hI4, F4, HI3.out.2.2.trans B4, q1, HAc.out.2.trans rfl, Nat.le_refl _, hsz⟩
        clear W4 r4 hI4 F4 B4 q1
        go_wp2
        go_loopg [8, 9] (mu (s.feed x3)) (fun gj s8 s9 wx => ∃ tl bd : Nat, s8 = .int .i64 tl ∧ s9 = .int .i64 bd ∧ Hid (Inn w ib mx gj (came + L) tl bd size wx))
        case atStart => exact ⟨told, bound, rfl, rfl, HN0⟩
        case round =>
          obtain ⟨tl, bd, rfl, rfl, HN⟩ := hrel
          obtain ⟨v5, s5, hI, hF, hB, hA, hbd, hmu, _⟩ := HN.out
          have hcm5 : came + L ≤ 1048576 := by have := HC2.out; omega
          have HFit5 : Hid s5.Fit := fit hA hcm5
          have HI5 : Hid (InAt wr ib v5 s5 ∧ From w.heap.size ib v5 ∧ Below w.heap.size w wr) := ⟨hI, hF, hB⟩
          have htl5 : tl ≤ 1048576 := by have := hA.held; omega
          have hbd5 : bd ≤ 4294967296 := by rw [hbd]; unfold boundOf; split <;> omega
          have HBD : Hid (bd = boundOf s5 size) := hbd
          have hnx := hA.next
          clear hI hF hB hA hbd HN
          rcases hnx with ⟨hkd, q1, q2, q3⟩ | ⟨hkd, q1, q2, q3, q4, q5⟩ | ⟨hkd, q3, q4, q5⟩ | ⟨hkd, q1, q3, q4, q5⟩ | ⟨hkd, q1, q3, q4, q5⟩
          · -- nothing is told
            go_wp2_with fail
            refine (next_any wr ib v5 s5 HI5.out.1 HFit5.out (HM.out.below HI5.out.2.2 HM.out.lt) hib0).mono ?_
            rintro e w6 ⟨vb, rfl, own6, W6⟩
            obtain ⟨v6, hI6, F6, B6⟩ := W6.went.below HI5.out.2.1 HI5.out.2.2.size
            obtain ⟨ab, cb6, hvb, _⟩ := own6.slice
            obtain ⟨lb, hlb⟩ : ∃ lb, lb = s5.next.1.body.length := ⟨_, rfl⟩
            rw [← hlb] at hvb
            subst hvb
            obtain ⟨tx, htx⟩ : ∃ tx : ByteArray, tx = ⟨s5.next.1.text.toArray⟩ := ⟨_, rfl⟩
            have HIT : Hid (itemV s5.next.1.kind s5.next.1.text (.slice ab lb cb6) = .agg #[.int .i64 0, .string tx, .slice ab lb cb6] ∧ (s5.next.1.kind != 0) = false) := ⟨by unfold itemV; rw [hkd, htx], by rw [hkd]; rfl⟩
            rw [HIT.out.1, HIT.out.2]
            have HI6 : Hid (InAt w6 ib v6 s5.next.2 ∧ From w.heap.size ib v6 ∧ Below w.heap.size w w6) := ⟨hI6, F6, HI5.out.2.2.trans B6⟩
            obtain ⟨w7, hw7⟩ : ∃ w7, w7 = w6.alloc (.cells #[.int .i64 0, .string tx, .slice ab lb cb6] 54) := ⟨_, rfl⟩
            have B7 : Below w6.heap.size w6 w7 := by rw [hw7]; exact (Below.refl _ w6).alloc (Nat.le_refl _) _
            have r7 : w7.heap[w6.heap.size]? = some (.cells #[.int .i64 0, .string tx, .slice ab lb cb6] 54 (0, 0)) := by rw [hw7]; exact heap_alloc_last _ _
            have p0 : w7.cell? ⟨w6.heap.size, 0, none⟩ = some (.int .i64 0) := by simp [World.cell?, r7]
            have p1 : w7.cell? ⟨w6.heap.size, 1, none⟩ = some (.string tx) := by simp [World.cell?, r7]
            have p2 : w7.cell? ⟨w6.heap.size, 2, none⟩ = some (.slice ab lb cb6) := by simp [World.cell?, r7]
            have HI7 : Hid (InAt w7 ib v6 s5.next.2 ∧ From w.heap.size ib v6 ∧ Below w.heap.size w w7) := ⟨HI6.out.1.below B7, HI6.out.2.1, HI6.out.2.2.trans (B7.mono HI6.out.2.2.size)⟩
            have HW7 : Hid (w7 = w6.alloc (.cells #[.int .i64 0, .string tx, .slice ab lb cb6] 54)) := hw7
            have htxs : tx.size = s5.next.1.text.length := by rw [htx]; rfl
            have htxl : tx.data.toList = s5.next.1.text := by rw [htx]
            have HH : Hid (s5.next.2.held.length ≤ 2147483648) := (fit q1 hcm5).held
            have hbd7 : (s5.next.2.held.length : Int) ≤ (bd : Int) := by have := HBD.out; omega
            have hto7 : (tl : Int) + (s5.next.2.held.length : Int) ≤ (came : Int) + (L : Int) := by have := q1.held; omega
            obtain ⟨hh, hhh⟩ : ∃ hh, hh = s5.next.2.held.length := ⟨_, rfl⟩
            rw [← hhh] at hbd7 hto7
            have HHH : Hid (s5.next.2.held.length = hh) := hhh.symm
            have HOK : Hid (Acc s5.next.2 mx (came + L) tl size ∧ bd = boundOf s5.next.2 size) := ⟨q1, by rw [q3]; exact HBD.out⟩
            clear hhh q1 q2 q3 hkd p0 p1 p2 htxs htxl htx hlb
            clear own6 W6 hI6 F6 B6 hw7 B7 r7
            go_upto_region 23 with fail
            rw [← HW7.out]
            go_wp2_with fail
            have HE1 := Held_in w7 ib v6 s5.next.2 HI7.out.1 HH.out
            rw [HHH.out] at HE1
            refine HE1.mono ?_
            clear HE1
            rintro e w8 ⟨rfl, n8, hW8⟩
            subst hW8
            go_wp2_with fail
            have HE2 := Held_in (w7.drewN n8) ib v6 s5.next.2 (HI7.out.1.drewN n8) HH.out
            rw [HHH.out] at HE2
            refine HE2.mono ?_
            clear HE2
            rintro e w9 ⟨rfl, n9, hW9⟩
            have HO9 : Hid (Out w ib mx l (k + 1) (came + L) tl bd size w9) := by
              rw [hW9]
              exact ⟨v6, s5.next.2, HI7.out.1, HI7.out.2.1, below_drewN (below_drewN HI7.out.2.2 n8) n9, HOK.out.1, HOK.out.2, HC2.out.1, hsz⟩
            clear hW9
            go_wp2
            go_roundg (l.length - (k + 1))
            case measure => omega
            case rel => exact ⟨k + 1, came + L, tl, bd, size, by go_num, rfl, rfl, rfl, by go_num, by omega, Nat.le_refl _, HO9⟩
          · -- a line
            go_wp2_with fail
            refine (next_any wr ib v5 s5 HI5.out.1 HFit5.out (HM.out.below HI5.out.2.2 HM.out.lt) hib0).mono ?_
            rintro e w6 ⟨vb, rfl, own6, W6⟩
            obtain ⟨v6, hI6, F6, B6⟩ := W6.went.below HI5.out.2.1 HI5.out.2.2.size
            obtain ⟨ab, cb6, hvb, _⟩ := own6.slice
            obtain ⟨lb, hlb⟩ : ∃ lb, lb = s5.next.1.body.length := ⟨_, rfl⟩
            rw [← hlb] at hvb
            subst hvb
            obtain ⟨tx, htx⟩ : ∃ tx : ByteArray, tx = ⟨s5.next.1.text.toArray⟩ := ⟨_, rfl⟩
            have HIT : Hid (itemV s5.next.1.kind s5.next.1.text (.slice ab lb cb6) = .agg #[.int .i64 1, .string tx, .slice ab lb cb6] ∧ (s5.next.1.kind != 0) = true) := ⟨by unfold itemV; rw [hkd, htx], by rw [hkd]; rfl⟩
            rw [HIT.out.1, HIT.out.2]
            have HI6 : Hid (InAt w6 ib v6 s5.next.2 ∧ From w.heap.size ib v6 ∧ Below w.heap.size w w6) := ⟨hI6, F6, HI5.out.2.2.trans B6⟩
            obtain ⟨w7, hw7⟩ : ∃ w7, w7 = w6.alloc (.cells #[.int .i64 1, .string tx, .slice ab lb cb6] 54) := ⟨_, rfl⟩
            have B7 : Below w6.heap.size w6 w7 := by rw [hw7]; exact (Below.refl _ w6).alloc (Nat.le_refl _) _
            have r7 : w7.heap[w6.heap.size]? = some (.cells #[.int .i64 1, .string tx, .slice ab lb cb6] 54 (0, 0)) := by rw [hw7]; exact heap_alloc_last _ _
            have p0 : w7.cell? ⟨w6.heap.size, 0, none⟩ = some (.int .i64 1) := by simp [World.cell?, r7]
            have p1 : w7.cell? ⟨w6.heap.size, 1, none⟩ = some (.string tx) := by simp [World.cell?, r7]
            have p2 : w7.cell? ⟨w6.heap.size, 2, none⟩ = some (.slice ab lb cb6) := by simp [World.cell?, r7]
            have HI7 : Hid (InAt w7 ib v6 s5.next.2 ∧ From w.heap.size ib v6 ∧ Below w.heap.size w w7) := ⟨HI6.out.1.below B7, HI6.out.2.1, HI6.out.2.2.trans (B7.mono HI6.out.2.2.size)⟩
            have HW7 : Hid (w7 = w6.alloc (.cells #[.int .i64 1, .string tx, .slice ab lb cb6] 54)) := hw7
            have htxs : tx.size = s5.next.1.text.length := by rw [htx]; rfl
            have htxl : tx.data.toList = s5.next.1.text := by rw [htx]
            have hts : ¬ (222 : Int) < (tx.size : Int) := by omega
            have hcutL : (⟨(cutL tx.data.toList).toArray⟩ : ByteArray) = tx := by
              rw [htxl]
              unfold cutL
              rw [q2, htx]
            have HCUT : Hid ((⟨(cutL tx.data.toList).toArray⟩ : ByteArray) = tx) := hcutL
            have htx2 : tx.size ≤ 222 := by omega
            rw [← htxs] at q3
            have HNX : Hid (∀ n, Inn w ib mx (mu s5.next.2) (came + L) (tl + (tx.size + 2)) 223 size (w7.drewN n)) := fun n => ⟨v6, s5.next.2, HI7.out.1, HI7.out.2.1, below_drewN HI7.out.2.2 n, q3, by unfold boundOf; rw [if_neg (by omega)], Nat.le_refl _, hsz⟩
            clear q1 q2 q3 q4 hkd htxs htxl htx hlb hcutL
            clear own6 W6 hI6 F6 B6 hw7 B7 r7
            go_upto_region 23 with fail
            rw [← HW7.out]
            go_wp2_with fail
            have HCC : Hid (∀ n, Calls Try.prog 23 #[.string tx] (w7.drewN n) fun e w' => e = .returned (.string tx) ∧ w' = w7.drewN n) := fun n => by
              have := cutS_any tx (w7.drewN n) (by omega)
              rwa [HCUT.out] at this
            go_quiet ((go_at_call 23; exact Calls.quiet_of_same (HCC.out _)))
            go_wp2
            go_roundg (mu s5.next.2)
            case measure => omega
            case rel => exact ⟨tl + (tx.size + 2), 223, by go_num, rfl, HNX.out _⟩
          · -- a long line
            go_wp2_with fail
            refine (next_any wr ib v5 s5 HI5.out.1 HFit5.out (HM.out.below HI5.out.2.2 HM.out.lt) hib0).mono ?_
            rintro e w6 ⟨vb, rfl, own6, W6⟩
            obtain ⟨v6, hI6, F6, B6⟩ := W6.went.below HI5.out.2.1 HI5.out.2.2.size
            obtain ⟨ab, cb6, hvb, _⟩ := own6.slice
            obtain ⟨lb, hlb⟩ : ∃ lb, lb = s5.next.1.body.length := ⟨_, rfl⟩
            rw [← hlb] at hvb
            subst hvb
            obtain ⟨tx, htx⟩ : ∃ tx : ByteArray, tx = ⟨s5.next.1.text.toArray⟩ := ⟨_, rfl⟩
            have HIT : Hid (itemV s5.next.1.kind s5.next.1.text (.slice ab lb cb6) = .agg #[.int .i64 2, .string tx, .slice ab lb cb6] ∧ (s5.next.1.kind != 0) = true) := ⟨by unfold itemV; rw [hkd, htx], by rw [hkd]; rfl⟩
            rw [HIT.out.1, HIT.out.2]
            have HI6 : Hid (InAt w6 ib v6 s5.next.2 ∧ From w.heap.size ib v6 ∧ Below w.heap.size w w6) := ⟨hI6, F6, HI5.out.2.2.trans B6⟩
            obtain ⟨w7, hw7⟩ : ∃ w7, w7 = w6.alloc (.cells #[.int .i64 2, .string tx, .slice ab lb cb6] 54) := ⟨_, rfl⟩
            have B7 : Below w6.heap.size w6 w7 := by rw [hw7]; exact (Below.refl _ w6).alloc (Nat.le_refl _) _
            have r7 : w7.heap[w6.heap.size]? = some (.cells #[.int .i64 2, .string tx, .slice ab lb cb6] 54 (0, 0)) := by rw [hw7]; exact heap_alloc_last _ _
            have p0 : w7.cell? ⟨w6.heap.size, 0, none⟩ = some (.int .i64 2) := by simp [World.cell?, r7]
            have p1 : w7.cell? ⟨w6.heap.size, 1, none⟩ = some (.string tx) := by simp [World.cell?, r7]
            have p2 : w7.cell? ⟨w6.heap.size, 2, none⟩ = some (.slice ab lb cb6) := by simp [World.cell?, r7]
            have HI7 : Hid (InAt w7 ib v6 s5.next.2 ∧ From w.heap.size ib v6 ∧ Below w.heap.size w w7) := ⟨HI6.out.1.below B7, HI6.out.2.1, HI6.out.2.2.trans (B7.mono HI6.out.2.2.size)⟩
            have HW7 : Hid (w7 = w6.alloc (.cells #[.int .i64 2, .string tx, .slice ab lb cb6] 54)) := hw7
            have htxs : tx.size = s5.next.1.text.length := by rw [htx]; rfl
            have htxl : tx.data.toList = s5.next.1.text := by rw [htx]
            have HNX : Hid (Inn w ib mx (mu s5.next.2) (came + L) (tl + 225) 223 size w7) := ⟨v6, s5.next.2, HI7.out.1, HI7.out.2.1, HI7.out.2.2, q3, by unfold boundOf; rw [if_neg (by omega)], Nat.le_refl _, hsz⟩
            clear q3 q4 hkd htxs htxl htx hlb
            clear own6 W6 hI6 F6 B6 hw7 B7 r7
            go_upto_region 23 with fail
            rw [← HW7.out]
            go_wp2
            go_roundg (mu s5.next.2)
            case measure => omega
            case rel => exact ⟨tl + 225, 223, by go_num, rfl, HNX⟩
          · rcases hkd with ⟨hkd, hbl3⟩ | hkd
            · -- a body
              go_wp2_with fail
              refine (next_any wr ib v5 s5 HI5.out.1 HFit5.out (HM.out.below HI5.out.2.2 HM.out.lt) hib0).mono ?_
              rintro e w6 ⟨vb, rfl, own6, W6⟩
              obtain ⟨v6, hI6, F6, B6⟩ := W6.went.below HI5.out.2.1 HI5.out.2.2.size
              obtain ⟨ab, cb6, hvb, _⟩ := own6.slice
              obtain ⟨lb, hlb⟩ : ∃ lb, lb = s5.next.1.body.length := ⟨_, rfl⟩
              rw [← hlb] at hvb
              subst hvb
              obtain ⟨tx, htx⟩ : ∃ tx : ByteArray, tx = ⟨s5.next.1.text.toArray⟩ := ⟨_, rfl⟩
              have HIT : Hid (itemV s5.next.1.kind s5.next.1.text (.slice ab lb cb6) = .agg #[.int .i64 3, .string tx, .slice ab lb cb6] ∧ (s5.next.1.kind != 0) = true) := ⟨by unfold itemV; rw [hkd, htx], by rw [hkd]; rfl⟩
              rw [HIT.out.1, HIT.out.2]
              have HI6 : Hid (InAt w6 ib v6 s5.next.2 ∧ From w.heap.size ib v6 ∧ Below w.heap.size w w6) := ⟨hI6, F6, HI5.out.2.2.trans B6⟩
              obtain ⟨w7, hw7⟩ : ∃ w7, w7 = w6.alloc (.cells #[.int .i64 3, .string tx, .slice ab lb cb6] 54) := ⟨_, rfl⟩
              have B7 : Below w6.heap.size w6 w7 := by rw [hw7]; exact (Below.refl _ w6).alloc (Nat.le_refl _) _
              have r7 : w7.heap[w6.heap.size]? = some (.cells #[.int .i64 3, .string tx, .slice ab lb cb6] 54 (0, 0)) := by rw [hw7]; exact heap_alloc_last _ _
              have p0 : w7.cell? ⟨w6.heap.size, 0, none⟩ = some (.int .i64 3) := by simp [World.cell?, r7]
              have p1 : w7.cell? ⟨w6.heap.size, 1, none⟩ = some (.string tx) := by simp [World.cell?, r7]
              have p2 : w7.cell? ⟨w6.heap.size, 2, none⟩ = some (.slice ab lb cb6) := by simp [World.cell?, r7]
              have HI7 : Hid (InAt w7 ib v6 s5.next.2 ∧ From w.heap.size ib v6 ∧ Below w.heap.size w w7) := ⟨HI6.out.1.below B7, HI6.out.2.1, HI6.out.2.2.trans (B7.mono HI6.out.2.2.size)⟩
              have HW7 : Hid (w7 = w6.alloc (.cells #[.int .i64 3, .string tx, .slice ab lb cb6] 54)) := hw7
              have htxs : tx.size = s5.next.1.text.length := by rw [htx]; rfl
              have htxl : tx.data.toList = s5.next.1.text := by rw [htx]
              obtain rfl : lb = size := hlb.trans hbl3
              have q1' : ¬ mx < (lb : Int) := by omega
              clear hbl3
              have HNX : Hid (Inn w ib mx (mu s5.next.2) (came + L) (tl + (lb + 2)) 223 lb w7) := ⟨v6, s5.next.2, HI7.out.1, HI7.out.2.1, HI7.out.2.2, q3, by unfold boundOf; rw [if_neg (by omega)], Nat.le_refl _, hsz⟩
              clear q3 q4 hkd htxs htxl htx hlb
              clear own6 W6 hI6 F6 B6 hw7 B7 r7
              go_upto_region 23 with fail
              rw [← HW7.out]
              go_wp2
              go_roundg (mu s5.next.2)
              case measure => omega
              case rel => exact ⟨tl + (lb + 2), 223, by go_num, rfl, HNX⟩
            · -- a body without its end
              go_wp2_with fail
              refine (next_any wr ib v5 s5 HI5.out.1 HFit5.out (HM.out.below HI5.out.2.2 HM.out.lt) hib0).mono ?_
              rintro e w6 ⟨vb, rfl, own6, W6⟩
              obtain ⟨v6, hI6, F6, B6⟩ := W6.went.below HI5.out.2.1 HI5.out.2.2.size
              obtain ⟨ab, cb6, hvb, _⟩ := own6.slice
              obtain ⟨lb, hlb⟩ : ∃ lb, lb = s5.next.1.body.length := ⟨_, rfl⟩
              rw [← hlb] at hvb
              subst hvb
              obtain ⟨tx, htx⟩ : ∃ tx : ByteArray, tx = ⟨s5.next.1.text.toArray⟩ := ⟨_, rfl⟩
              have HIT : Hid (itemV s5.next.1.kind s5.next.1.text (.slice ab lb cb6) = .agg #[.int .i64 5, .string tx, .slice ab lb cb6] ∧ (s5.next.1.kind != 0) = true) := ⟨by unfold itemV; rw [hkd, htx], by rw [hkd]; rfl⟩
              rw [HIT.out.1, HIT.out.2]
              have HI6 : Hid (InAt w6 ib v6 s5.next.2 ∧ From w.heap.size ib v6 ∧ Below w.heap.size w w6) := ⟨hI6, F6, HI5.out.2.2.trans B6⟩
              obtain ⟨w7, hw7⟩ : ∃ w7, w7 = w6.alloc (.cells #[.int .i64 5, .string tx, .slice ab lb cb6] 54) := ⟨_, rfl⟩
              have B7 : Below w6.heap.size w6 w7 := by rw [hw7]; exact (Below.refl _ w6).alloc (Nat.le_refl _) _
              have r7 : w7.heap[w6.heap.size]? = some (.cells #[.int .i64 5, .string tx, .slice ab lb cb6] 54 (0, 0)) := by rw [hw7]; exact heap_alloc_last _ _
              have p0 : w7.cell? ⟨w6.heap.size, 0, none⟩ = some (.int .i64 5) := by simp [World.cell?, r7]
              have p1 : w7.cell? ⟨w6.heap.size, 1, none⟩ = some (.string tx) := by simp [World.cell?, r7]
              have p2 : w7.cell? ⟨w6.heap.size, 2, none⟩ = some (.slice ab lb cb6) := by simp [World.cell?, r7]
              have HI7 : Hid (InAt w7 ib v6 s5.next.2 ∧ From w.heap.size ib v6 ∧ Below w.heap.size w w7) := ⟨HI6.out.1.below B7, HI6.out.2.1, HI6.out.2.2.trans (B7.mono HI6.out.2.2.size)⟩
              have HW7 : Hid (w7 = w6.alloc (.cells #[.int .i64 5, .string tx, .slice ab lb cb6] 54)) := hw7
              have htxs : tx.size = s5.next.1.text.length := by rw [htx]; rfl
              have htxl : tx.data.toList = s5.next.1.text := by rw [htx]
              have q1' : ¬ mx < (size : Int) := by omega
              have HNX : Hid (Inn w ib mx (mu s5.next.2) (came + L) (tl + (size + 2)) 223 size w7) := ⟨v6, s5.next.2, HI7.out.1, HI7.out.2.1, HI7.out.2.2, q3, by unfold boundOf; rw [if_neg (by omega)], Nat.le_refl _, hsz⟩
              clear q3 q4 hkd htxs htxl htx hlb
              clear own6 W6 hI6 F6 B6 hw7 B7 r7
              go_upto_region 23 with fail
              rw [← HW7.out]
              go_wp2
              go_roundg (mu s5.next.2)
              case measure => omega
              case rel => exact ⟨tl + (size + 2), 223, by go_num, rfl, HNX⟩
          · -- a big body
            go_wp2_with fail
            refine (next_any wr ib v5 s5 HI5.out.1 HFit5.out (HM.out.below HI5.out.2.2 HM.out.lt) hib0).mono ?_
            rintro e w6 ⟨vb, rfl, own6, W6⟩
            obtain ⟨v6, hI6, F6, B6⟩ := W6.went.below HI5.out.2.1 HI5.out.2.2.size
            obtain ⟨ab, cb6, hvb, _⟩ := own6.slice
            obtain ⟨lb, hlb⟩ : ∃ lb, lb = s5.next.1.body.length := ⟨_, rfl⟩
            rw [← hlb] at hvb
            subst hvb
            obtain ⟨tx, htx⟩ : ∃ tx : ByteArray, tx = ⟨s5.next.1.text.toArray⟩ := ⟨_, rfl⟩
            have HIT : Hid (itemV s5.next.1.kind s5.next.1.text (.slice ab lb cb6) = .agg #[.int .i64 4, .string tx, .slice ab lb cb6] ∧ (s5.next.1.kind != 0) = true) := ⟨by unfold itemV; rw [hkd, htx], by rw [hkd]; rfl⟩
            rw [HIT.out.1, HIT.out.2]
            have HI6 : Hid (InAt w6 ib v6 s5.next.2 ∧ From w.heap.size ib v6 ∧ Below w.heap.size w w6) := ⟨hI6, F6, HI5.out.2.2.trans B6⟩
            obtain ⟨w7, hw7⟩ : ∃ w7, w7 = w6.alloc (.cells #[.int .i64 4, .string tx, .slice ab lb cb6] 54) := ⟨_, rfl⟩
            have B7 : Below w6.heap.size w6 w7 := by rw [hw7]; exact (Below.refl _ w6).alloc (Nat.le_refl _) _
            have r7 : w7.heap[w6.heap.size]? = some (.cells #[.int .i64 4, .string tx, .slice ab lb cb6] 54 (0, 0)) := by rw [hw7]; exact heap_alloc_last _ _
            have p0 : w7.cell? ⟨w6.heap.size, 0, none⟩ = some (.int .i64 4) := by simp [World.cell?, r7]
            have p1 : w7.cell? ⟨w6.heap.size, 1, none⟩ = some (.string tx) := by simp [World.cell?, r7]
            have p2 : w7.cell? ⟨w6.heap.size, 2, none⟩ = some (.slice ab lb cb6) := by simp [World.cell?, r7]
            have HI7 : Hid (InAt w7 ib v6 s5.next.2 ∧ From w.heap.size ib v6 ∧ Below w.heap.size w w7) := ⟨HI6.out.1.below B7, HI6.out.2.1, HI6.out.2.2.trans (B7.mono HI6.out.2.2.size)⟩
            have HW7 : Hid (w7 = w6.alloc (.cells #[.int .i64 4, .string tx, .slice ab lb cb6] 54)) := hw7
            have htxs : tx.size = s5.next.1.text.length := by rw [htx]; rfl
            have htxl : tx.data.toList = s5.next.1.text := by rw [htx]
            have HNX : Hid (Inn w ib mx (mu s5.next.2) (came + L) (tl + (size + 2)) 223 size w7) := ⟨v6, s5.next.2, HI7.out.1, HI7.out.2.1, HI7.out.2.2, q3, by unfold boundOf; rw [if_neg (by omega)], Nat.le_refl _, hsz⟩
            clear q3 q4 hkd htxs htxl htx hlb
            clear own6 W6 hI6 F6 B6 hw7 B7 r7
            go_upto_region 23 with fail
            rw [← HW7.out]
            go_wp2
            go_roundg (mu s5.next.2)
            case measure => omega
            case rel => exact ⟨tl + (size + 2), 223, by go_num, rfl, HNX⟩
    · have hpi : ¬ (k : Int) < (l.length : Int) := by omega
      have HBB : Hid (Below w.heap.size w wr) := by obtain ⟨v, s, _, _, hB, _⟩ := HO.out; exact hB
      clear HO
      go_wp2
      go_ret
      exact ⟨rfl, HBB.out⟩
end Go.Proofs.Ytabpicbhhplcgaa.intakeBounds
