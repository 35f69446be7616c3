/-
  RQ4, RQ5, RQ6.
-/
import Derived.Test.YtomgnailgddchaaDoorJE
import Derived.Test.YtomgnailgddchaaDoorWordT
import Derived.Deep.QuietTactic
import Derived.Deep.RegionWith
import Derived.Deep.Cut
import Derived.BigQuiet
import Derived.Test.YtomgnailgddchaaDoorJC
import Derived.Test.YtomgnailgddchaaDoorReadA
import Derived.Laws.Rows
namespace Go.Proofs.YtomgnailgddchaaDoor
open Go.RowKit

def matchE (b : Bool × Bool) : Ending := .returned (.tuple #[.bool b.1, .bool b.2])
theorem wrd_is {k : Nat} (h1 : 1 ≤ k) (h2 : k ≤ 23) : wrdR (k : Int) = wordOf k := by
  unfold wrdR
  rw [if_pos (by omega)]
  rfl
theorem agree_go {l w : List UInt8} {i : Nat} {x : UInt8} (hx : l[i]? = some x) (hy : w[i]? = some x) : agree (l.drop i) (w.drop i) = agree (l.drop (i + 1)) (w.drop (i + 1)) := by
  rw [drop_get hx, drop_get hy]
  simp [agree]
theorem agree_no {l w : List UInt8} {i : Nat} {x y : UInt8} (hx : l[i]? = some x) (hy : w[i]? = some y) (h : ¬ x = y) : agree (l.drop i) (w.drop i) = false := by
  rw [drop_get hx, drop_get hy]
  simp [agree, h]
theorem agree_end {l w : List UInt8} {i : Nat} (h : l.length ≤ i ∨ w.length ≤ i) : agree (l.drop i) (w.drop i) = true := by
  rcases h with h | h
  · rw [List.drop_of_length_le h]
    cases w.drop i <;> rfl
  · rw [List.drop_of_length_le h]
    exact agree_nil _
theorem fields_le (k : Nat) (hk : k < 24) : (fsOf k).length ≤ 2 := by rw [← fields_of k hk]; exact fields_short _
theorem words_le : ∀ k : Nat, k < 24 → (wordOf k).length ≤ 20 := by decide

theorem drewN_below {w wr Wd : World} {n : Nat} (h : Below w.heap.size w wr) (e : wr.drewN n = Wd) : Below w.heap.size w Wd := by
  subst e
  exact ⟨h.os, h.tape, h.output, h.size, h.block⟩
theorem flds_cons (k : Nat) (l : List UInt8) {fs : List UInt8} {i : Nat} {x : UInt8} (h : fs[i]? = some x) (p : Nat) : fldsM k l (fs.drop i) p = if (fldM k l x p).2 = 0 then fldsM k l (fs.drop (i + 1)) (fldM k l x p).1 else fldM k l x p := by
  rw [drop_get h, fldsM]
theorem match_1 {k : Nat} {l : List UInt8} (ha : agree l (wordOf k) = true) (h : (fldsM k l (fsOf k) (wordOf k).length).2 = 1) : matchR l k = (true, false) := by
  unfold matchR
  rw [if_neg (by rw [ha]; simp), if_pos h]
theorem match_2 {k : Nat} {l : List UInt8} (ha : agree l (wordOf k) = true) (h : (fldsM k l (fsOf k) (wordOf k).length).2 = 2) : matchR l k = (false, false) := by
  unfold matchR
  rw [if_neg (by rw [ha]; simp), if_neg (by rw [h]; decide), if_pos h]
theorem match_0 {k : Nat} {l : List UInt8} {p : Nat} (ha : agree l (wordOf k) = true) (h : fldsM k l (fsOf k) (wordOf k).length = (p, 0)) : matchR l k = if l.length ≤ p then (true, false) else (l.drop p == [13] || l.drop p == [13, 10], l.drop p == [13, 10]) := by
  unfold matchR
  rw [if_neg (by rw [ha]; simp), h, if_neg (show ¬ (0 : Nat) = 1 by decide), if_neg (show ¬ (0 : Nat) = 2 by decide)]
theorem flds_all (k : Nat) (l : List UInt8) {fs : List UInt8} {i : Nat} (h : fs.length ≤ i) (p : Nat) : fldsM k l (fs.drop i) p = (p, 0) := by
  rw [List.drop_of_length_le h]
  rfl
theorem fld_a {k : Nat} {l : List UInt8} {x : UInt8} {p : Nat} (h : l.length ≤ p) : (fldM k l x p).2 = 1 := by unfold fldM; rw [if_pos h]
theorem fld_b {k : Nat} {l : List UInt8} {x y : UInt8} {p : Nat} (h : l[p]? = some y) (hy : ¬ y = 32) : (fldM k l x p).2 = 2 := by
  unfold fldM
  rw [if_neg (by have := (List.getElem?_eq_some_iff.1 h).1; omega), if_pos (by rw [h]; simpa using hy)]
theorem fld_c {k : Nat} {l : List UInt8} {x : UInt8} {p : Nat} (h : l[p]? = some 32) (hl : l.length = p + 1) : (fldM k l x p).2 = 1 := by
  unfold fldM
  rw [if_neg (by omega), if_neg (by rw [h]; simp), if_pos hl]
theorem fld_d {k : Nat} {l : List UInt8} {x : UInt8} {p : Nat} (h : l[p]? = some 32) (hl : ¬ l.length = p + 1) : fldM k l x p = if fitsX k x (runR (x == 84) (l.drop (p + 1))) = true then (p + 1 + (runR (x == 84) (l.drop (p + 1))).length, 0) else (p, 2) := by
  unfold fldM
  rw [if_neg (by have := (List.getElem?_eq_some_iff.1 h).1; omega), if_neg (by rw [h]; simp), if_neg hl]
theorem baGet {s : ByteArray} {l : List UInt8} (hs : s = ⟨l.toArray⟩) {i : Nat} (h : i < s.size) {x : UInt8} (hx : l[i]? = some x) : s[i] = x := by
  subst hs
  have hl : i < l.length := h
  have := List.getElem?_eq_some_iff.1 hx
  exact this.2

set_option maxHeartbeats 4000000 in
set_option maxRecDepth 1000000 in
theorem match_any (a : Option Addr) (c : Nat) (l : List UInt8) (k : Nat) (h1 : 1 ≤ k) (h2 : k ≤ 23) (w : World) (h : IsBytes w a c l) :
    Calls Tryd.prog 54 #[.slice a l.length c, .int .i64 k] w fun e w' => e = matchE (matchR l k) ∧ Below w.heap.size w w' := by
  have hlen : l.length ≤ 9223372036854775807 := by
    have h1 := h.1
    have h2 := h.2.1
    unfold maxLen at h2
    omega
  have hcap := h.2.1
  unfold maxLen at hcap
  have hc1 := h.1
  have HB : Hid (∀ X, Below w.heap.size w X → IsBytes X a c l) := fun X hX => h.below hX
  clear h
  obtain ⟨ws, hws⟩ : ∃ s : ByteArray, s = ⟨(wordOf k).toArray⟩ := ⟨_, rfl⟩
  have hwz : ws.size = (wordOf k).length := by rw [hws]; rfl
  have hw20 := words_le k (by omega)
  have HW := hide hws
  have CW : Hid (∀ w, Calls Tryd.prog 55 #[.int .i64 k] w fun e w' => e = .returned (.string ws) ∧ Below w.heap.size w w') := fun w => by
    rw [hws, ← wrd_is h1 h2]
    exact refWord_any k w
  obtain ⟨fs, hfs⟩ : ∃ s : ByteArray, s = ⟨(fsOf k).toArray⟩ := ⟨_, rfl⟩
  have hfz : fs.size = (fsOf k).length := by rw [hfs]; rfl
  have hf2 := fields_le k (by omega)
  have HF := hide hfs
  have CF : Hid (∀ w, Calls Tryd.prog 56 #[.int .i64 k] w fun e w' => e = .returned (.string fs) ∧ w' = w) := fun w => by
    rw [hfs, ← fields_of k (by omega)]
    exact refFields_any k w
  clear hws hfs
  obtain ⟨R, hR⟩ : ∃ R, R = matchR l k := ⟨_, rfl⟩
  rw [← hR]
  have HR := hide hR
  clear hR
  have HK := hide (And.intro h1 h2)
  clear h1 h2
  go_enter Tryd.func54, Tryd.ntmps54
  go_wp2_with (go_at_call 55; refine (CW.out _).mono ?_; rintro e w1 ⟨rfl, b1⟩; have B1 : Hid (Below w.heap.size w w1) := hide b1; clear b1)
  go_loopg [7] l.length (fun gk i wr => ∃ j : Nat, i = .int .i64 j ∧ j ≤ l.length ∧ j ≤ ws.size ∧ l.length - j ≤ gk ∧ Hid (Below w.heap.size w wr) ∧ Hid (agree l (wordOf k) = agree (l.drop j) ((wordOf k).drop j)))
  case atStart => exact ⟨0, rfl, Nat.zero_le _, Nat.zero_le _, by omega, B1, rfl⟩
  case round =>
    obtain ⟨j, rfl, hj, hj2, hgk, BW, HA⟩ := hrel
    have hb := HB.out _ BW.out
    by_cases hlt : j < l.length ∧ j < ws.size
    · obtain ⟨hlt1, hlt2⟩ := hlt
      have hlt3 : (j : Int) < ws.size := by omega
      obtain ⟨x, hx⟩ : ∃ x, l[j]? = some x := ⟨_, List.getElem?_eq_getElem hlt1⟩
      obtain ⟨y, hy⟩ : ∃ y, (wordOf k)[j]? = some y := ⟨_, List.getElem?_eq_getElem (by omega)⟩
      have hwj : ws[j] = y := baGet HW.out hlt2 hy
      obtain ⟨b, o, hab, _, hc⟩ := hb.get (by intro h0; rw [h0] at hlt1; cases hlt1)
      subst hab
      have cx : wr.cell? ⟨b, o + j, none⟩ = some (.int .u8 (x.toNat : Int)) := hc j x hx
      have HX := hide hx
      have HY := hide hy
      clear hc hx hy hb
      by_cases hxy : x = y
      · subst hxy
        have HA2 : Hid (agree l (wordOf k) = agree (l.drop (j + 1)) ((wordOf k).drop (j + 1))) := HA.out.trans (agree_go HX.out HY.out)
        go_upto_region 5 with fail
        go_quiet (fail)
        generalize hWd : wr.drewN _ = Wd
        have BD : Hid (Below w.heap.size w Wd) := drewN_below BW.out hWd
        clear hWd
        have e1 : ((x.toNat : Int) != (x.toNat : Int)) = false := by simp
        go_wp2_with fail
        go_roundg (l.length - (j + 1))
        case measure => omega
        case rel => exact ⟨j + 1, by go_num, by omega, by omega, Nat.le_refl _, BD, HA2⟩
      · have hxn : ¬ (x.toNat : Int) = (y.toNat : Int) := fun h => hxy (UInt8.toNat_inj.1 (by omega))
        have HE : Hid (R = (false, false)) := by
          show R = _
          rw [HR.out]
          unfold matchR
          rw [if_pos (by rw [HA.out, agree_no HX.out HY.out hxy])]
        have e1 : ((x.toNat : Int) != (y.toNat : Int)) = true := by simp; omega
        clear hxy hxn
        go_upto_region 5 with fail
        go_quiet (fail)
        generalize hWd : wr.drewN _ = Wd
        have BD : Hid (Below w.heap.size w Wd) := drewN_below BW.out hWd
        clear hWd
        go_wp2_with fail
        go_ret2
        exact ⟨by rw [HE.out]; rfl, BD.out⟩
    · have HA2 : Hid (agree l (wordOf k) = true) := HA.out.trans (agree_end (by omega))
      clear HA
      go_upto_region 3 with fail
      go_cut [24] from 15 to 24 (fun b wx => b = .bool false ∧ wx = wr)
      case first =>
        by_cases hl : j < l.length
        · have hl2 : ¬ j < (wordOf k).length := by omega
          clear hlt
          go_wp2_with fail
          go_meet
          exact ⟨rfl, rfl⟩
        · clear hlt
          go_wp2_with fail
          go_meet
          exact ⟨rfl, rfl⟩
      case rest =>
        obtain ⟨rfl, rfl⟩ := hcut
        clear hlt hb
        go_wp2_with (go_at_call 56; refine (CF.out _).mono ?_; rintro e w2 ⟨rfl, rfl⟩)
        clear CW CF hwz hgk hj hj2
        have hp0 : (wordOf k).length ≤ l.length ∨ (wordOf k).length ≤ 20 := .inr hw20
        generalize hq0 : (wordOf k).length = q0 at hp0 hw20 ⊢
        have HM : Hid (fldsM k l (fsOf k) (wordOf k).length = fldsM k l ((fsOf k).drop 0) q0) := (by rw [hq0, List.drop_zero] : fldsM k l (fsOf k) (wordOf k).length = fldsM k l ((fsOf k).drop 0) q0)
        clear hq0
        go_loopg [8, 10, 11] (fsOf k).length (fun gk at_ i tt wx => ∃ (p n : Nat), at_ = .int .i64 p ∧ i = .int .i64 n ∧ n ≤ (fsOf k).length ∧ (fsOf k).length - n ≤ gk ∧ (p ≤ l.length ∨ p ≤ 20) ∧ Hid (Below w.heap.size w wx) ∧ Hid (fldsM k l (fsOf k) (wordOf k).length = fldsM k l ((fsOf k).drop n) p))
        case atStart => exact ⟨q0, 0, rfl, rfl, Nat.zero_le _, by omega, hp0, BW, HM⟩
        case round =>
          clear hp0 hw20 HM
          obtain ⟨p, n, rfl, rfl, hn, hgk, hp, BX, HM⟩ := hrel
          have hpm : p ≤ 9223372036854775807 := by omega
          by_cases hlt : n < (fsOf k).length
          · obtain ⟨x, hx⟩ : ∃ x, (fsOf k)[n]? = some x := ⟨_, List.getElem?_eq_getElem hlt⟩
            have hlt2 : n < fs.size := by omega
            have hfn : fs[n] = x := baGet HF.out hlt2 hx
            have HX := hide hx
            have HC : Hid (fldsM k l (fsOf k) (wordOf k).length = if (fldM k l x p).2 = 0 then fldsM k l ((fsOf k).drop (n + 1)) (fldM k l x p).1 else fldM k l x p) := HM.out.trans (flds_cons k l hx p)
            clear hx HM
            by_cases hA : l.length ≤ p
            · have HE : Hid (R = (true, false)) := HR.out.trans (match_1 HA2.out (by rw [HC.out, if_neg (by rw [fld_a hA]; decide), fld_a hA]))
              go_wp2_with fail
              go_ret2
              exact ⟨by rw [HE.out]; rfl, BX.out⟩
            · obtain ⟨y, hy⟩ : ∃ y, l[p]? = some y := ⟨_, List.getElem?_eq_getElem (by omega)⟩
              obtain ⟨b, o, hab, _, hc⟩ := (HB.out _ BX.out).get (by intro h0; rw [h0] at hA; exact hA (Nat.zero_le _))
              subst hab
              have cx : wr.cell? ⟨b, o + p, none⟩ = some (.int .u8 (y.toNat : Int)) := hc p y hy
              have HY := hide hy
              clear hc hy
              by_cases h32 : y = 32
              · subst h32
                have e32 : (((32 : UInt8).toNat : Int) != 32) = false := rfl
                by_cases hl1 : l.length = p + 1
                · have HE : Hid (R = (true, false)) := HR.out.trans (match_1 HA2.out (by rw [HC.out, if_neg (by rw [fld_c HY.out hl1]; decide), fld_c HY.out hl1]))
                  have e1 : ((p : Int) + 1 == (l.length : Int)) = true := by simp; omega
                  go_wp2_with fail
                  go_ret2
                  exact ⟨by rw [HE.out]; rfl, BX.out⟩
                · have e1 : ((p : Int) + 1 == (l.length : Int)) = false := by simp; omega
                  have hp1 : p + 1 < l.length := by omega
                  have hsp := run_split (x == 84) (l.drop (p + 1))
                  have HD := hide (fld_d (k := k) (x := x) HY.out hl1)
                  have e84 : ((x.toNat : Int) == 84) = (x == 84) := by
                    by_cases h : x = 84
                    · subst h; rfl
                    · rw [show (x == 84) = false by simp [h]]
                      rw [beq_eq_false_iff_ne]
                      intro e
                      exact h (UInt8.toNat_inj.1 (by show x.toNat = 84; omega))
                  generalize hnm : (x == 84) = nm at hsp e84 HD
                  generalize hs : runR nm (l.drop (p + 1)) = z at hsp HD
                  have hzl : p + 1 + z.length ≤ l.length := by have := hsp.1; rw [List.length_drop] at this; omega
                  have CE : Hid (∀ X, Below w.heap.size w X → Calls Tryd.prog 57 #[.slice (some ⟨b, o, none⟩) l.length c, .int .i64 ((p : Int) + 1), .bool nm] X fun e w' => e = .returned (.int .i64 ((p + 1 + z.length : Nat) : Int)) ∧ w' = X) := fun X hX => by
                    have := refEnd8_any (some ⟨b, o, none⟩) c (p + 1) l nm X (HB.out X hX) (by omega)
                    rw [hs] at this
                    exact this
                  obtain ⟨S, hS⟩ : ∃ S : ByteArray, S = ⟨z.toArray⟩ := ⟨_, rfl⟩
                  have hSl : S.data.toList = z := by rw [hS]
                  have hSz : S.size = z.length := by rw [hS]; exact List.size_toArray
                  have CR : Hid (∀ X, Calls Tryd.prog 67 #[.string S, .int .i64 k, .int .u8 x.toNat] X fun e w' => e = .returned (.bool (fitsX k x z)) ∧ Below X.heap.size X w') := fun X => by
                    have := right_any S k (by have := HK.out; omega) x (List.mem_of_getElem? HX.out) X (by unfold maxLen; omega)
                    rw [hSl] at this
                    exact this
                  have HCV : Hid (∀ X, Below w.heap.size w X → (convert 34 9 (.slice (some ⟨b, o + (p + 1), none⟩) z.length (c - (p + 1)))).run Tryd.prog X = .ok (.string S) X) := fun X hX => by
                    rw [hS]
                    refine conv_is (l := z) ?_ rfl
                    have := ((HB.out X hX).map (p + 1) (by omega)).take z.length
                    rw [hsp.2.1, addS] at this
                    exact this
                  have hcne : ¬ c = p + 1 := by omega
                  clear hsp hS hs hnm
                  go_upto_region 20 with (go_at_call 57; refine (CE.out _ BX.out).mono ?_; rintro e w4 ⟨rfl, rfl⟩)
                  have cv := HCV.out w4.drew BX.out.drew
                  go_cut [77] from 67 to 77 (fun r wx => r = .bool (!fitsX k x z) ∧ Hid (Below w.heap.size w wx))
                  case first =>
                    go_region_with (go_at_call 67; refine (CR.out _).mono ?_; rintro e w5 ⟨rfl, b5⟩; have B5 := hide b5; clear b5)
                    all_goals go_wp2_with fail
                    all_goals go_meet
                    all_goals exact ⟨rfl, BX.out.drew.trans (B5.out.mono BX.out.size)⟩
                  case rest =>
                    obtain ⟨rfl, BC⟩ := hcut
                    clear cv
                    cases hfit : fitsX k x z with
                    | true =>
                      have HN : Hid (fldsM k l (fsOf k) (wordOf k).length = fldsM k l ((fsOf k).drop (n + 1)) (p + 1 + z.length)) := by
                        have h1 := HD.out
                        rw [if_pos hfit] at h1
                        have h2 := HC.out
                        rw [h1] at h2
                        exact h2
                      clear hfit HD HC
                      go_wp2_with fail
                      go_roundg ((fsOf k).length - (n + 1))
                      case measure => omega
                      case rel => exact ⟨p + 1 + z.length, n + 1, by go_num, by go_num, hlt, Nat.le_refl _, .inl hzl, BC, HN⟩
                    | false =>
                      have HE : Hid (R = (false, false)) := by
                        have h1 := HD.out
                        rw [if_neg (by rw [hfit]; simp)] at h1
                        have h2 := HC.out
                        rw [h1] at h2
                        exact HR.out.trans (match_2 HA2.out (by rw [h2]; rfl))
                      clear hfit HD HC
                      go_wp2_with fail
                      go_ret2
                      exact ⟨by rw [HE.out]; rfl, BC.out⟩
              · have HE : Hid (R = (false, false)) := HR.out.trans (match_2 HA2.out (by rw [HC.out, if_neg (by rw [fld_b HY.out h32]; decide), fld_b HY.out h32]))
                have e32 : ((y.toNat : Int) != 32) = true := by
                  simp only [bne_iff_ne, ne_eq]
                  intro e; exact h32 (UInt8.toNat_inj.1 (by show y.toNat = 32; omega))
                clear h32
                go_wp2_with fail
                go_ret2
                exact ⟨by rw [HE.out]; rfl, BX.out⟩
          · have HC : Hid (R = if l.length ≤ p then (true, false) else (l.drop p == [13] || l.drop p == [13, 10], l.drop p == [13, 10])) := HR.out.trans (match_0 HA2.out (HM.out.trans (flds_all k l (by omega) p)))
            clear HM
            by_cases hA : l.length ≤ p
            · have HE : Hid (R = (true, false)) := HC.out.trans (if_pos hA)
              go_wp2_with fail
              go_ret2
              exact ⟨by rw [HE.out]; rfl, BX.out⟩
            · have HE : Hid (R = (l.drop p == [13] || l.drop p == [13, 10], l.drop p == [13, 10])) := HC.out.trans (if_neg hA)
              clear HC
              obtain ⟨b, o, hab, _, _⟩ := (HB.out _ BX.out).get (by intro h0; rw [h0] at hA; exact hA (Nat.zero_le _))
              subst hab
              obtain ⟨S, hS⟩ : ∃ S : ByteArray, S = ⟨(l.drop p).toArray⟩ := ⟨_, rfl⟩
              have HT : Hid (S.toList = l.drop p) := (by rw [ByteArray.toList_eq, hS] : S.toList = l.drop p)
              have cv : (convert 34 9 (.slice (some ⟨b, o + p, none⟩) (l.length - p) (c - p))).run Tryd.prog wr = .ok (.string S) wr := by
                rw [hS]
                refine conv_is (l := l.drop p) ?_ (List.length_drop ..)
                have := (HB.out _ BX.out).map p (by omega)
                have ea : (some (⟨b, o, none⟩ : Addr)).map (fun x => x.add p) = some ⟨b, o + p, none⟩ := by
                  by_cases h0 : p = 0
                  · subst h0; simp [Addr.add]
                  · simp [Addr.add, h0]
                rw [ea] at this
                exact this
              have hcne : ¬ c = p := by omega
              have e13 : (S.toList == [13]) = (l.drop p == [13]) := by rw [HT.out]
              have e1310 : (S.toList == [13, 10]) = (l.drop p == [13, 10]) := by rw [HT.out]
              clear hS HT
              generalize (l.drop p == [13]) = b1 at e13 HE
              generalize (l.drop p == [13, 10]) = b2 at e1310 HE
              cases b1
              · go_wp2_with fail
                go_ret2
                exact ⟨by rw [HE.out]; rfl, BX.out⟩
              · go_wp2_with fail
                go_ret2
                exact ⟨by rw [HE.out]; rfl, BX.out⟩
end Go.Proofs.YtomgnailgddchaaDoor

namespace Go.Proofs.YtomgnailgddchaaDoor
open Go.RowKit

set_option maxHeartbeats 4000000 in
set_option maxRecDepth 1000000 in
theorem begins_any (a : Option Addr) (c : Nat) (l : List UInt8) (w : World) (h : IsBytes w a c l) :
    Calls Tryd.prog 43 #[.slice a l.length c] w fun e w' => e = .returned (.tuple #[.bool (beginsR l).1, .int .i64 ((beginsR l).2 : Nat)]) ∧ Below w.heap.size w w' := by
  have HB : Hid (∀ X, Below w.heap.size w X → IsBytes X a c l) := fun X hX => h.below hX
  clear h
  obtain ⟨n0, hn0⟩ : ∃ n, n = l.length := ⟨_, rfl⟩
  have HL := hide hn0
  rw [← hn0]
  obtain ⟨R, hR⟩ : ∃ R, R = beginsR l := ⟨_, rfl⟩
  rw [← hR]
  have HR := hide hR
  clear hR hn0
  go_enter Tryd.func43, Tryd.ntmps43
  go_wp2_with fail
  go_loopg [4, 5, 6, 7] 23 (fun gk an i v6 v7 wr => ∃ (any : Bool) (n k : Nat), an = .bool any ∧ i = .int .i64 k ∧ n ≤ gk ∧ n + k = 24 ∧ 1 ≤ k ∧ Hid (Below w.heap.size w wr) ∧ Hid (R = begF l n k any))
  case atStart => exact ⟨false, 23, 1, rfl, rfl, Nat.le_refl _, rfl, Nat.le_refl _, Below.refl _ _, HR.out⟩
  case round =>
    obtain ⟨any, n, k, rfl, rfl, hgk, hnk, hk1, BW, HK⟩ := hrel
    by_cases hk : k ≤ 23
    · obtain ⟨m, rfl⟩ : ∃ m, n = m + 1 := ⟨n - 1, by omega⟩
      have CM : Hid (Calls Tryd.prog 54 #[.slice a n0 c, .int .i64 k] wr fun e w' => e = matchE (matchR l k) ∧ Below w.heap.size w w') := by
        show Calls _ _ _ _ _
        rw [HL.out]
        refine (match_any a c l k hk1 hk wr (HB.out _ BW.out)).mono ?_
        rintro e w' ⟨rfl, b⟩
        exact ⟨rfl, BW.out.trans (b.mono BW.out.size)⟩
      have HK2 : Hid (R = if (matchR l k).2 = true then (true, k) else begF l m (k + 1) (any || (matchR l k).1)) := HK.out
      clear HK
      generalize matchR l k = M at CM HK2
      obtain ⟨m1, m2⟩ := M
      unfold matchE at CM
      dsimp only at CM HK2
      cases m2 with
      | true =>
        have HE : Hid (R = (true, k)) := HK2.out
        clear HK2
        go_wp2_with (go_at_call 54; refine CM.out.mono ?_; rintro e w1 ⟨rfl, b1⟩; have B1 : Hid (Below w.heap.size w w1) := hide b1; clear b1)
        go_ret2
        exact ⟨by rw [HE.out]; rfl, B1.out⟩
      | false =>
        have HE : Hid (R = begF l m (k + 1) (any || m1)) := HK2.out
        clear HK2
        cases any
        · go_wp2_with (go_at_call 54; refine CM.out.mono ?_; rintro e w1 ⟨rfl, b1⟩; have B1 : Hid (Below w.heap.size w w1) := hide b1; clear b1)
          go_roundg m
          case measure => omega
          case rel => exact ⟨m1, m, k + 1, rfl, by go_num, Nat.le_refl _, by omega, by omega, B1, HE⟩
        · go_wp2_with (go_at_call 54; refine CM.out.mono ?_; rintro e w1 ⟨rfl, b1⟩; have B1 : Hid (Below w.heap.size w w1) := hide b1; clear b1)
          go_roundg m
          case measure => omega
          case rel => exact ⟨true, m, k + 1, rfl, by go_num, Nat.le_refl _, by omega, by omega, B1, HE⟩
    · obtain rfl : n = 0 := by omega
      have HE : Hid (R = (any, 0)) := HK.out
      clear HK
      go_wp2_with fail
      go_ret2
      exact ⟨by rw [HE.out]; rfl, BW.out⟩
end Go.Proofs.YtomgnailgddchaaDoor

namespace Go.Proofs.YtomgnailgddchaaDoor
open Go.RowKit

theorem results_ct_row {P : Program} {fn : Func} {p u : Tmp} {ty : TypeId} (h : fn.results = #[.cell p ty, .tmp u]) (tmps : Array Value) (w : World) (g : Nat) (t : TypeId) (cs : Array Value) (fr : Nat × Nat) (d : TypeDesc)
    (hp : tmps.getD p undef = .pointer (some ⟨g, 0, none⟩)) (hg : w.heap[g]? = some (.cells cs t fr)) (hu : P.underlying ty = some d) (hd : (match d with | .struct _ | .array _ _ => true | _ => false) = true) (hi : (P.info? ty).map (·.size) = some cs.size) :
    (results fn tmps).run P w = .ok (.tuple #[.agg cs, tmps.getD u undef]) w := by
  have hp' : tmps[p]?.getD undef = .pointer (some ⟨g, 0, none⟩) := by simpa using hp
  simp only [results, h]
  simp [Result.andThen, hp', asAddr, run_loadVar_row w g t ty cs fr d hg hu hd hi]
/-- A reply without a body in a block. -/
def rpC (r : Rp) : Array Value := #[.int .i64 r.kind, .int .i64 r.id, .int .i64 r.num, .string ⟨r.tube.toArray⟩, .slice none 0 0]
def RepB (w : World) (q : Nat) (r : Rp) : Prop := w.heap[q]? = some (.cells (rpC r) 45 (0, 0))
theorem RepB.below {w w' : World} {q : Nat} {r : Rp} (h : RepB w q r) (hb : Below w.heap.size w w') : RepB w' q r := (hb.block q (Array.getElem?_eq_some_iff.1 h).1).trans h
theorem RepB.cells {w : World} {q : Nat} {r : Rp} (h : RepB w q r) : w.cell? ⟨q, 1, none⟩ = some (.int .i64 r.id) ∧ w.cell? ⟨q, 2, none⟩ = some (.int .i64 r.num) ∧ w.cell? ⟨q, 3, none⟩ = some (.string ⟨r.tube.toArray⟩) ∧ ∀ j, w.frozen? ⟨q, j, none⟩ = false := by
  unfold RepB rpC at h
  exact ⟨cells_at h rfl, cells_at h rfl, cells_at h rfl, fun j => by simp [World.frozen?, h]⟩
theorem RepB.set {w W : World} {q p : Nat} {r : Rp} (h : RepB w q r) (hp : RepB w p rp0) (hne : p ≠ q) (hb : Below W.heap.size W w) (hq : W.heap.size ≤ q) :
    (∀ v : Int, RepB (w.setCell ⟨q, 1, none⟩ (.int .i64 v)) q { r with id := v } ∧ RepB (w.setCell ⟨q, 1, none⟩ (.int .i64 v)) p rp0 ∧ Below W.heap.size W (w.setCell ⟨q, 1, none⟩ (.int .i64 v))) ∧
    (∀ v : Int, RepB (w.setCell ⟨q, 2, none⟩ (.int .i64 v)) q { r with num := v } ∧ RepB (w.setCell ⟨q, 2, none⟩ (.int .i64 v)) p rp0 ∧ Below W.heap.size W (w.setCell ⟨q, 2, none⟩ (.int .i64 v))) ∧
    (∀ v : List UInt8, RepB (w.setCell ⟨q, 3, none⟩ (.string ⟨v.toArray⟩)) q { r with tube := v } ∧ RepB (w.setCell ⟨q, 3, none⟩ (.string ⟨v.toArray⟩)) p rp0 ∧ Below W.heap.size W (w.setCell ⟨q, 3, none⟩ (.string ⟨v.toArray⟩))) := by
  have hp' : ∀ (j : Nat) (v : Value), RepB (w.setCell ⟨q, j, none⟩ v) p rp0 := fun j v => (Below.heap_setCell w ⟨q, j, none⟩ v p hne).trans hp
  refine ⟨fun v => ⟨?_, hp' _ _, hb.setCell hq _⟩, fun v => ⟨?_, hp' _ _, hb.setCell hq _⟩, fun v => ⟨?_, hp' _ _, hb.setCell hq _⟩⟩
  all_goals
    unfold RepB
    rw [(set_cells h _ _).1]
    simp [rpC]

set_option maxHeartbeats 4000000 in
set_option maxRecDepth 1000000 in
theorem parsed_any (a : Option Addr) (c : Nat) (l : List UInt8) (k : Nat) (h1 : 1 ≤ k) (h2 : k ≤ 23) (w : World) (h : IsBytes w a c l) (hl : (lnS k l).st = 0) :
    Calls Tryd.prog 44 #[.slice a l.length c, .int .i64 k] w fun e w' => e = .returned (.tuple #[rpV (lineRp k (lnS k l)) (.slice none 0 0), .int .i64 (sizeR k (lnS k l))]) ∧ Below w.heap.size w w' := by
  have hlen : l.length ≤ 9223372036854775807 := by
    have h1 := h.1
    have h2 := h.2.1
    unfold maxLen at h2
    omega
  have hcap := h.2.1
  unfold maxLen at hcap
  have hc1 := h.1
  have HB : Hid (∀ X, Below w.heap.size w X → IsBytes X a c l) := fun X hX => h.below hX
  clear h
  obtain ⟨ws, hws⟩ : ∃ s : ByteArray, s = ⟨(wordOf k).toArray⟩ := ⟨_, rfl⟩
  have hwz : ws.size = (wordOf k).length := by rw [hws]; rfl
  have CW : Hid (∀ w, Calls Tryd.prog 55 #[.int .i64 k] w fun e w' => e = .returned (.string ws) ∧ Below w.heap.size w w') := fun w => by
    rw [hws, ← wrd_is h1 h2]
    exact refWord_any k w
  obtain ⟨fs, hfs⟩ : ∃ s : ByteArray, s = ⟨(fsOf k).toArray⟩ := ⟨_, rfl⟩
  have hfz : fs.size = (fsOf k).length := by rw [hfs]; rfl
  have hf2 := fields_le k (by omega)
  have HF := hide hfs
  have CF : Hid (∀ w, Calls Tryd.prog 56 #[.int .i64 k] w fun e w' => e = .returned (.string fs) ∧ w' = w) := fun w => by
    rw [hfs, ← fields_of k (by omega)]
    exact refFields_any k w
  clear hws hfs
  have HS := hide (ln_start k l hl)
  have HL := hide hl
  clear hl
  have HK := hide (And.intro h1 h2)
  clear h1 h2
  go_enter Tryd.func44, Tryd.ntmps44
  go_upto_region 3 with fail
  have B0 : Hid (Below w.heap.size w ((w.alloc (.cells #[.int .i64 0, .int .i64 0, .int .i64 0, .string ⟨#[]⟩, .slice none 0 0] 45)).alloc (.cells #[.int .i64 k, .int .i64 0, .int .i64 0, .string ⟨#[]⟩, .slice none 0 0] 45))) := ((Below.refl _ w).alloc (Nat.le_refl _) _).alloc (by simp) _
  have P0 : Hid (RepB ((w.alloc (.cells #[.int .i64 0, .int .i64 0, .int .i64 0, .string ⟨#[]⟩, .slice none 0 0] 45)).alloc (.cells #[.int .i64 k, .int .i64 0, .int .i64 0, .string ⟨#[]⟩, .slice none 0 0] 45)) w.heap.size rp0) := (heap_alloc_old _ _ (by simp)).trans (heap_alloc_new _ _)
  have Q0 : Hid (RepB ((w.alloc (.cells #[.int .i64 0, .int .i64 0, .int .i64 0, .string ⟨#[]⟩, .slice none 0 0] 45)).alloc (.cells #[.int .i64 k, .int .i64 0, .int .i64 0, .string ⟨#[]⟩, .slice none 0 0] 45)) (w.heap.size + 1) ⟨k, 0, 0, [], []⟩) := by
    have := heap_alloc_new (w.alloc (.cells #[.int .i64 0, .int .i64 0, .int .i64 0, .string ⟨#[]⟩, .slice none 0 0] 45)) (.cells #[.int .i64 k, .int .i64 0, .int .i64 0, .string ⟨#[]⟩, .slice none 0 0] 45)
    rw [show (w.alloc (.cells #[.int .i64 0, .int .i64 0, .int .i64 0, .string ⟨#[]⟩, .slice none 0 0] 45)).heap.size = w.heap.size + 1 by simp] at this
    exact this
  generalize (w.alloc (.cells #[.int .i64 0, .int .i64 0, .int .i64 0, .string ⟨#[]⟩, .slice none 0 0] 45)).alloc (.cells #[.int .i64 k, .int .i64 0, .int .i64 0, .string ⟨#[]⟩, .slice none 0 0] 45) = w0 at B0 P0 Q0 ⊢
  obtain ⟨pb, hpb⟩ : ∃ pb, pb = w.heap.size := ⟨_, rfl⟩
  obtain ⟨qb, hqb⟩ : ∃ qb, qb = w.heap.size + 1 := ⟨_, rfl⟩
  rw [← hqb, ← hpb]
  rw [← hpb] at P0
  rw [← hqb] at Q0
  have hpq : pb ≠ qb := by omega
  have HPQ := hide (And.intro hpb (show w.heap.size ≤ qb by omega))
  clear hpb hqb
  go_wp2_with (first
    | (go_at_call 55; refine (CW.out _).mono ?_; rintro e w1 ⟨rfl, b1⟩; have B1 : Hid (Below w.heap.size w w1) := hide (B0.out.trans (b1.mono B0.out.size)); have P1 : Hid (RepB w1 pb rp0) := hide (P0.out.below b1); have Q1 : Hid (RepB w1 qb ⟨k, 0, 0, [], []⟩) := hide (Q0.out.below b1); clear b1)
    | (go_at_call 56; refine (CF.out _).mono ?_; rintro e w2 ⟨rfl, rfl⟩))
  obtain ⟨g1, g2, g3, g4, g5, g6, g7, g8⟩ := HS.out
  obtain ⟨s0, hs0⟩ : ∃ s0, s0 = textS (wordOf k) l st0 := ⟨_, rfl⟩
  rw [← hs0] at g1 g2 g3 g5 g6 g7 g8
  have HS0 : Hid (s0.st = 0 ∧ s0.pos ≤ l.length ∧ lnS k l = textS [13, 10] l (stepsX k l ((fsOf k).drop 0) s0) ∧ s0.pos = (wordOf k).length) := ⟨g2, by rw [g3]; exact g4, by rw [List.drop_zero]; exact g1, g3⟩
  have HQ0 : Hid (RepB w2 qb (lineRp k s0)) := by
    have := Q1.out
    show RepB w2 qb ⟨k, s0.id, s0.num, s0.tube, []⟩
    rw [g5, g6, g7]
    exact this
  clear HS CW CF g1 g2 g3 g4 g5 g6 g7 g8 hs0 Q1 Q0 P0 B0 hwz
  generalize (wordOf k).length = q0 at HS0 ⊢
  go_loopg [7, 8, 10, 11, 12, 13, 14] (fsOf k).length (fun gk v7 v8 v10 v11 v12 v13 v14 wx => ∃ (s : St) (n : Nat) (z : Int), v7 = .int .i64 z ∧ v8 = .int .i64 s.pos ∧ v10 = .int .i64 n ∧ n ≤ (fsOf k).length ∧ (fsOf k).length - n ≤ gk ∧ Hid (s.st = 0 ∧ s.pos ≤ l.length ∧ lnS k l = textS [13, 10] l (stepsX k l ((fsOf k).drop n) s)) ∧ Hid (Below w.heap.size w wx) ∧ Hid (RepB wx pb rp0) ∧ Hid (RepB wx qb (lineRp k s)) ∧ Hid (z = if (66 : UInt8) ∈ (fsOf k).take n then s.size else -1))
  case atStart => exact ⟨s0, 0, -1, rfl, by rw [HS0.out.2.2.2], rfl, Nat.zero_le _, by omega, ⟨HS0.out.1, HS0.out.2.1, HS0.out.2.2.1⟩, B1, P1, HQ0, (by simp : (-1 : Int) = if (66 : UInt8) ∈ (fsOf k).take 0 then s0.size else -1)⟩
  case round =>
    clear HS0 HQ0 P1 B1
    obtain ⟨s, n, z, rfl, rfl, rfl, hn, hgk, HS, BX, PX, QX, HZ⟩ := hrel
    have hpl := HS.out.2.1
    by_cases hlt : n < (fsOf k).length
    · obtain ⟨x, hx⟩ : ∃ x, (fsOf k)[n]? = some x := ⟨_, List.getElem?_eq_getElem hlt⟩
      have hlt2 : n < fs.size := by omega
      have hfn : fs[n] = x := baGet HF.out hlt2 hx
      have hxm : x ∈ fsOf k := List.mem_of_getElem? hx
      have hx4 := fs_letters k x hxm
      have hdx := drop_get hx
      have htk : (fsOf k).take (n + 1) = (fsOf k).take n ++ [x] := by rw [List.take_add_one, hx]; rfl
      have HT : Hid (lnS k l = textS [13, 10] l (stepsX k l ((fsOf k).drop (n + 1)) (stepX k x l s))) := by
        have := HS.out.2.2
        rw [hdx] at this
        exact this
      have G := step_good k (by have := HK.out; omega) l x ((fsOf k).drop (n + 1)) s (fun y hy => fs_letters k y (by rw [← hdx] at hy; exact List.mem_of_mem_drop hy)) HS.out.1 (by have h1 := HL.out; rw [HT.out] at h1; exact h1)
      generalize stepX k x l s = t at G HT
      have e84 : ((x.toNat : Int) == 84) = (x == 84) := by
        rcases hx4 with rfl | rfl | rfl | rfl <;> rfl
      generalize hzz : runR (x == 84) (l.drop (s.pos + 1)) = y at G
      have hsl := G.len
      have hsp := G.pos
      have hat := G.at_
      have hyl : s.pos + 1 + y.length ≤ l.length := by omega
      obtain ⟨S, hS⟩ : ∃ S : ByteArray, S = ⟨y.toArray⟩ := ⟨_, rfl⟩
      have hSl : S.data.toList = y := by rw [hS]
      have hSz : S.size = y.length := by rw [hS]; exact List.size_toArray
      have CE : Hid (∀ X, Below w.heap.size w X → Calls Tryd.prog 57 #[.slice a l.length c, .int .i64 ((s.pos : Int) + 1), .bool (x == 84)] X fun e w' => e = .returned (.int .i64 ((t.pos : Nat) : Int)) ∧ w' = X) := fun X hX => by
        have := refEnd8_any a c (s.pos + 1) l (x == 84) X (HB.out X hX) (by omega)
        rw [hzz, ← hsp] at this
        exact this
      have CP : Hid (∀ X, Calls Tryd.prog 58 #[.string S, .int .i64 4611686018427387903] X fun e w' => e = .returned (.tuple #[.int .i64 (parseV y 4611686018427387903), .bool (parseB y 4611686018427387903)]) ∧ w' = X) := fun X => by
        have := refParse_any S 4611686018427387903 X (by unfold maxLen; omega) (by decide) (by decide)
        rw [hSl] at this
        exact this
      obtain ⟨b, o, hab, _, _⟩ := (HB.out _ BX.out).get (by intro h0; rw [h0] at hat; cases hat)
      subst hab
      have HCV : Hid (∀ X, Below w.heap.size w X → (convert 34 9 (.slice (some ⟨b, o + (s.pos + 1), none⟩) y.length (c - (s.pos + 1)))).run Tryd.prog X = .ok (.string S) X) := fun X hX => by
        rw [hS]
        have hm := ((HB.out X hX).map (s.pos + 1) (by omega)).take y.length
        have hq := (run_split (x == 84) (l.drop (s.pos + 1))).2.1
        rw [hzz] at hq
        rw [hq, addS] at hm
        exact conv_is (l := y) hm rfl
      have hcne : ¬ c = s.pos + 1 := by have := G.ne; omega
      have HN : Hid (∀ t' : Int, (x = 66 → t' = parseV y 4611686018427387903) → (¬ x = 66 → t' = z) → t' = if (66 : UInt8) ∈ (fsOf k).take (n + 1) then t.size else -1) := fun t' h1 h2 => by
        have hz := HZ.out
        have hts := G.size
        rw [htk]
        by_cases h66 : x = 66
        · rw [h1 h66, if_pos (by rw [h66]; simp), hts, if_pos h66]
        · rw [h2 h66, hz, hts, if_neg h66]
          have : ((66 : UInt8) ∈ (fsOf k).take n ++ [x]) ↔ (66 : UInt8) ∈ (fsOf k).take n := by
            simp only [List.mem_append, List.mem_singleton]
            exact ⟨fun h => h.elim id (fun e => absurd e.symm h66), .inl⟩
          by_cases hm : (66 : UInt8) ∈ (fsOf k).take n
          · rw [if_pos hm, if_pos (this.2 hm)]
          · rw [if_neg hm, if_neg (fun h => hm (this.1 h))]
      have HS2 : Hid (t.st = 0 ∧ t.pos ≤ l.length ∧ lnS k l = textS [13, 10] l (stepsX k l ((fsOf k).drop (n + 1)) t)) := ⟨G.st, G.len, HT.out⟩
      have HG := hide G
      have HSS := hide hS
      clear G hzz hdx htk hxm HZ HS HT hx hsl hS
      obtain ⟨c1, c2, c3, fz⟩ := QX.out.cells
      have f1 := fz 1
      have f2 := fz 2
      have f3 := fz 3
      have hqlt := cell_lt c1
      have cv := HCV.out wr BX.out
      have SET := hide (QX.out.set PX.out hpq BX.out HPQ.out.2)
      clear fz
      rcases hx4 with rfl | rfl | rfl | rfl
      all_goals go_wp2_with (first
        | (go_at_call 57; refine (CE.out _ BX.out).mono ?_; rintro e w4 ⟨rfl, rfl⟩)
        | (go_at_call 58; refine (CP.out _).mono ?_; rintro e w4 ⟨rfl, rfl⟩))
      · obtain ⟨r1, r2, r3⟩ := SET.out.1 (parseV y 4611686018427387903)
        rw [show ({ lineRp k s with id := parseV y 4611686018427387903 } : Rp) = lineRp k t by
          unfold lineRp
          rw [HG.out.id, HG.out.num, HG.out.tube]
          rfl] at r1
        go_roundg ((fsOf k).length - (n + 1))
        case measure => omega
        case rel => exact ⟨t, n + 1, z, rfl, by rw [hsp]; go_num, by go_num, hlt, Nat.le_refl _, HS2, r3, r2, r1, HN.out _ (fun h => absurd h (by decide)) (fun _ => rfl)⟩
      · obtain ⟨r1, r2, r3⟩ := SET.out.2.1 (parseV y 4611686018427387903)
        rw [show ({ lineRp k s with num := parseV y 4611686018427387903 } : Rp) = lineRp k t by
          unfold lineRp
          rw [HG.out.id, HG.out.num, HG.out.tube]
          rfl] at r1
        go_roundg ((fsOf k).length - (n + 1))
        case measure => omega
        case rel => exact ⟨t, n + 1, z, rfl, by rw [hsp]; go_num, by go_num, hlt, Nat.le_refl _, HS2, r3, r2, r1, HN.out _ (fun h => absurd h (by decide)) (fun _ => rfl)⟩
      · obtain ⟨r1, r2, r3⟩ := SET.out.2.2 y
        rw [← HSS.out] at r1 r2 r3
        rw [show ({ lineRp k s with tube := y } : Rp) = lineRp k t by
          unfold lineRp
          rw [HG.out.id, HG.out.num, HG.out.tube]
          rfl] at r1
        go_roundg ((fsOf k).length - (n + 1))
        case measure => omega
        case rel => exact ⟨t, n + 1, z, rfl, by rw [hsp]; go_num, by go_num, hlt, Nat.le_refl _, HS2, r3, r2, r1, HN.out _ (fun h => absurd h (by decide)) (fun _ => rfl)⟩
      · have r1 := QX.out
        rw [show lineRp k s = lineRp k t by
          unfold lineRp
          rw [HG.out.id, HG.out.num, HG.out.tube]
          rfl] at r1
        go_roundg ((fsOf k).length - (n + 1))
        case measure => omega
        case rel => exact ⟨t, n + 1, parseV y 4611686018427387903, rfl, by rw [hsp]; go_num, by go_num, hlt, Nat.le_refl _, HS2, BX, PX, r1, HN.out _ (fun _ => rfl) (fun h => (by simp at h))⟩
    · have hdn : (fsOf k).drop n = [] := List.drop_of_length_le (by omega)
      have HE : Hid (lineRp k (lnS k l) = lineRp k s ∧ sizeR k (lnS k l) = z) := by
        have e := HS.out.2.2
        rw [hdn] at e
        obtain ⟨q1, q2⟩ := ln_same k l s
        have e : lnS k l = textS [13, 10] l s := e
        refine ⟨by rw [e]; exact q1, ?_⟩
        unfold sizeR
        rw [e, q2, HZ.out, List.take_of_length_le (by omega)]
        have hb := has_body k (by have := HK.out; omega)
        by_cases hh : 0 < boOf k
        · rw [if_pos hh, if_pos (by rw [decide_eq_true hh] at hb; simpa using hb)]
        · rw [if_neg hh, if_neg (by rw [decide_eq_false hh] at hb; simpa using hb)]
      clear hdn HZ HS
      go_wp2_with (first
        | (refine wpList_load_row rfl 45 (.tmp 6) rfl qb rfl 45 (rpC (lineRp k s)) (0, 0) _ QX.out Tryd.underlying45 rfl (by kernel_rfl) ?_)
        | (refine wpList_store_row rfl 45 (.tmp 4) (.tmp 64) rfl pb (rpC (lineRp k s)) rfl rfl 45 (rpC rp0) PX.out (by kernel_rfl) rfl (by simp [rpC, Value.oneCell']) ?_))
      refine bodyPost_ret (results_ct_row rfl _ _ pb 45 _ (0, 0) _ rfl (setRow_heap _ _ _ _ _ _ PX.out) Tryd.underlying45 rfl (by kernel_rfl)) rfl ?_
      exact ⟨by rw [HE.out.1, HE.out.2]; rfl, below_setRow BX.out (by rw [HPQ.out.1]; exact Nat.le_refl _) _⟩
end Go.Proofs.YtomgnailgddchaaDoor
