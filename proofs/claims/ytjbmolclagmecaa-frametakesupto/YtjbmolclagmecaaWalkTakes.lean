/-
  The walk of the statement on Take.
-/
import Derived.Test.YtjbmolclagmecaaShown
import Derived.Test.YtjbmolclagmecaaLawState
import Derived.Test.YtjbmolclagmecaaRefTake
import Derived.Test.YtjbmolclagmecaaPlainFrame
namespace Go.Proofs.Ytjbmolclagmecaa.frameTakes
open Go.RowKit Go.Lib

theorem takeL_le (f p : Int) (l : List UInt8) : (takeL f p l).length ≤ 66008 := by
  by_cases h : takeE f p l = 0
  · have hl : (takeL f p l).length ≤ takeLen l := by
      unfold takeL
      rw [if_pos h]
      simp [takePay]
      omega
    have hb : lenB (takeLen l) = true := by
      cases hh : lenB (takeLen l) with
      | true => rfl
      | false =>
        exfalso
        unfold takeE at h
        rw [hh] at h
        split at h
        · split at h
          · simp at h
          · split at h
            · simp at h
            · simp at h
        · simp at h
    have := lenB_yes hb
    omega
  · unfold takeL
    rw [if_neg h]
    simp

set_option maxHeartbeats 4000000 in
set_option maxRecDepth 1000000 in
theorem walk (f p : Int) (a : Option Addr) (c : Nat) (l : List UInt8) (a' : Option Addr) (c' : Nat) (r : List UInt8) (w : World) (_hf : -9223372036854775808 ≤ f ∧ f ≤ 9223372036854775807) (_hp : -9223372036854775808 ≤ p ∧ p ≤ 9223372036854775807)
    (h1 : IsBytes w a c l ∧ (a = none → c = 0)) (h2 : IsBytes w a' c' r ∧ (a' = none → c' = 0)) (hk1 : l.length ≤ 1048576) (_hk2 : r.length ≤ 1048576) :
    Calls Try.prog 5 #[.int .i64 f, .int .i64 p, .slice a l.length c, .slice a' r.length c'] w fun e w' => e = .returned (.bool true) ∧ Below w.heap.size w w' := by
  have H1 : Hid (IsBytes w a c l) := h1.1
  have H2 : Hid (IsBytes w a' c' r) := h2.1
  clear h1 h2
  go_enter Try.func5, Try.ntmps5
  go_wp2_with fail
  refine (shown_any _).mono ?_
  rintro e w1 ⟨rfl, B1⟩
  have HB1 : Hid (Below w.heap.size w w1) := B1
  have hz1 := B1.size
  clear B1
  go_wp2_with fail
  refine (lent_any a c l _ (H1.out.below (HB1.out.alloc hz1 _)) (by omega)).mono ?_
  rintro e w2 ⟨g, cap, rfl, own2, B2⟩
  have LS2 : Hid (LS w w2 (fun k => if k = w1.heap.size then .box else .user 0) w1.heap.size g cap (l.length + 8) (l ++ marks 8) []) := LS.start HB1.out g cap _ _ (by simpa using B2) (by simpa using own2)
  have hcap : l.length ≤ cap := by have := own2.is.1.1; simp at this; omega
  clear own2 B2
  go_wp2_with fail
  go_loopw [12] (fun i wr => ∃ (k : Nat) (lab : Nat → Tag) (es : List Ent), k ≤ 3 ∧ i = .int .i64 k ∧ es.length = k ∧ LS w wr lab w1.heap.size g cap (l.length + 8) (l ++ marks 8) es) (fun i _ => 3 - (intOf i).toNat)
  case atStart => exact ⟨0, _, [], by omega, rfl, rfl, LS2.out⟩
  case round =>
    obtain ⟨k, lab, es, hk, rfl, hel, hls⟩ := hrel
    have LSK : Hid (LS w wr lab w1.heap.size g cap (l.length + 8) (l ++ marks 8) es) := hls
    clear hls LS2
    by_cases hk3 : k < 3
    · by_cases hk1' : k = 1
      · have hkb : ((k : Int) == 1) = true := by simp [hk1']
        go_wp2_with fail
        refine (take_any f p (some ⟨g, 0, none⟩) cap l wr LSK.out.2.2.1.is.1.head).mono ?_
        rintro e wa ⟨va, rfl, owna, Ba⟩
        obtain ⟨aa, ca, rfl, _⟩ := owna.shape
        have LSa : Hid (LS w wa lab w1.heap.size g cap (l.length + 8) (l ++ marks 8) es) := LSK.out.below Ba
        clear owna Ba
        go_wp2_with fail
        refine (refTake_any f p a c l wa (H1.out.below LSa.out.1)).mono ?_
        rintro e wb ⟨vb, rfl, ownb, Bb⟩
        obtain ⟨ab, cb, rfl, _⟩ := ownb.shape
        have LSb : Hid (LS w wb lab w1.heap.size g cap (l.length + 8) (l ++ marks 8) es) := LSa.out.below Bb
        clear ownb Bb LSa LSK
        go_wp2_with fail
        refine (take_any f p a' c' r wb (H2.out.below LSb.out.1)).mono ?_
        rintro e w3 ⟨v3, rfl, own3, B3⟩
        obtain ⟨a3, c3, rfl, is3⟩ := own3.shape
        obtain ⟨ls3, ow3, tg3⟩ := LSb.out.label B3 own3
        have LS3 : Hid (LS w w3 (fun k => if k < wb.heap.size then lab k else .out es.length) w1.heap.size g cap (l.length + 8) (l ++ marks 8) es) := ls3
        have OW3 : Hid (Own w3 w.heap.size (.slice a3 (takeL f p r).length c3) (takeL f p r)) := ow3
        have TG3 : Hid (Tagged (fun k => if k < wb.heap.size then lab k else .out es.length) (.slice a3 (takeL f p r).length c3) (.out es.length)) := tg3
        clear is3 own3 B3 ls3 ow3 tg3
        go_wp2_with fail
        refine (refTake_any f p a' c' r w3 (H2.out.below LS3.out.1)).mono ?_
        rintro e w4 ⟨v4, rfl, own4, B4⟩
        obtain ⟨a4, c4, rfl, is4⟩ := own4.shape
        have LS4 : Hid (LS w w4 (fun k => if k < wb.heap.size then lab k else .out es.length) w1.heap.size g cap (l.length + 8) (l ++ marks 8) es) := LS3.out.below B4
        have OW4 : Hid (Own w4 w.heap.size (.slice a3 (takeL f p r).length c3) (takeL f p r)) := OW3.out.below B4
        have IS4 : Hid (IsBytes w4 a4 c4 (takeL f p r)) := is4
        have hz4 := LS4.out.1.size
        clear is4 own4 B4 LS3 OW3
        go_wp2_with fail
        refine (same_yes _ _ _ _ (takeL f p r) w4 (by obtain ⟨_, _, hq, h⟩ := OW4.out.shape; simp only [Value.slice.injEq] at hq; obtain ⟨rfl, _, rfl⟩ := hq; exact h) IS4.out).mono ?_
        rintro e w5 ⟨rfl, n5, hW⟩
        have B5 : Below w4.heap.size w4 w5 := by rw [hW]; exact below_drewN (Below.refl _ w4) n5
        have LS5 : Hid (LS w w5 (fun k => if k < wb.heap.size then lab k else .out es.length) w1.heap.size g cap (l.length + 8) (l ++ marks 8) es) := LS4.out.below B5
        have OW5 : Hid (Own w5 w.heap.size (.slice a3 (takeL f p r).length c3) (takeL f p r)) := OW4.out.below B5
        clear hW B5 LS4 OW4 IS4
        go_wp2_with fail
        refine (still_any (some ⟨g, 0, none⟩) cap a c l w5 LS5.out.2.2.1.is.1 (H1.out.below LS5.out.1)).mono ?_
        rintro e w6 ⟨rfl, n6, hW⟩
        have B6 : Below w5.heap.size w5 w6 := by rw [hW]; exact below_drewN (Below.refl _ w5) n6
        have LS6 : Hid (LS w w6 (fun k => if k < wb.heap.size then lab k else .out es.length) w1.heap.size g cap (l.length + 8) (l ++ marks 8) es) := LS5.out.below B6
        have OW6 : Hid (Own w6 w.heap.size (.slice a3 (takeL f p r).length c3) (takeL f p r)) := OW5.out.below B6
        clear hW B6 LS5 OW5
        go_wp2_with fail
        refine (holds_any w6 _ _ _ 0 es LS6.out.2.1).mono ?_
        rintro e w7 ⟨rfl, n7, hW⟩
        have B7 : Below w6.heap.size w6 w7 := by rw [hW]; exact below_drewN (Below.refl _ w6) n7
        have LS7 : Hid (LS w w7 (fun k => if k < wb.heap.size then lab k else .out es.length) w1.heap.size g cap (l.length + 8) (l ++ marks 8) es) := LS6.out.below B7
        have OW7 : Hid (Own w7 w.heap.size (.slice a3 (takeL f p r).length c3) (takeL f p r)) := OW6.out.below B7
        have hz7 := LS7.out.1.size
        clear hW B7 LS6 OW6
        go_wp2_with fail
        refine (keep_any w7 w.heap.size _ w1.heap.size 0 es a3 c3 (takeL f p r) LS7.out.2.1 hz7 OW7.out TG3.out (by have := takeL_le f p r; omega) (by omega)).mono ?_
        rintro e w8 ⟨rfl, lab8, cw8, hh8, hl8, hk8⟩
        have LS8 : Hid (LS w w8 lab8 w1.heap.size g cap (l.length + 8) (l ++ marks 8) (es ++ [⟨.slice a3 (takeL f p r).length c3, cw8, takeL f p r⟩])) := LS7.out.kept hh8 hl8 hk8 (by have := takeL_le f p r; simp only []; omega)
        clear hh8 hl8 hk8 LS7 OW7 TG3
        go_wp2
        go_roundw
        case rel => exact ⟨k + 1, lab8, _, by omega, by go_num, by simp [hel], LS8.out⟩
        case measure => simp [intOf]; omega
      · have hkb : ((k : Int) == 1) = false := by rw [beq_eq_false_iff_ne]; omega
        go_wp2_with fail
        refine (take_any f p (some ⟨g, 0, none⟩) cap l wr LSK.out.2.2.1.is.1.head).mono ?_
        rintro e w3 ⟨v3, rfl, own3, B3⟩
        obtain ⟨a3, c3, rfl, is3⟩ := own3.shape
        obtain ⟨ls3, ow3, tg3⟩ := LSK.out.label B3 own3
        have LS3 : Hid (LS w w3 (fun k => if k < wr.heap.size then lab k else .out es.length) w1.heap.size g cap (l.length + 8) (l ++ marks 8) es) := ls3
        have OW3 : Hid (Own w3 w.heap.size (.slice a3 (takeL f p l).length c3) (takeL f p l)) := ow3
        have TG3 : Hid (Tagged (fun k => if k < wr.heap.size then lab k else .out es.length) (.slice a3 (takeL f p l).length c3) (.out es.length)) := tg3
        clear is3 own3 B3 ls3 ow3 tg3
        go_wp2_with fail
        refine (refTake_any f p a c l w3 (H1.out.below LS3.out.1)).mono ?_
        rintro e w4 ⟨v4, rfl, own4, B4⟩
        obtain ⟨a4, c4, rfl, is4⟩ := own4.shape
        have LS4 : Hid (LS w w4 (fun k => if k < wr.heap.size then lab k else .out es.length) w1.heap.size g cap (l.length + 8) (l ++ marks 8) es) := LS3.out.below B4
        have OW4 : Hid (Own w4 w.heap.size (.slice a3 (takeL f p l).length c3) (takeL f p l)) := OW3.out.below B4
        have IS4 : Hid (IsBytes w4 a4 c4 (takeL f p l)) := is4
        have hz4 := LS4.out.1.size
        clear is4 own4 B4 LS3 OW3
        go_wp2_with fail
        refine (same_yes _ _ _ _ (takeL f p l) w4 (by obtain ⟨_, _, hq, h⟩ := OW4.out.shape; simp only [Value.slice.injEq] at hq; obtain ⟨rfl, _, rfl⟩ := hq; exact h) IS4.out).mono ?_
        rintro e w5 ⟨rfl, n5, hW⟩
        have B5 : Below w4.heap.size w4 w5 := by rw [hW]; exact below_drewN (Below.refl _ w4) n5
        have LS5 : Hid (LS w w5 (fun k => if k < wr.heap.size then lab k else .out es.length) w1.heap.size g cap (l.length + 8) (l ++ marks 8) es) := LS4.out.below B5
        have OW5 : Hid (Own w5 w.heap.size (.slice a3 (takeL f p l).length c3) (takeL f p l)) := OW4.out.below B5
        clear hW B5 LS4 OW4 IS4
        go_wp2_with fail
        refine (still_any (some ⟨g, 0, none⟩) cap a c l w5 LS5.out.2.2.1.is.1 (H1.out.below LS5.out.1)).mono ?_
        rintro e w6 ⟨rfl, n6, hW⟩
        have B6 : Below w5.heap.size w5 w6 := by rw [hW]; exact below_drewN (Below.refl _ w5) n6
        have LS6 : Hid (LS w w6 (fun k => if k < wr.heap.size then lab k else .out es.length) w1.heap.size g cap (l.length + 8) (l ++ marks 8) es) := LS5.out.below B6
        have OW6 : Hid (Own w6 w.heap.size (.slice a3 (takeL f p l).length c3) (takeL f p l)) := OW5.out.below B6
        clear hW B6 LS5 OW5
        go_wp2_with fail
        refine (holds_any w6 _ _ _ 0 es LS6.out.2.1).mono ?_
        rintro e w7 ⟨rfl, n7, hW⟩
        have B7 : Below w6.heap.size w6 w7 := by rw [hW]; exact below_drewN (Below.refl _ w6) n7
        have LS7 : Hid (LS w w7 (fun k => if k < wr.heap.size then lab k else .out es.length) w1.heap.size g cap (l.length + 8) (l ++ marks 8) es) := LS6.out.below B7
        have OW7 : Hid (Own w7 w.heap.size (.slice a3 (takeL f p l).length c3) (takeL f p l)) := OW6.out.below B7
        have hz7 := LS7.out.1.size
        clear hW B7 LS6 OW6
        go_wp2_with fail
        refine (keep_any w7 w.heap.size _ w1.heap.size 0 es a3 c3 (takeL f p l) LS7.out.2.1 hz7 OW7.out TG3.out (by have := takeL_le f p l; omega) (by omega)).mono ?_
        rintro e w8 ⟨rfl, lab8, cw8, hh8, hl8, hk8⟩
        have LS8 : Hid (LS w w8 lab8 w1.heap.size g cap (l.length + 8) (l ++ marks 8) (es ++ [⟨.slice a3 (takeL f p l).length c3, cw8, takeL f p l⟩])) := LS7.out.kept hh8 hl8 hk8 (by have := takeL_le f p l; simp only []; omega)
        clear hh8 hl8 hk8 LS7 OW7 TG3
        go_wp2
        go_roundw
        case rel => exact ⟨k + 1, lab8, _, by omega, by go_num, by simp [hel], LS8.out⟩
        case measure => simp [intOf]; omega
    · have hes3 : es.length ≤ 3 := by omega
      clear hk
      by_cases hl0 : 0 < l.length
      · obtain ⟨x, hx⟩ : ∃ x, l[l.length - 1]? = some x := ⟨_, List.getElem?_eq_getElem (by omega)⟩
        have hc : wr.cell? ⟨g, l.length - 1, none⟩ = some (.int .u8 (x.toNat : Int)) := LSK.out.2.2.1.cell _ x (by rw [List.getElem?_append_left (by omega)]; exact hx)
        have hf : wr.frozen? ⟨g, l.length - 1, none⟩ = false := LSK.out.2.2.1.frozen _
        obtain ⟨y, hy⟩ : ∃ y, y = x ^^^ 33 := ⟨_, rfl⟩
        have e33 : bits .xor .u8 (x.toNat : Int) 33 = (y.toNat : Int) := by rw [hy]; exact xor33 x
        have hset := LSK.out.set (l.length - 1) y
        rw [List.set_append_left _ _ (by omega)] at hset
        obtain ⟨m, hm⟩ : ∃ m, m = l.set (l.length - 1) y := ⟨_, rfl⟩
        rw [← hm] at hset
        have LSM : Hid (LS w (wr.setCell ⟨g, l.length - 1, none⟩ (.int .u8 (y.toNat : Int))) lab w1.heap.size g cap (l.length + 8) (m ++ marks 8) es) := hset
        have HML : Hid (m.length = l.length) := by rw [hm]; show _ = _; simp
        clear hset hy hx hm LSK
        go_wp2_with fail
        obtain ⟨ws, hws⟩ : ∃ ws, ws = wr.setCell ⟨g, l.length - 1, none⟩ (.int .u8 (y.toNat : Int)) := ⟨_, rfl⟩
        rw [← hws]
        rw [← hws] at LSM
        clear hws hc hf
        have hmk := take_any f p (some ⟨g, 0, none⟩) cap m ws LSM.out.2.2.1.is.1.head
        rw [HML.out] at hmk
        refine hmk.mono ?_
        clear hmk
        rintro e w3 ⟨v3, rfl, own3, B3⟩
        obtain ⟨a3, c3, rfl, is3⟩ := own3.shape
        obtain ⟨ls3, ow3, tg3⟩ := LSM.out.label B3 own3
        have LS3 : Hid (LS w w3 (fun k => if k < ws.heap.size then lab k else .out es.length) w1.heap.size g cap (l.length + 8) (m ++ marks 8) es) := ls3
        have OW3 : Hid (Own w3 w.heap.size (.slice a3 (takeL f p m).length c3) (takeL f p m)) := ow3
        have TG3 : Hid (Tagged (fun k => if k < ws.heap.size then lab k else .out es.length) (.slice a3 (takeL f p m).length c3) (.out es.length)) := tg3
        clear is3 own3 B3 ls3 ow3 tg3
        go_wp2_with fail
        have hcp := copied_any (some ⟨g, 0, none⟩) cap m w3 LS3.out.2.2.1.is.1.head (by rw [HML.out]; omega)
        rw [HML.out] at hcp
        refine hcp.mono ?_
        clear hcp
        rintro e wc ⟨vc, rfl, ownc, Bc, _⟩
        obtain ⟨ac, cc, hvc, isc⟩ := ownc.shape
        rw [HML.out] at hvc
        subst hvc
        have LSC : Hid (LS w wc (fun k => if k < ws.heap.size then lab k else .out es.length) w1.heap.size g cap (l.length + 8) (m ++ marks 8) es) := LS3.out.below Bc
        have OWC : Hid (Own wc w.heap.size (.slice a3 (takeL f p m).length c3) (takeL f p m)) := OW3.out.below Bc
        have ISC : Hid (IsBytes wc ac cc m) := isc
        clear ownc Bc isc LS3 OW3
        go_wp2_with fail
        have hrm := refTake_any f p ac cc m wc ISC.out
        rw [HML.out] at hrm
        refine hrm.mono ?_
        clear hrm
        rintro e w4 ⟨v4, rfl, own4, B4⟩
        obtain ⟨a4, c4, rfl, is4⟩ := own4.shape
        have LS4 : Hid (LS w w4 (fun k => if k < ws.heap.size then lab k else .out es.length) w1.heap.size g cap (l.length + 8) (m ++ marks 8) es) := LSC.out.below B4
        have OW4 : Hid (Own w4 w.heap.size (.slice a3 (takeL f p m).length c3) (takeL f p m)) := OWC.out.below B4
        have IS4 : Hid (IsBytes w4 a4 c4 (takeL f p m)) := is4
        clear is4 own4 B4 LSC OWC ISC
        go_wp2_with fail
        refine (same_yes _ _ _ _ (takeL f p m) w4 (by obtain ⟨_, _, hq, h⟩ := OW4.out.shape; simp only [Value.slice.injEq] at hq; obtain ⟨rfl, _, rfl⟩ := hq; exact h) IS4.out).mono ?_
        rintro e w5 ⟨rfl, n5, hW⟩
        have B5 : Below w4.heap.size w4 w5 := by rw [hW]; exact below_drewN (Below.refl _ w4) n5
        have LS5 : Hid (LS w w5 (fun k => if k < ws.heap.size then lab k else .out es.length) w1.heap.size g cap (l.length + 8) (m ++ marks 8) es) := LS4.out.below B5
        have OW5 : Hid (Own w5 w.heap.size (.slice a3 (takeL f p m).length c3) (takeL f p m)) := OW4.out.below B5
        have hz5 := LS5.out.1.size
        clear hW B5 LS4 OW4 IS4
        go_wp2_with fail
        refine (keep_any w5 w.heap.size _ w1.heap.size 0 es a3 c3 (takeL f p m) LS5.out.2.1 hz5 OW5.out TG3.out (by have := takeL_le f p m; omega) (by omega)).mono ?_
        rintro e w8 ⟨rfl, lab8, cw8, hh8, hl8, hk8⟩
        have LS8 : Hid (LS w w8 lab8 w1.heap.size g cap (l.length + 8) (m ++ marks 8) (es ++ [⟨.slice a3 (takeL f p m).length c3, cw8, takeL f p m⟩])) := LS5.out.kept hh8 hl8 hk8 (by have := takeL_le f p m; simp only []; omega)
        have hz8 := LS8.out.1.size
        clear hh8 hl8 hk8 LS5 OW5 TG3
        go_wp2_with fail
        refine (spoil_any w8 w.heap.size lab8 w1.heap.size _ LS8.out.2.1 hz8 (by simp; omega) LS8.out.2.2.2.2.1).mono ?_
        rintro e w9 ⟨rfl, k9⟩
        have B9 : Hid (Below w.heap.size w w9) := LS8.out.ends k9
        clear k9
        go_wp2
        go_ret
        exact ⟨rfl, B9.out⟩
      · have hm0 : l.length ≤ 0 := by omega
        obtain ⟨m, hm⟩ : ∃ m, m = l := ⟨_, rfl⟩
        have LSM : Hid (LS w wr lab w1.heap.size g cap (l.length + 8) (m ++ marks 8) es) := by rw [hm]; exact LSK.out
        have HML : Hid (m.length = l.length) := by rw [hm]; rfl
        clear hm LSK
        go_wp2_with fail
        have hmk := take_any f p (some ⟨g, 0, none⟩) cap m wr LSM.out.2.2.1.is.1.head
        rw [HML.out] at hmk
        refine hmk.mono ?_
        clear hmk
        rintro e w3 ⟨v3, rfl, own3, B3⟩
        obtain ⟨a3, c3, rfl, is3⟩ := own3.shape
        obtain ⟨ls3, ow3, tg3⟩ := LSM.out.label B3 own3
        have LS3 : Hid (LS w w3 (fun k => if k < wr.heap.size then lab k else .out es.length) w1.heap.size g cap (l.length + 8) (m ++ marks 8) es) := ls3
        have OW3 : Hid (Own w3 w.heap.size (.slice a3 (takeL f p m).length c3) (takeL f p m)) := ow3
        have TG3 : Hid (Tagged (fun k => if k < wr.heap.size then lab k else .out es.length) (.slice a3 (takeL f p m).length c3) (.out es.length)) := tg3
        clear is3 own3 B3 ls3 ow3 tg3
        go_wp2_with fail
        have hcp := copied_any (some ⟨g, 0, none⟩) cap m w3 LS3.out.2.2.1.is.1.head (by rw [HML.out]; omega)
        rw [HML.out] at hcp
        refine hcp.mono ?_
        clear hcp
        rintro e wc ⟨vc, rfl, ownc, Bc, _⟩
        obtain ⟨ac, cc, hvc, isc⟩ := ownc.shape
        rw [HML.out] at hvc
        subst hvc
        have LSC : Hid (LS w wc (fun k => if k < wr.heap.size then lab k else .out es.length) w1.heap.size g cap (l.length + 8) (m ++ marks 8) es) := LS3.out.below Bc
        have OWC : Hid (Own wc w.heap.size (.slice a3 (takeL f p m).length c3) (takeL f p m)) := OW3.out.below Bc
        have ISC : Hid (IsBytes wc ac cc m) := isc
        clear ownc Bc isc LS3 OW3
        go_wp2_with fail
        have hrm := refTake_any f p ac cc m wc ISC.out
        rw [HML.out] at hrm
        refine hrm.mono ?_
        clear hrm
        rintro e w4 ⟨v4, rfl, own4, B4⟩
        obtain ⟨a4, c4, rfl, is4⟩ := own4.shape
        have LS4 : Hid (LS w w4 (fun k => if k < wr.heap.size then lab k else .out es.length) w1.heap.size g cap (l.length + 8) (m ++ marks 8) es) := LSC.out.below B4
        have OW4 : Hid (Own w4 w.heap.size (.slice a3 (takeL f p m).length c3) (takeL f p m)) := OWC.out.below B4
        have IS4 : Hid (IsBytes w4 a4 c4 (takeL f p m)) := is4
        clear is4 own4 B4 LSC OWC ISC
        go_wp2_with fail
        refine (same_yes _ _ _ _ (takeL f p m) w4 (by obtain ⟨_, _, hq, h⟩ := OW4.out.shape; simp only [Value.slice.injEq] at hq; obtain ⟨rfl, _, rfl⟩ := hq; exact h) IS4.out).mono ?_
        rintro e w5 ⟨rfl, n5, hW⟩
        have B5 : Below w4.heap.size w4 w5 := by rw [hW]; exact below_drewN (Below.refl _ w4) n5
        have LS5 : Hid (LS w w5 (fun k => if k < wr.heap.size then lab k else .out es.length) w1.heap.size g cap (l.length + 8) (m ++ marks 8) es) := LS4.out.below B5
        have OW5 : Hid (Own w5 w.heap.size (.slice a3 (takeL f p m).length c3) (takeL f p m)) := OW4.out.below B5
        have hz5 := LS5.out.1.size
        clear hW B5 LS4 OW4 IS4
        go_wp2_with fail
        refine (keep_any w5 w.heap.size _ w1.heap.size 0 es a3 c3 (takeL f p m) LS5.out.2.1 hz5 OW5.out TG3.out (by have := takeL_le f p m; omega) (by omega)).mono ?_
        rintro e w8 ⟨rfl, lab8, cw8, hh8, hl8, hk8⟩
        have LS8 : Hid (LS w w8 lab8 w1.heap.size g cap (l.length + 8) (m ++ marks 8) (es ++ [⟨.slice a3 (takeL f p m).length c3, cw8, takeL f p m⟩])) := LS5.out.kept hh8 hl8 hk8 (by have := takeL_le f p m; simp only []; omega)
        have hz8 := LS8.out.1.size
        clear hh8 hl8 hk8 LS5 OW5 TG3
        go_wp2_with fail
        refine (spoil_any w8 w.heap.size lab8 w1.heap.size _ LS8.out.2.1 hz8 (by simp; omega) LS8.out.2.2.2.2.1).mono ?_
        rintro e w9 ⟨rfl, k9⟩
        have B9 : Hid (Below w.heap.size w w9) := LS8.out.ends k9
        clear k9
        go_wp2
        go_ret
        exact ⟨rfl, B9.out⟩
end Go.Proofs.Ytjbmolclagmecaa.frameTakes
