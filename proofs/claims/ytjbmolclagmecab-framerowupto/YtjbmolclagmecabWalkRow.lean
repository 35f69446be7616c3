/-
  The walk of the statement that frames that were made one behind the other are given just so.
-/
import Derived.Test.YtjbmolclagmecabShown
import Derived.Test.YtjbmolclagmecabMay
import Derived.Test.YtjbmolclagmecabRowRange
import Derived.Test.YtjbmolclagmecabSame
import Derived.Test.YtjbmolclagmecabRound
namespace Go.Proofs.Ytjbmolclagmecab
open Go.RowKit Go.Lib

theorem Nums.cellsAt {w : World} {B : Nat} {a : Option Addr} {c : Nat} {l : List Nat} {j0 x0 : Nat} (h : Nums w B (.slice a l.length c) l) (h0 : l[j0]? = some x0) : ∃ g, a = some ⟨g, 0, none⟩ ∧ l.length ≤ c ∧ ∀ (j x : Nat), l[j]? = some x → w.cell? ⟨g, j, none⟩ = some (.int .i64 (x : Int)) := by
  have hl : 0 < l.length := by have := (List.getElem?_eq_some_iff.1 h0).1; omega
  have h' := h
  rcases h.2 with ⟨h1, _⟩ | ⟨g, cap, cur, hv, hB, hgc, hn, hrest⟩
  · injection h1; omega
  · cases hv
    refine ⟨g, rfl, hn, fun j x hj => ?_⟩
    have hjl := (List.getElem?_eq_some_iff.1 hj).1
    rw [World.ownsRow.cellAt h' j (by omega)]
    simp [i64s, hj]
end Go.Proofs.Ytjbmolclagmecab
namespace Go.Proofs.Ytjbmolclagmecab.frameRow
open Go.RowKit Go.Lib

attribute [local go_sem] Oper.semAt_some wide_fn
set_option maxHeartbeats 2000000 in
set_option maxRecDepth 1000000 in
theorem walk (f : Int) (a : Option Addr) (c : Nat) (ls : List (List UInt8)) (a' : Option Addr) (c' : Nat) (r : List UInt8) (w : World) (hf : -9223372036854775808 ≤ f ∧ f ≤ 9223372036854775807)
    (h1 : IsRows w a c ls) (h2 : IsBytes w a' c' r ∧ (a' = none → c' = 0)) (ht : tot ls ≤ 9437184) (hr : r.length ≤ 1048576) :
    Calls Try.prog 4 #[.int .i64 f, .slice a ls.length c, .slice a' r.length c'] w fun e w' => e = .returned (.bool true) ∧ Below w.heap.size w w' := by
  have H1 : Hid (IsRows w a c ls) := h1
  have H2 : Hid (IsBytes w a' c' r) := h2.1
  have HC : Hid (a' = none → c' = 0) := h2.2
  have HT : Hid (tot ls ≤ 9437184) := ht
  clear h1 h2 ht
  refine (callsIn_wide (n := 3)).1 ?_
  refine callsIn_of_wp_marks Try.func4 rfl trivial ?_ rfl
  simp only [Try.ntmps4, List.size_toArray, List.length_cons, List.length_nil, Nat.reduceAdd, Nat.reduceSub, Array.replicate_succ, Array.replicate_zero, List.push_toArray, List.append_toArray, List.nil_append, List.cons_append]
  refine wpIn_wide.2 ?_
  go_wp2_with fail
  obtain ⟨W2, hW2⟩ : ∃ W2, W2 = (w.alloc (.cells #[.slice a ls.length c] 31)).alloc (.cells #[.bool false] 4) := ⟨_, rfl⟩
  rw [← hW2]
  have hz2 : W2.heap.size = w.heap.size + 2 := by rw [hW2]; simp
  have B2 : Below w.heap.size w W2 := by rw [hW2]; exact ((Below.refl _ w).alloc (Nat.le_refl _) _).alloc (by simp) _
  have b4 : Boxed W2 w.heap.size 31 (.slice a ls.length c) := by rw [hW2]; exact (Boxed.new w _ _).alloc _
  have b6 : Boxed W2 (w.heap.size + 1) 4 (.bool false) := by rw [hW2]; have := Boxed.new (w.alloc (.cells #[.slice a ls.length c] 31)) 4 (.bool false); rwa [World.size_alloc] at this
  clear hW2
  refine (beyond_any a c ls W2 (H1.out.below B2) (by have := HT.out; omega)).mono ?_
  rintro e w1 ⟨rfl, hW⟩
  have hW := hW.symm
  subst hW
  go_wp2_with fail
  refine (shown_any _).mono ?_
  rintro e w3 ⟨rfl, B3⟩
  have hz3 := B3.size
  have B03 : Below w.heap.size w w3 := B2.trans (B3.mono B2.size)
  have g3 : Boxed w3 w.heap.size 31 (.slice a ls.length c) := b4.kept (grown_of_below B3) (by simp)
  have g6 : Boxed w3 (w.heap.size + 1) 4 (.bool false) := b6.kept (grown_of_below B3) (by simp)
  obtain ⟨W4, hW4⟩ : ∃ W4, W4 = ((w3.alloc (.cells #[] 5)).alloc (.cells #[] 3)).alloc (.cells #[.slice (some ⟨w3.heap.size + 1, 0, none⟩) 0 0] 33) := ⟨_, rfl⟩
  have INV0 : Hid (RowInv f a c ls w (w3.heap.size + 1 + 1) 0 (.slice (some ⟨w3.heap.size, 0, none⟩) 0 0) (.slice (some ⟨w3.heap.size + 1, 0, none⟩) 0 0) W4) := by
    rw [hW4]
    refine ⟨((g3.alloc _).alloc _).alloc _, ((g6.alloc _).alloc _).alloc _, ?_, by omega, ?_, ?_, ((B03.alloc B03.size _).alloc (by simp; omega) _).alloc (by simp; omega) _⟩
    · have := Boxed.new ((w3.alloc (.cells #[] 5)).alloc (.cells #[] 3)) 33 (.slice (some ⟨w3.heap.size + 1, 0, none⟩) 0 0)
      simpa using this
    · exact World.ownsRow.alloc (World.ownsRow.alloc (Own.lit w3 _ (by omega)) _) _
    · have := World.ownsRow_made (base := w.heap.size + 2) (e := 3) (size := 1) (w3.alloc (.cells #[] 5)) #[] 0 (by simp; omega) (by unfold maxLen; omega) (by simp)
      rw [World.size_alloc] at this
      exact World.ownsRow.alloc this _
  have c4 := g3.cell
  have c6 := g6.cell
  clear B2 b4 b6 B3 hz2
  go_wp2_with fail
  rw [← hW4]
  clear hW4
  obtain ⟨b8, hb8⟩ : ∃ b8, b8 = w3.heap.size + 1 + 1 := ⟨_, rfl⟩
  rw [← hb8] at INV0 ⊢
  clear hb8 c4 c6 g3 g6 B03 hz3
  have hll := tot_len ls
  have hlen : ls.length ≤ 1048576 := by have := HT.out; omega
  clear hll
  go_loopw [7, 9] (fun v i wr => ∃ (k : Nat) (v8 : Value), k ≤ ls.length ∧ i = .int .i64 k ∧ RowInv f a c ls w b8 k v v8 wr) (fun _ i _ => ls.length - (intOf i).toNat)
  case atStart => exact ⟨0, _, Nat.zero_le _, rfl, INV0.out⟩
  case round =>
    obtain ⟨k, v8, hk, rfl, inv⟩ := hrel
    have INV := inv
    have c4 := inv.b4.cell
    have c8 := inv.bx8.cell
    have f8 := inv.bx8.frozen
    obtain ⟨a7, c7, hv7, is7⟩ := inv.own.shape
    have hbd := row_bounds f ls k
    have hA : (rowAt f ls k).2.length ≤ 9437184 := by have := HT.out; have := tot_le ls k; omega
    have hM : (rowAt f ls k).1.length ≤ 1048576 := by omega
    clear hbd
    subst hv7
    obtain ⟨n7, hn7⟩ : ∃ n7, n7 = (rowAt f ls k).2.length := ⟨_, rfl⟩
    rw [← hn7] at hA inv ⊢
    have HINV : Hid (RowInv f a c ls w b8 k (.slice a7 n7 c7) v8 wr) := inv
    clear inv INV is7
    by_cases hlt : k < ls.length
    · obtain ⟨x, hx⟩ : ∃ x, ls[k]? = some x := ⟨_, List.getElem?_eq_getElem hlt⟩
      rcases (H1.out.below HINV.out.bel).2.2 with rfl | ⟨b, o, rfl, hb, hc⟩
      · simp at hlt
      obtain ⟨ax, cx, hcx, isx, hnx⟩ := hc k x hx
      have ISX : Hid (IsBytes wr ax cx x) := isx
      have HX : Hid (ls[k]? = some x) := hx
      have HN7 : Hid (n7 = (rowAt f ls k).2.length) := hn7
      clear isx hc hx hnx hn7
      by_cases hE : makeE f n7 x = 0
      · have hL := makeL_ok hE
        obtain ⟨fr, hfr⟩ : ∃ fr, fr = Crc.frame f.toNat n7 x := ⟨_, rfl⟩
        have hfl : fr.length = x.length + 8 := by rw [hfr]; exact Crc.frame_length _ _ _
        have hxl := lenB_yes (makeE_ok hE).2.2
        rw [Int.toNat_natCast, ← hfr] at hL
        have HROW : Hid (rowAt f ls (k + 1) = ((rowAt f ls k).1 ++ [(k, n7)], (rowAt f ls k).2 ++ fr)) := by
          show _ = _
          rw [rowAt, rowStep, HX.out, Option.getD_some, ← HN7.out, if_pos hE, hfr]
        have MK : Hid (Calls Try.prog 8 #[.int .i64 f, .int .i64 n7, .slice ax x.length cx] wr fun e w1 => ∃ vb, e = .returned (.tuple #[vb, .int .i64 0]) ∧ Own w1 wr.heap.size vb fr ∧ Below wr.heap.size wr w1) := by
          refine (make_any f n7 ax cx x wr ISX.out).mono ?_
          rintro e w1 ⟨vb, rfl, ownb, B1⟩
          exact ⟨vb, by rw [hE], by rw [← hL]; exact ownb, B1⟩
        have HFL : Hid (fr.length = x.length + 8) := hfl
        clear hE hL hfr hfl
        go_wp2_with fail
        refine MK.out.mono ?_
        rintro e w1 ⟨vb, rfl, ownb, B1⟩
        obtain ⟨ab, cb, hvb, _⟩ := ownb.shape
        subst hvb
        have inv1 := HINV.out.below B1
        have c81 := inv1.bx8.cell
        have OWNB : Hid (Own w1 wr.heap.size (.slice ab fr.length cb) fr) := ownb
        have INV1 : Hid (RowInv f (some ⟨b, o, none⟩) c ls w b8 k (.slice a7 n7 c7) v8 w1) := inv1
        have hz1 : w.heap.size + 2 ≤ w1.heap.size := by have := inv1.bx8.lt; have := inv1.le8; omega
        have hnl : (flat (rowAt f ls k).1).length ≤ 1073741824 := by rw [flat_length]; omega
        have HNL : Hid ((flat (rowAt f ls k).1).length ≤ 1073741824) := hnl
        clear ownb B1 inv1 hnl
        go_wp2_with (first
          | (at_builtin
             refine wpList_append2 rfl (.tmp 53) (.tmp 57) rfl (w.heap.size + 2) v8 (flat (rowAt f ls k).1) rfl INV1.out.nums k n7 w1.heap.size rfl rfl HNL.out hz1 ?_
             intro v8' w2 nums2 gr2
             obtain ⟨a8, m8, cp8, hv8'⟩ := nums2.form
             subst hv8'
             have PUSH := (INV1.out.below ((Below.refl _ w1).alloc (Nat.le_refl _) _)).push k n7 nums2 gr2
             have HPUSH : Hid (_ ∧ _) := PUSH
             have c82 := PUSH.2.2.2.2.2.2.2.cell
             have f82 := PUSH.2.2.2.2.2.2.2.frozen
             have hz2 : w1.heap.size + 1 ≤ w2.heap.size := by have := gr2.size; rwa [World.size_alloc] at this
             clear PUSH nums2 gr2)
          | (at_builtin
             refine wpList_append8 rfl (.tmp 59) (.tmp 60) rfl (w.heap.size + 2) (.slice a7 n7 c7) (rowAt f ls k).2 rfl HPUSH.out.2.2.2.1 ab cb fr rfl (HPUSH.out.2.2.2.2.2.2.1 _ _ _ (World.ownsRow.alloc OWNB.out _)).shapeIs (by rw [HFL.out, ← HN7.out]; omega) (by have := (grownBy_setCell' w2 b8 (.slice a8 m8 cp8)).size; omega) ?_
             intro v7' w4 own4 gr4 _ _ _
             have OWN4 : Hid (Own w4 (w.heap.size + 2) v7' ((rowAt f ls k).2 ++ fr)) := own4
             have GR4 : Hid ((w2.setCell ⟨b8, 0, none⟩ (.slice a8 m8 cp8)).grownBy w4 (Value.slice a7 n7 c7).ownBlock) := gr4
             clear own4 gr4))
        go_roundw
        case rel =>
          obtain ⟨p4, p6, p8, p7, pn, pb, _, _⟩ := HPUSH.out
          refine ⟨k + 1, _, by omega, by go_num, ⟨p4.kept GR4.out (p4.not_row (by decide) p7), p6.kept GR4.out (p6.not_row (by decide) p7), p8.kept GR4.out (p8.not_row (by decide) p7), INV1.out.le8, by rw [HROW.out]; exact OWN4.out, ?_, pb.grown GR4.out pb.size (fun g e => by have := (World.ownsRow.lt p7 g e).1; omega)⟩⟩
          rw [HROW.out]
          show Nums w4 _ _ (flat ((rowAt f ls k).1 ++ [(k, n7)]))
          rw [flat_snoc]
          exact World.ownsRow.kept pn GR4.out (rows_apart pn p7 (by decide))
        case measure => simp [intOf]; omega
      · have HROW : Hid (rowAt f ls (k + 1) = rowAt f ls k) := by
          show _ = _
          rw [rowAt, rowStep, HX.out, Option.getD_some, ← HN7.out, if_neg hE]
        have hmay : mayB f n7 x = false := decide_eq_false hE
        obtain ⟨ex, hex⟩ : ∃ ex, ex = makeE f n7 x := ⟨_, rfl⟩
        have hexb : (ex != 0) = true := by rw [hex]; simpa using hE
        have MK : Hid (Calls Try.prog 8 #[.int .i64 f, .int .i64 n7, .slice ax x.length cx] wr fun e w1 => ∃ vb, e = .returned (.tuple #[vb, .int .i64 ex]) ∧ Below wr.heap.size wr w1) := by
          refine (make_any f n7 ax cx x wr ISX.out).mono ?_
          rintro e w1 ⟨vb, rfl, _, B1⟩
          exact ⟨vb, by rw [hex], B1⟩
        clear hE hex
        go_wp2_with fail
        refine MK.out.mono ?_
        rintro e w1 ⟨vb, rfl, B1⟩
        have hb1 := Nat.lt_of_lt_of_le hb B1.size
        have hcx1 : w1.cell? ⟨b, o + k, none⟩ = some (.slice ax x.length cx) := (B1.cell (p := ⟨b, o + k, none⟩) hb).trans hcx
        have c41 : w1.cell? ⟨w.heap.size, 0, none⟩ = some (.slice (some ⟨b, o, none⟩) ls.length c) := (B1.cell (p := ⟨w.heap.size, 0, none⟩) HINV.out.b4.lt).trans c4
        have HB1 : Hid (Below wr.heap.size wr w1) := B1
        clear B1
        go_wp2_with fail
        refine (may_any f n7 ax cx x w1).mono ?_
        rintro e w2 ⟨rfl, hW⟩
        have hW := hW.symm
        subst hW
        rw [hmay]
        go_wp2
        go_roundw
        case rel => exact ⟨k + 1, v8, by omega, by go_num, by have h := HINV.out.below HB1.out; exact ⟨h.b4, h.b6, h.bx8, h.le8, by rw [HROW.out]; exact h.own, by rw [HROW.out]; exact h.nums, h.bel⟩⟩
        case measure => simp [intOf]; omega
    · obtain rfl : k = ls.length := by omega
      have HN7 : Hid (n7 = (rowAt f ls ls.length).2.length) := hn7
      clear hn7 hk
      cases hw : wordB f with
      | false =>
        have hrow := row_noword hw ls ls.length
        have hnn := HINV.out.nums
        rw [hrow] at hnn
        obtain ⟨a8, c8', hv8⟩ := hnn.shape
        subst hv8
        have hlen0 : (flat ([] : List (Nat × Nat))).length = 0 := rfl
        rw [hlen0] at c8 HINV
        have f6 := HINV.out.b6.frozen
        have c6 := HINV.out.b6.cell
        clear hnn hrow hlen0
        have hwf : f < 0 ∨ 4611686018427387903 < f := by
          have : ¬ (0 ≤ f ∧ f ≤ 4611686018427387903) := of_decide_eq_false hw
          omega
        clear hw
        by_cases hf0 : f < 0
        · go_wp2
          have hc5 := World.cell?_setCell_same' wr ⟨w.heap.size + 1, 0, none⟩ (.bool true) (by rw [c6]; rfl)
          refine ⟨.bool true, by simp [results, Try.f4, go_sem, hc5], rfl, HINV.out.bel.setCell (p := ⟨w.heap.size + 1, 0, none⟩) (by show w.heap.size ≤ w.heap.size + 1; omega) _⟩
        · have hfb : 4611686018427387903 < f := by omega
          clear hwf
          go_wp2
          have hc5 := World.cell?_setCell_same' wr ⟨w.heap.size + 1, 0, none⟩ (.bool true) (by rw [c6]; rfl)
          refine ⟨.bool true, by simp [results, Try.f4, go_sem, hc5], rfl, HINV.out.bel.setCell (p := ⟨w.heap.size + 1, 0, none⟩) (by show w.heap.size ≤ w.heap.size + 1; omega) _⟩
      | true =>
        have hfw := wordB_yes hw
        have HW : Hid (wordB f = true) := hw
        clear hw
        obtain ⟨A, hA'⟩ : ∃ A, A = (rowAt f ls ls.length).2 := ⟨_, rfl⟩
        obtain ⟨M, hM'⟩ : ∃ M, M = (rowAt f ls ls.length).1 := ⟨_, rfl⟩
        have hzr : w.heap.size + 2 ≤ wr.heap.size := by have := HINV.out.bx8.lt; have := HINV.out.le8; omega
        have hown : Own wr (w.heap.size + 2) (.slice a7 n7 c7) A := by rw [hA']; exact HINV.out.own
        have OWN : Hid (Own wr (w.heap.size + 2) (.slice a7 n7 c7) A) := hown
        have hnum : Nums wr (w.heap.size + 2) v8 (flat M) := by rw [hM']; exact HINV.out.nums
        obtain ⟨a8, c8', hv8⟩ := hnum.shape
        subst hv8
        have NUM : Hid (Nums wr (w.heap.size + 2) (.slice a8 (flat M).length c8') (flat M)) := hnum
        have HN7A : Hid (n7 = A.length) := by show _ = _; rw [HN7.out, hA']
        have HAR : Hid (A = (rowAt f ls ls.length).2) := hA'
        have HMR : Hid (M = (rowAt f ls ls.length).1) := hM'
        obtain ⟨b12, hb12⟩ : ∃ b12, b12 = wr.heap.size := ⟨_, rfl⟩
        have HB12 : Hid (b12 = wr.heap.size) := hb12
        obtain ⟨Wa, hWa⟩ : ∃ Wa, Wa = wr.alloc (.cells #[.int .i64 n7] 3) := ⟨_, rfl⟩
        have bx12 : Boxed Wa b12 3 (.int .i64 n7) := by rw [hWa, hb12]; exact Boxed.new _ _ _
        have HWA : Hid (Wa = wr.alloc (.cells #[.int .i64 n7] 3)) := hWa
        have BWA : Hid (Below wr.heap.size wr Wa) := by rw [hWa]; exact (Below.refl _ wr).alloc (Nat.le_refl _) _
        have hza : Wa.heap.size = b12 + 1 := by rw [hWa, hb12]; simp
        have HA : Hid (Own Wa (w.heap.size + 2) (.slice a7 n7 c7) A) := OWN.out.below BWA.out
        have HNA : Hid (Nums Wa (w.heap.size + 2) (.slice a8 (flat M).length c8') (flat M)) := by rw [hWa]; exact World.ownsRow.alloc NUM.out _
        have hlies : ∀ g, (Value.slice a8 (flat M).length c8').ownBlock = some g → g < b12 := fun g hg => by rw [hb12]; exact (World.ownsRow.lt NUM.out g hg).2
        have HLIES : Hid (∀ g, (Value.slice a8 (flat M).length c8').ownBlock = some g → g < b12) := hlies
        have HBX12 : Hid (Boxed Wa b12 3 (.int .i64 n7)) := bx12
        have hz12 : w.heap.size + 2 ≤ b12 := by omega
        obtain ⟨al, hal⟩ : ∃ al, al = A ++ r := ⟨_, rfl⟩
        have HAL : Hid (al = A ++ r) := hal
        clear hal
        have h812 : b8 < b12 := by have := HINV.out.bx8.lt; omega
        clear hown hnum hA' hM' hb12 hWa bx12 hlies
        go_wp2_with (first
          | (at_builtin
             rw [← HWA.out, ← HB12.out]
             refine wpList_append8 rfl (.tmp 73) (.tmp 74) rfl (w.heap.size + 2) (.slice a7 n7 c7) A rfl HA.out a' c' r rfl ((H2.out.below HINV.out.bel).below BWA.out) (by rw [← HN7A.out]; omega) (by rw [hza]; omega) ?_
             intro v7' w4 own4 gr4 _ _ _
             rw [← HAL.out] at own4
             obtain ⟨ar, cr, hvr, isr⟩ := own4.shape
             subst hvr
             have OWN4 : Hid (Own w4 (w.heap.size + 2) (.slice ar al.length cr) al) := own4
             have GR4 : Hid (Wa.grownBy w4 (Value.slice a7 n7 c7).ownBlock) := gr4
             have bx4 := HBX12.out.kept gr4 (HBX12.out.not_row (by decide) HA.out)
             have c12 := bx4.cell
             have HBX4 : Hid (Boxed w4 b12 3 (.int .i64 n7)) := bx4
             have INV4 : Hid (RowInv f a c ls w b8 ls.length (.slice a7 n7 c7) (.slice a8 (flat M).length c8') Wa) := HINV.out.below BWA.out
             clear own4 gr4 isr bx4)
          | fail)
        have B04 : Below w.heap.size w w4 := INV4.out.bel.grown GR4.out INV4.out.bel.size (fun g e => by have := (World.ownsRow.lt HA.out g e).1; omega)
        have HB04 : Hid (Below w.heap.size w w4) := B04
        have hz4 := GR4.out.size
        rw [hza] at hz4
        clear B04
        refine (take_any f n7 a' c' r w4 (H2.out.below HB04.out)).mono ?_
        rintro e w5 ⟨v13, rfl, own13, B5⟩
        obtain ⟨a13, c13, hv13, _⟩ := own13.shape
        subst hv13
        clear own13
        have hz5 := B5.size
        obtain ⟨b15, hb15⟩ : ∃ b15, b15 = w5.heap.size := ⟨_, rfl⟩
        obtain ⟨ex, hex⟩ : ∃ ex, ex = takeE f n7 r := ⟨_, rfl⟩
        rw [← hex]
        obtain ⟨w6, hw6⟩ : ∃ w6, w6 = (w5.alloc (.cells #[.int .i64 ex] 25)).alloc (.cells #[.int .i64 0] 3) := ⟨_, rfl⟩
        have hinv6 : RangeInv w (.slice a ls.length c) (.slice ar al.length cr) (.slice a8 (flat M).length c8') b8 b12 b15 (b15 + 1) al (flat M) n7 ex 0 w6 := by
          have i4 := INV4.out
          have g4 := GR4.out
          have g5 := grown_of_below B5
          rw [hw6, hb15]
          refine ⟨(((i4.b4.kept g4 (i4.b4.not_row (by decide) HA.out)).kept g5 (by simp)).alloc _).alloc _, ⟨_, (((i4.b6.kept g4 (i4.b6.not_row (by decide) HA.out)).kept g5 (by simp)).alloc _).alloc _⟩, (((i4.bx8.kept g4 (i4.bx8.not_row (by decide) HA.out)).kept g5 (by simp)).alloc _).alloc _,
            ((HBX4.out.kept g5 (by simp)).alloc _).alloc _, (Boxed.new _ _ _).alloc _, ?_, ((OWN4.out.below B5).below ((Below.refl _ w5).alloc (Nat.le_refl _) _)).below ((Below.refl _ _).alloc (Nat.le_refl _) _),
            World.ownsRow.alloc (World.ownsRow.alloc (World.ownsRow.kept (World.ownsRow.kept HNA.out g4 (rows_apart HNA.out HA.out (by decide))) g5 (by cases (Value.slice a8 (flat M).length c8').ownBlock <;> simp)) _) _,
            ((HB04.out.trans (B5.mono HB04.out.size)).alloc (by omega) _).alloc (by simp; omega) _, HLIES.out, INV4.out.le8, by omega, by omega, rfl, by omega⟩
          have := Boxed.new (w5.alloc (.cells #[.int .i64 ex] 25)) 3 (.int .i64 0)
          rwa [World.size_alloc] at this
        have INV6 : Hid (RangeInv w (.slice a ls.length c) (.slice ar al.length cr) (.slice a8 (flat M).length c8') b8 b12 b15 (b15 + 1) al (flat M) n7 ex 0 w6) := hinv6
        have HEX : Hid (ex = takeE f n7 r) := hex
        have hz6 : w6.heap.size = b15 + 2 := by rw [hw6, hb15]; simp
        have ALL : Hid (Calls Try.prog 11 #[.int .i64 f, .slice ar al.length cr] w6 fun e w' => ∃ Bf Bk, e = .returned (seqOf Bf Bk) ∧ AllAt w' w6.heap.size Bf Bk f al ∧ Below w6.heap.size w6 w') := all_any f ar cr al w6 hinv6.own.shapeIs (by rw [HAL.out, List.length_append, ← HN7A.out]; omega) hinv6.own.nil0
        have HW6 : Hid (w6 = (w5.alloc (.cells #[.int .i64 ex] 25)).alloc (.cells #[.int .i64 0] 3)) := hw6
        have HB15 : Hid (b15 = w5.heap.size) := hb15
        clear hinv6 hex hw6 hb15
        have qseq := seq_nil
        go_wp2_with (go_at_call 11; rw [← HW6.out, ← HB15.out]; refine ALL.out.mono ?_; rintro e w7 ⟨Bf, Bk, rfl, at7, B7⟩; dsimp only [seqOf]; have AT7 : Hid (AllAt w7 w6.heap.size Bf Bk f al) := at7; have HB7 : Hid (Below w6.heap.size w6 w7) := B7; clear at7 B7)
        have hz67 := HB7.out.size
        have hz07 : w.heap.size ≤ w7.heap.size := by have := HB15.out; omega
        refine (wpIn_wide (n := 3)).1 ?_
        refine wpIn_told rfl (by omega) (gf := 22) (lb := #[.pointer (some ⟨Bf, 0, none⟩), .pointer (some ⟨Bk, 0, none⟩)]) rfl trivial (enters_of Try.func22 (by kernel_rfl) rfl)
          (all1_told 2 w6.heap.size Bf Bk f al w7 AT7.out (by rw [HAL.out, List.length_append, ← HN7A.out]; omega)) (fun h k => h.trans k) (midK_b (Nat.le_refl _)) (Below.refl _ _) (fun _ => rfl)
          (fun pre W => RangeInv w (.slice a ls.length c) (.slice ar al.length cr) (.slice a8 (flat M).length c8') b8 b12 b15 (b15 + 1) al (flat M) n7 ex pre.length W ∧ pre.length ≤ M.length)
          (fun c _ W => c = .ret ∧ Boxed W (w.heap.size + 1) 4 (.bool true) ∧ Below w.heap.size w W)
          (rangeInv_own (by omega) (fun n => n ≤ M.length))
          (fun c s A B row hs hg hr => ⟨hs.1, boxed_own (β := Unit) _ _ (fun _ => .bool true) () A B row hs.2.1 hg (fun r e => (hr r e).2), hs.2.2.grown hg hs.2.2.size (fun k e => by have := (hr k e).1; omega)⟩)
          (toldAll_own f al _)
          ⟨INV6.out.below HB7.out, Nat.zero_le _⟩
          ?a1 ?assign ?body ?done ?stop
        case assign =>
          intro l x W K hK
          gi_wp2
          exact hK
        case body =>
          rintro id pre ⟨p, v, b⟩ A' W hid _ ⟨rl, hrl⟩ hgr _ ⟨inv, hle⟩ ⟨hfr, hown⟩ _
          have hfa := row_frames HW.out ls (by have := HT.out; omega) ls.length r
          rw [← HAR.out, ← HMR.out, ← HAL.out] at hfa
          have hgl : (gave ls M).length = M.length := by simp [gave]
          have hdr : al.drop A.length = r := by rw [HAL.out]; exact List.drop_left
          obtain ⟨n, hn⟩ : ∃ n, n = pre.length := ⟨_, rfl⟩
          have hn1 : (pre ++ [((p, v, b) : Given)]).length = n + 1 := by rw [List.length_append, ← hn]; rfl
          have HN1 : Hid ((pre ++ [((p, v, b) : Given)]).length = n + 1) := hn1
          rw [hfa, ← hn] at hfr
          rw [← hn] at inv hle
          obtain ⟨ap, cp, hv, isp⟩ := hown.shape
          dsimp only at hv
          subst hv
          have hnb : M.length ≤ 1048576 := by have h1 := hM; rw [← HMR.out] at h1; exact h1
          have hwr := wrap_small (2 * (n : Int)) (by omega) (by omega)
          have hwr1 := wrap_small (2 * (n : Int) + 1) (by omega) (by omega)
          have hwr2 := wrap_small ((n : Int) + 1) (by omega) (by omega)
          have hzW : w7.heap.size ≤ W.heap.size := Nat.le_of_lt (Nat.lt_of_le_of_lt hid (Array.getElem?_eq_some_iff.1 hrl).1)
          have c4 := inv.b4.cell
          have c8 := inv.bx8.cell
          have c12 := inv.bx12.cell
          have c15 := inv.bx15.cell
          have c16 := inv.bx16.cell
          have f16 := inv.bx16.frozen
          have HI : Hid (RangeInv w (.slice a ls.length c) (.slice ar al.length cr) (.slice a8 (flat M).length c8') b8 b12 b15 (b15 + 1) al (flat M) n7 ex n W) := inv
          have ISP : Hid (IsBytes W ap cp b) := isp
          clear inv isp hn hn1 hown hgr hrl
          rcases Nat.lt_or_ge n M.length with hlt | hge
          · have hl2 : (flat M).length = 2 * M.length := flat_length M
            obtain ⟨⟨i, q⟩, hMn⟩ : ∃ x, M[n]? = some x := ⟨_, List.getElem?_eq_getElem hlt⟩
            rw [List.getElem?_append_left (by omega)] at hfr
            simp only [gave, List.getElem?_map, hMn, Option.map_some, Option.some.injEq, Given.pr, Prod.mk.injEq] at hfr
            obtain ⟨hpq, hbx⟩ := hfr
            have hi : i < ls.length := ((row_bounds f ls ls.length).2.2 (i, q) (by rw [← HMR.out]; exact List.mem_of_getElem? hMn)).2.1
            obtain ⟨x, hx⟩ : ∃ x, ls[i]? = some x := ⟨_, List.getElem?_eq_getElem hi⟩
            rw [hx, Option.getD_some] at hbx
            subst hbx
            subst hpq
            obtain ⟨hg1, hg2⟩ := flat_get M n _ hMn
            obtain ⟨g8, rfl, hc8l, hnc⟩ := HI.out.nums.cellsAt hg1
            have cA : W.cell? ⟨g8, 2 * n, none⟩ = some (.int .i64 (i : Int)) := hnc _ _ hg1
            have cB : W.cell? ⟨g8, 2 * n + 1, none⟩ = some (.int .i64 (q : Int)) := hnc _ _ hg2
            rcases (H1.out.below HI.out.bel).2.2 with rfl | ⟨bb, o, rfl, hb, hc⟩
            · simp at hi
            obtain ⟨ax, cx, hcx, isx, _⟩ := hc i x hx
            have ISX : Hid (IsBytes W ax cx x) := isx
            rw [hl2] at c8
            have hne : ((2 * (n : Int)) == ((2 * M.length : Nat) : Int)) = false := by simp; omega
            have hpp : ((q : Int) != (q : Int)) = false := by simp
            clear hnc hg1 hg2 hMn hl2 hc hx isx hfa hgl hdr
            have SM : Hid (∀ k, Calls Try.prog 12 #[.slice ap x.length cp, .slice ax x.length cx] (W.drewN k) fun e w' => e = .returned (.bool true) ∧ ∃ m, w' = (W.drewN k).drewN m) := by
              intro k
              refine (same_any ap ax cp cx x x (W.drewN k) (ISP.out.below (below_drewN (Below.refl _ W) k)) (ISX.out.below (below_drewN (Below.refl _ W) k))).mono ?_
              rintro e w' ⟨rfl, m, rfl⟩
              exact ⟨by simp, m, rfl⟩
            gi_wp2
            refine wpIn_quiet_round (F := Fence.wide) rfl (by kernel_rfl) (by kernel_rfl) (by kernel_rfl) ?_
            repeat (gi_big_quiet_step ((gi_at_call 12; exact CallsIn.quiet_of (callsIn_wide.2 (SM.out _)))))
            refine wpQuietIn_nil ?_
            rintro _ ⟨nq, rfl⟩
            have I8 : Hid (RangeInv w (.slice (some ⟨bb, o, none⟩) ls.length c) (.slice ar al.length cr) (.slice (some ⟨g8, 0, none⟩) (flat M).length c8') b8 b12 b15 (b15 + 1) al (flat M) n7 ex n (W.drewN nq)) := HI.out.below (below_drewN (Below.refl _ W) nq)
            gi_wp2
            refine ⟨(KeepsFrom.of_grownBy (grown_of_below (below_drewN (Below.refl _ W) nq)) (fun j e => by cases e)).trans ((KeepsOthers.setCell _ _ _).from _), (Mid.of_below (below_drewN (Below.refl _ W) nq) hzW).set (p := ⟨b15 + 1, 0, none⟩) (.inl (by show b15 + 1 < w6.heap.size; omega)) _, ?_, by rw [HN1.out]; omega⟩
            rw [HN1.out]
            have := I8.out.count (n + 1)
            rwa [show ((n + 1 : Nat) : Int) = (n : Int) + 1 by omega] at this
          · obtain rfl : n = M.length := by omega
            rw [List.getElem?_append_right (by omega), hgl, Nat.sub_self] at hfr
            have hE : takeE f A.length (al.drop A.length) = 0 := by
              by_cases h : takeE f A.length (al.drop A.length) = 0
              · exact h
              · rw [frames_end h] at hfr; simp at hfr
            rw [frames_step hE] at hfr
            simp only [List.getElem?_cons_zero, Option.some.injEq, Given.pr, Prod.mk.injEq] at hfr
            have hex0 : ex = 0 := by rw [HEX.out, HN7A.out, ← hdr]; exact hE
            have hpn : p = n7 := by rw [HN7A.out]; exact hfr.1.symm
            have hl2 : (flat M).length = 2 * M.length := flat_length M
            obtain ⟨q6, b6⟩ := HI.out.b6
            have c6 := b6.cell
            have f6 := b6.frozen
            have HB6 : Hid (Boxed W (w.heap.size + 1) 4 (.bool q6)) := b6
            rw [hl2] at c8
            subst hex0
            subst hpn
            clear b6 hfr hE hfa hgl hdr hl2
            gi_wp2
            exact ⟨(KeepsOthers.setCell _ _ _).from _, rfl, (HI.out.answer true).1, (HI.out.answer true).2⟩
        case done =>
          rintro D xs W hD hS ⟨inv, hle⟩ hK
          have hfa := row_frames HW.out ls (by have := HT.out; omega) ls.length r
          rw [← HAR.out, ← HMR.out, ← HAL.out] at hfa
          have hxl : xs.length = M.length + (frames f al A.length).length := by
            have := congrArg List.length (hS.trans hfa)
            simpa [gave] using this
          have hnil : frames f al A.length = [] := List.eq_nil_of_length_eq_zero (by omega)
          have hdr : al.drop A.length = r := by rw [HAL.out]; exact List.drop_left
          have hex0 : ¬ ex = 0 := by
            intro h0
            have hE : takeE f A.length (al.drop A.length) = 0 := by rw [hdr, ← HN7A.out, ← HEX.out]; exact h0
            rw [frames_step hE] at hnil
            cases hnil
          rw [hnil, List.append_nil] at hfa
          have hend : endOf (frames f al 0) = n7 := by rw [hfa, HMR.out, row_end, ← HAR.out, HN7A.out]
          have hlen2 : (flat M).length = 2 * xs.length := by rw [flat_length, hxl, hnil]; rfl
          have hexb : (ex != 0) = true := by simpa using hex0
          obtain ⟨n, hn⟩ : ∃ n, n = xs.length := ⟨_, rfl⟩
          rw [hlen2, ← hn] at inv
          have hnb : n ≤ 1048576 := by have h1 := hM; rw [← HMR.out] at h1; omega
          have hwr := wrap_small (2 * (n : Int)) (by omega) (by omega)
          have WH : Hid (Calls Try.prog 13 #[.int .i64 f, .slice ar al.length cr] W.drew fun e w' => e = .returned (.int .i64 n7) ∧ Below W.heap.size W w') := by
            have := whole_any f ar cr al W.drew (inv.own.shapeIs.below (Below.refl _ W).drew) (by rw [HAL.out, List.length_append, ← HN7A.out]; omega) inv.own.nil0
            rw [hend] at this
            refine this.mono ?_
            rintro e w' ⟨rfl, hb⟩
            exact ⟨rfl, (Below.refl _ W).drew.trans hb⟩
          have c8 := inv.bx8.cell
          have c12 := inv.bx12.cell
          have c15 := inv.bx15.cell
          have c16 := inv.bx16.cell
          have HI : Hid (RangeInv w (.slice a ls.length c) (.slice ar al.length cr) (.slice a8 (2 * n) c8') b8 b12 b15 (b15 + 1) al (flat M) n7 ex n W) := inv
          have HK : Hid (W.heap[D]? = some (.deferred (some []))) := hK
          clear hfa hxl hnil hdr hex0 hend hlen2 hn inv hS hK
          obtain ⟨q6, b6⟩ := HI.out.b6
          have HB6 : Hid (Boxed W (w.heap.size + 1) 4 (.bool q6)) := b6
          have c6 := b6.cell
          have f6 := b6.frozen
          clear b6
          go_wp2
          refine wp_onward ?_
          go_region_with (go_at_call 13; refine WH.out.mono ?_; rintro e w8 ⟨rfl, B8⟩; have c128 := (B8.cell (p := ⟨b12, 0, none⟩) HI.out.bx12.lt).trans c12; have b68 := HB6.out.kept (grown_of_below B8) (by simp); have c68 := b68.cell; have f68 := b68.frozen; have I8 : Hid (RangeInv w (.slice a ls.length c) (.slice ar al.length cr) (.slice a8 (2 * n) c8') b8 b12 b15 (b15 + 1) al (flat M) n7 ex n w8) := HI.out.below B8; have K8 : Hid (w8.heap[D]? = some (.deferred (some []))) := (B8.block D (Array.getElem?_eq_some_iff.1 HK.out).1).trans HK.out; clear B8 b68)
          all_goals
            go_wp2
            obtain ⟨hbx, hB⟩ := I8.out.answer true
            have hK' := (KeepsOthers.setCell w8 ⟨w.heap.size + 1, 0, none⟩ (.bool true)).same D _ K8.out rfl
            refine ⟨by simp, .inl ⟨_, _, rfl, run_takeDeferred hK', ?_⟩⟩
            have hc5 := cell_kept hbx.cell (grownBy_putObj' _ D (.deferred none)) (fun r e => by cases e; exact ⟨_, hK', rfl⟩)
            exact ⟨.bool true, by simp [results, Try.f4, go_sem, hc5], rfl, hB.trans (belowK_b (w := w) (Nat.le_refl _) _ D _ _ (by omega) hK' rfl rfl)⟩
        case stop =>
          rintro D c pre W hD _ ⟨rfl, hbx, hB⟩ hK
          gi_wp2
          refine ⟨by simp, .inl ⟨_, _, rfl, run_takeDeferred hK, ?_⟩⟩
          have hc5 := cell_kept hbx.cell (grownBy_putObj' _ D (.deferred none)) (fun r e => by cases e; exact ⟨_, hK, rfl⟩)
          exact ⟨.bool true, by simp [results, Try.f4, go_sem, hc5], rfl, hB.trans (belowK_b (w := w) (Nat.le_refl _) W D _ _ (by omega) hK rfl rfl)⟩
end Go.Proofs.Ytjbmolclagmecab.frameRow
