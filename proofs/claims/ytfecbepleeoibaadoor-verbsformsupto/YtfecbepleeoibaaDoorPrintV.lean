/-
  The walk of verbs.Print.
-/
import Derived.Test.YtfecbepleeoibaaDoorPlainPrint
import Derived.Test.YtfecbepleeoibaaDoorFits
import Derived.Test.YtfecbepleeoibaaDoorSplit
namespace Go.Proofs.YtfecbepleeoibaaDoor
open Go.RowKit Go.Lib

theorem ByteArray_eta (s : ByteArray) : (⟨s.data.toList.toArray⟩ : ByteArray) = s := rfl
/-- What a row of its own holds, by its block. -/
theorem own_block {w : World} {B e n : Nat} {v : Value} {xs : List Value} (h : w.ownsRow B e 1 v n xs) :
    ∃ a cap, v = .slice a n cap ∧ ∀ (i : Nat) x, xs[i]? = some x → ∃ g cur, a = some ⟨g, 0, none⟩ ∧ w.heap[g]? = some (.cells cur e (0, 0)) ∧ cur[i]? = some x := by
  have hl := h.1
  rcases h.2 with ⟨rfl, h0⟩ | ⟨g, cap, cur, rfl, hb, hg, _, _, _, ht⟩
  · subst h0
    obtain rfl : xs = [] := List.length_eq_zero_iff.1 (by omega)
    exact ⟨none, 0, rfl, fun i x hx => by cases hx⟩
  · refine ⟨_, _, rfl, fun i x hx => ⟨g, cur, rfl, hg, ?_⟩⟩
    rw [← ht, List.getElem?_take] at hx
    split at hx
    · simpa using hx
    · cases hx
theorem own_strs {w : World} {B m : Nat} {v : Value} {xs : List ByteArray} (h : w.ownsRow B 9 1 v (m + 1) (xs.map Value.string)) :
    ∃ g cap, v = .slice (some ⟨g, 0, none⟩) (m + 1) cap ∧ m + 1 ≤ cap ∧ g < w.heap.size ∧ ∀ (j : Nat) x, xs[j]? = some x → w.cell? ⟨g, 0 + j, none⟩ = some (.string x) := by
  rcases h.2 with ⟨_, h0⟩ | ⟨g, cap, cur, rfl, hb, hg, hc, _, _, ht⟩
  · cases h0
  · refine ⟨g, cap, rfl, hc, (Array.getElem?_eq_some_iff.1 hg).1, fun j x hx => cells_at hg ?_⟩
    have hy : (xs.map Value.string)[j]? = some (.string x) := by rw [List.getElem?_map, hx]; rfl
    rw [← ht, List.getElem?_take] at hy
    split at hy
    · rw [Nat.zero_add]; simpa using hy
    · cases hy
/-- The words, as far as they were told. -/
def wordsTo (c : Cm) (k j : Nat) : List ByteArray := ⟨(verbOf k).toArray⟩ :: ((formOf k).take j).map (fun f => ⟨(wordOf c f).toArray⟩)
theorem wordsTo_len (c : Cm) (k j : Nat) (h : j ≤ (formOf k).length) : (wordsTo c k j).length = j + 1 := by
  simp [wordsTo]; omega
theorem wordsTo_step (c : Cm) (k j f : Nat) (h : (formOf k)[j]? = some f) : wordsTo c k (j + 1) = wordsTo c k j ++ [⟨(wordOf c f).toArray⟩] := by
  unfold wordsTo
  rw [List.take_add_one, h]
  simp
theorem wordsTo_all (c : Cm) (k j : Nat) (h : (formOf k).length = j) (hk : c.kind.toNat = k) : (wordsTo c k j).map (·.data.toList) = wordsOf c := by
  unfold wordsTo wordsOf
  rw [← h, List.take_length, hk]
  simp [List.map_map, Function.comp_def]
/-- A block of another type is not the row that grew. -/
theorem typed_kept {w w1 : World} {B e n : Nat} {v : Value} {xs : List Value} (ho : w.ownsRow B e 1 v n xs) (h : w.grownBy w1 v.ownBlock) {g : Nat} {cur : Array Value} {t : TypeId} {fr : Nat × Nat} (hg : w.heap[g]? = some (.cells cur t fr)) (ht : t ≠ e) :
    w1.heap[g]? = some (.cells cur t fr) := by
  refine (h.block g (Array.getElem?_eq_some_iff.1 hg).1 (fun e' => ?_)).trans hg
  rcases ho.2 with ⟨rfl, _⟩ | ⟨g', cap, cur', rfl, hb, hg', _⟩
  · cases e'
  · simp only [Value.ownBlock, Option.some.injEq] at e'
    subst e'
    rw [hg] at hg'
    cases hg'
    exact ht rfl
theorem own_one {w : World} {B g : Nat} (x : ByteArray) (hg : w.heap[g]? = some (.cells #[.string x] 9 (0, 0))) (hB : B ≤ g) : w.ownsRow B 9 1 (.slice (some ⟨g, 0, none⟩) 1 1) 1 ([x].map Value.string) :=
  ⟨rfl, .inr ⟨g, 1, _, rfl, hB, hg, Nat.le_refl _, by decide, rfl, rfl⟩⟩
theorem own_below {w w1 : World} {B e n : Nat} {v : Value} {xs : List Value} (h : w.ownsRow B e 1 v n xs) (hb : Below w.heap.size w w1) : w1.ownsRow B e 1 v n xs :=
  Kept.own (Kept.ofBelow (P := fun _ => False) hb) h (fun _ _ h => h)

set_option maxHeartbeats 2000000 in
set_option maxRecDepth 1000000 in
theorem printV_any (c : Cm) (a : Option Addr) (n cap : Nat) (w : World) (T : Tabs w) :
    Calls Tryd.prog 16 #[cmdV c (.slice a n cap)] w fun e w' => e = .returned (.tuple #[.string ⟨(printS c n).toArray⟩, .int .i64 (printE c n)]) ∧ Below w.heap.size w w' := by
  obtain ⟨i9, hi, hz0, hz1, hz2⟩ := info_parts info_string
  have HT := hide T
  clear T
  obtain ⟨ps, hps⟩ : ∃ ps, printS c n = ps := ⟨_, rfl⟩
  obtain ⟨pe, hpe⟩ : ∃ pe, printE c n = pe := ⟨_, rfl⟩
  have HPS := hide hps
  have HPE := hide hpe
  rw [hps, hpe]
  clear hps hpe
  have HF := hide fun w T => fitsLine_any c a n cap w T
  have HFB := hide fun w => fitsBody_any c a n cap w
  obtain ⟨b1, h1⟩ : ∃ b1, lineB c = b1 := ⟨_, rfl⟩
  obtain ⟨b2, h2⟩ : ∃ b2, bodyB c n = b2 := ⟨_, rfl⟩
  have HL := hide h1
  have HB := hide h2
  rw [h1] at HF
  rw [h2] at HFB
  clear h1 h2
  obtain ⟨q0, q1, q2, q3, q4, q5, q6⟩ := c
  have HNO := hide fun w => numbersOf_any ⟨q0, q1, q2, q3, q4, q5, q6⟩ a n cap w
  unfold cmdV at *
  cases b1
  · go_enter Tryd.func16, Tryd.ntmps16
    go_wp2_with (go_at_call 31; refine (HF.out _ (HT.out.alloc _)).mono ?_; rintro e w1 ⟨rfl, B1⟩; have HB1 := hide B1; clear B1)
    go_ret2
    refine ⟨?_, ((Below.refl _ w).alloc (Nat.le_refl _) _).trans (HB1.out.mono (by simp))⟩
    rw [← HPS.out, ← HPE.out, printS, printE, printB, HL.out]
    rfl
  · by_cases hput : q0 = 1 ∨ n = 0
    · have HPF : Hid (printB ⟨q0, q1, q2, q3, q4, q5, q6⟩ n = true) := by
        show printB ⟨q0, q1, q2, q3, q4, q5, q6⟩ n = true
        unfold printB
        rw [HL.out]
        rcases hput with h | h <;> simp [h]
      obtain ⟨k, hk⟩ : ∃ k : Nat, q0 = k := ⟨q0.toNat, by have := line_kind' HL.out; simp only [] at this; omega⟩
      have HK := hide hk
      have hk25 : k < 26 := by have := line_kind' HL.out; simp only [] at this; omega
      have hk1 : 1 ≤ k := by have := line_kind' HL.out; simp only [] at this; omega
      have HNM : Hid (nameL q0 = verbOf k) := by
        show nameL q0 = verbOf k
        rw [hk, nameL, if_pos (by omega)]; simp
      have hcase : (q0 != 1) = false ∨ ((q0 != 1) = true ∧ b2 = true) := by
        by_cases h : q0 = 1
        · exact .inl (by simp [h])
        · refine .inr ⟨by simp [h], ?_⟩
          have h0 : n = 0 := by rcases hput with h' | h'; exact absurd h' h; exact h'
          rw [← HB.out, bodyB, if_neg h, h0]
          rfl
      clear hput hk
      rcases hcase with hq | ⟨hq, hb2⟩
      · go_enter Tryd.func16, Tryd.ntmps16
        go_wp2_with (first
          | (go_at_call 31
             refine (HF.out _ (HT.out.alloc _)).mono ?_
             rintro e w2 ⟨rfl, B1⟩
             have hb1 := (B1.block w.heap.size (by simp)).trans (heap_alloc_new _ _)
             have HG2 := hide hb1
             have x0 : w2.cell? ⟨w.heap.size, 0, none⟩ = some (.int .i64 q0) := cells_at hb1 rfl
             have x1 : w2.cell? ⟨w.heap.size, 1, none⟩ = some (.int .i64 q1) := cells_at hb1 rfl
             have x2 : w2.cell? ⟨w.heap.size, 2, none⟩ = some (.int .i64 q2) := cells_at hb1 rfl
             have x3 : w2.cell? ⟨w.heap.size, 3, none⟩ = some (.int .i64 q3) := cells_at hb1 rfl
             have x4 : w2.cell? ⟨w.heap.size, 4, none⟩ = some (.int .i64 q4) := cells_at hb1 rfl
             have x5 : w2.cell? ⟨w.heap.size, 5, none⟩ = some (.int .i64 q5) := cells_at hb1 rfl
             have x6 : w2.cell? ⟨w.heap.size, 6, none⟩ = some (.string ⟨q6.toArray⟩) := cells_at hb1 rfl
             have x7 : w2.cell? ⟨w.heap.size, 7, none⟩ = some (.slice a n cap) := cells_at hb1 rfl
             have HB2 : Hid (Below w.heap.size w w2) := ((Below.refl _ w).alloc (Nat.le_refl _) _).trans (B1.mono (by simp))
             have HS2 : Hid (w.heap.size + 1 ≤ w2.heap.size) := (by simpa using B1.size : w.heap.size + 1 ≤ w2.heap.size)
             have HT2 := hide ((HT.out.alloc _).below B1)
             clear B1 hb1))
        refine (HNO.out _).mono ?_
        rintro e w3 ⟨rfl, B3⟩
        rw [show numsV (numOf ⟨q0, q1, q2, q3, q4, q5, q6⟩) = .agg #[.int .i64 0, .int .i64 q1, .int .i64 q2, .int .i64 q3, .int .i64 q4, .int .i64 q5] from rfl]
        have HG3 := hide ((B3.block w.heap.size (by have := HS2.out; omega)).trans HG2.out)
        have HB3 : Hid (Below w.heap.size w w3) := HB2.out.trans (B3.mono HB2.out.size)
        have HS3 : Hid (w.heap.size + 1 ≤ w3.heap.size) := Nat.le_trans HS2.out B3.size
        have HT3 := hide (HT2.out.below B3)
        have y0 : w3.cell? ⟨w.heap.size, 0, none⟩ = some (.int .i64 q0) := cells_at HG3.out rfl
        have hlt3 : w.heap.size < w3.heap.size := HS3.out
        clear B3 HG2 HB2 HS2 HT2
        go_wp2_with (first
          | (go_at_call 10
             refine (name_any _ _ (HT3.out.alloc _)).mono ?_
             rintro e w4 ⟨rfl, hw4⟩
             have hw4 := hw4
             subst hw4
             rw [HNM.out]))
        obtain ⟨w5, hw5⟩ : ∃ w5, w5 = (w3.alloc (.cells #[.int .i64 0, .int .i64 q1, .int .i64 q2, .int .i64 q3, .int .i64 q4, .int .i64 q5] 58)).alloc (.cells #[.string ⟨(verbOf k).toArray⟩] 9) := ⟨_, rfl⟩
        rw [← hw5]
        have HV5 : Hid (w5.heap[w3.heap.size]? = some (.cells (numsA (numOf ⟨q0, q1, q2, q3, q4, q5, q6⟩)) 58 (0, 0))) := by show w5.heap[w3.heap.size]? = _; rw [hw5]; exact two_a _ _ _
        have HW5 : Hid (w5.heap[w3.heap.size + 1]? = some (.cells #[.string ⟨(verbOf k).toArray⟩] 9 (0, 0))) := by show w5.heap[w3.heap.size + 1]? = _; rw [hw5]; exact heap_alloc2_new _ _ _
        have B5 : Below w3.heap.size w3 w5 := by rw [hw5]; exact ((Below.refl _ w3).alloc (Nat.le_refl _) _).alloc (by simp) _
        have hs5 : w5.heap.size = w3.heap.size + 2 := by rw [hw5]; simp
        clear hw5
        refine (fieldsOf_int q0 k HK.out hk25 _ (HT3.out.below B5)).mono ?_
        rintro e w6 ⟨v6, rfl, B6, O6⟩
        have HV6 := hide ((B6.block w3.heap.size (by omega)).trans HV5.out)
        have HW6 := hide ((B6.block (w3.heap.size + 1) (by omega)).trans HW5.out)
        have HG6 := hide ((B6.block w.heap.size (by have := HS3.out; omega)).trans ((B5.block w.heap.size HS3.out).trans HG3.out))
        have HB6 : Hid (Below w.heap.size w w6) := HB3.out.trans ((B5.mono HB3.out.size).trans (B6.mono (by have := HB3.out.size; omega)))
        obtain ⟨a6, cap6, rfl, hc6⟩ := own_block O6
        have HC6 := hide hc6
        have hs6 : w3.heap.size + 2 ≤ w6.heap.size := by have := B6.size; omega
        obtain ⟨nf, hnf⟩ : ∃ nf, (formOf k).length = nf := ⟨_, rfl⟩
        have hn4 : nf ≤ 4 := by rw [← hnf]; exact form_len k hk25
        have HNF := hide hnf
        rw [hnf]
        clear hnf hc6 B5 B6 O6 hs5 HV5 HW5 HG3 HB3 HT3 y0
        go_wp2_with fail
        go_loopg [5, 33] nf (fun gk s5 i wx => ∃ j : Nat, i = .int .i64 j ∧ j ≤ nf ∧ nf - j ≤ gk ∧ Hid (wx.ownsRow w.heap.size 9 1 s5 (j + 1) ((wordsTo ⟨q0, q1, q2, q3, q4, q5, q6⟩ k j).map Value.string)) ∧ Hid (Below w.heap.size w wx) ∧
          Hid (wx.heap[w.heap.size]? = some (.cells #[.int .i64 q0, .int .i64 q1, .int .i64 q2, .int .i64 q3, .int .i64 q4, .int .i64 q5, .string ⟨q6.toArray⟩, .slice a n cap] 27 (0, 0))) ∧ Hid (wx.heap[w3.heap.size]? = some (.cells (numsA (numOf ⟨q0, q1, q2, q3, q4, q5, q6⟩)) 58 (0, 0))) ∧
          Hid (∀ (i : Nat) x, (fldV (formOf k))[i]? = some x → ∃ g cur, a6 = some ⟨g, 0, none⟩ ∧ wx.heap[g]? = some (.cells cur 43 (0, 0)) ∧ cur[i]? = some x))
        case atStart => exact ⟨0, rfl, by omega, by omega, own_one _ HW6.out (by have := HS3.out; omega), HB6, HG6, HV6, HC6⟩
        case round =>
          obtain ⟨j, rfl, hj, hgk, HO, HBx, HGx, HVx, HCx⟩ := hrel
          by_cases hlt : j < nf
          · obtain ⟨f, hf⟩ : ∃ f, (formOf k)[j]? = some f := ⟨_, List.getElem?_eq_getElem (by rw [HNF.out]; exact hlt)⟩
            obtain ⟨g, cur, rfl, hgg, hgx⟩ := HCx.out j (.int .u8 (f : Int)) (by unfold fldV; rw [List.getElem?_map, hf]; rfl)
            have hcw := cells_at hgg hgx
            have hfr := form_field k hk25 f (List.mem_of_getElem? hf)
            have HST := hide (wordsTo_step ⟨q0, q1, q2, q3, q4, q5, q6⟩ k j f hf)
            have hBs := HBx.out.size
            have HMF : Hid (f ∈ formOf k) := List.mem_of_getElem? hf
            clear hf hgx
            have hgl := (Array.getElem?_eq_some_iff.1 hgg).1
            have HGG := hide hgg
            clear hgg
            by_cases h6 : f = 6
            · subst h6
              have ht6 := cells_at HGx.out (i := 6) rfl
              go_wp2_with (at_builtin; go_must (refine wpList_append_own _ rfl (.tmp 39) (.tmp 42) 39 rfl w.heap.size 9 i9 (.string ⟨#[]⟩) 1 16 Tryd.underlying39 hi hz0 hz1 hz2 rfl (by decide) _ _ _ rfl (HO.out.alloc _) ⟨wr.heap.size, 0, none⟩ 1 1 [.string ⟨q6.toArray⟩] rfl rfl (cell_one_new _ _ _) (by intro u hu; simp at hu; subst hu; rfl) (by unfold maxLen; omega) (by omega) (by simp; omega) ?_; intro v7 w7 hown7 hgrow7 hnil7))
              go_roundg (nf - (j + 1))
              case measure => omega
              case rel =>
                refine ⟨j + 1, by go_num, by omega, Nat.le_refl _, ?_, (HBx.out.alloc hBs _).grown hgrow7 (by simp; omega) (fun b hb => (HO.out.lt b hb).1), typed_kept (HO.out.alloc _) hgrow7 (alloc_heap HGx.out) (by decide), typed_kept (HO.out.alloc _) hgrow7 (alloc_heap HVx.out) (by decide), ?_⟩
                · rw [HST.out, List.map_append]
                  exact hown7
                · intro i x hx
                  obtain ⟨g', cur', e1, e2, e3⟩ := HCx.out i x hx
                  exact ⟨g', cur', e1, typed_kept (HO.out.alloc _) hgrow7 (alloc_heap e2) (by decide), e3⟩
            · have hnum := line_num HL.out f (by omega)
              have hmost := most_le (formOf (⟨q0, q1, q2, q3, q4, q5, q6⟩ : Cm).kind.toNat) f
              obtain ⟨x, hx⟩ : ∃ x, numOf ⟨q0, q1, q2, q3, q4, q5, q6⟩ f = x := ⟨_, rfl⟩
              rw [hx] at hnum
              have hxc : wr.cell? ⟨w3.heap.size, f, none⟩ = some (.int .i64 x) := by rw [← hx]; exact cells_at HVx.out (numsA_at _ f (by omega))
              have HXB : Hid (0 ≤ x ∧ x ≤ 4611686018427387903) := ⟨hnum.1, Int.le_trans hnum.2 hmost⟩
              have HXW : Hid (wordOf ⟨q0, q1, q2, q3, q4, q5, q6⟩ f = printL x) := by show wordOf ⟨q0, q1, q2, q3, q4, q5, q6⟩ f = printL x; rw [wordOf, if_neg h6, hx]
              have i1 : (0 : Int) ≤ (f : Int) := by omega
              have i2 : (f : Int) < 6 := by omega
              have i3 : ((f : Int) == 6) = false := by rw [beq_eq_false_iff_ne]; omega
              have HTx := hide (HT.out.below HBx.out)
              clear hnum hmost hx
              go_wp2_with (first
                | (go_at_call 35
                   refine (print_any x _ (by have := HXB.out; omega) (by have := HXB.out; omega) HTx.out.pow).mono ?_
                   rintro e w7 ⟨rfl, B7⟩
                   have HO7 := hide (own_below HO.out B7)
                   have HB7 : Hid (Below w.heap.size w w7) := HBx.out.trans (B7.mono hBs)
                   have HG7 := hide ((B7.block w.heap.size (Array.getElem?_eq_some_iff.1 HGx.out).1).trans HGx.out)
                   have HV7 := hide ((B7.block w3.heap.size (Array.getElem?_eq_some_iff.1 HVx.out).1).trans HVx.out)
                   have HK7 := hide B7
                   have hs7 : w.heap.size ≤ w7.heap.size := HB7.out.size
                   clear B7)
                | (at_builtin; go_must (refine wpList_append_own _ rfl (.tmp 44) (.tmp 49) 39 rfl w.heap.size 9 i9 (.string ⟨#[]⟩) 1 16 Tryd.underlying39 hi hz0 hz1 hz2 rfl (by decide) _ _ _ rfl (HO7.out.alloc _) ⟨w7.heap.size, 0, none⟩ 1 1 [.string ⟨(printL x).toArray⟩] rfl rfl (cell_one_new _ _ _) (by intro u hu; simp at hu; subst hu; rfl) (by unfold maxLen; omega) (by omega) (by simp; omega) ?_; intro v8 w8 hown8 hgrow8 hnil8)))
              go_roundg (nf - (j + 1))
              case measure => omega
              case rel =>
                refine ⟨j + 1, by go_num, by omega, Nat.le_refl _, ?_, (HB7.out.alloc hs7 _).grown hgrow8 (by simp; omega) (fun b hb => (HO7.out.lt b hb).1), typed_kept (HO7.out.alloc _) hgrow8 (alloc_heap HG7.out) (by decide), typed_kept (HO7.out.alloc _) hgrow8 (alloc_heap HV7.out) (by decide), ?_⟩
                · rw [HST.out, List.map_append, HXW.out]
                  exact hown8
                · intro i y hy
                  obtain ⟨g', cur', e1, e2, e3⟩ := HCx.out i y hy
                  exact ⟨g', cur', e1, typed_kept (HO7.out.alloc _) hgrow8 (alloc_heap ((HK7.out.block g' (Array.getElem?_eq_some_iff.1 e2).1).trans e2)) (by decide), e3⟩
          · obtain rfl : j = nf := by omega
            obtain ⟨g, cp, rfl, hcp, hgl, hcs⟩ := own_strs HO.out
            have hwl : (wordsTo ⟨q0, q1, q2, q3, q4, q5, q6⟩ k j).length = j + 1 := wordsTo_len _ k j (by rw [HNF.out]; exact Nat.le_refl _)
            have hwa := wordsTo_all ⟨q0, q1, q2, q3, q4, q5, q6⟩ k j HNF.out (by show q0.toNat = k; rw [HK.out]; simp)
            have hjn := join_any g 0 cp (wordsTo ⟨q0, q1, q2, q3, q4, q5, q6⟩ k j) wr hcs hgl (by omega) (by omega) (by rw [hwa]; have := words_len HL.out; omega)
            rw [hwl, hwa] at hjn
            have HJ := hide hjn
            clear hjn hwa hwl hcs hgl
            obtain ⟨jb, hjb⟩ : ∃ jb, joinB (wordsOf ⟨q0, q1, q2, q3, q4, q5, q6⟩) = jb := ⟨_, rfl⟩
            rw [hjb] at HJ
            have HPS' : Hid (joinV (wordsOf ⟨q0, q1, q2, q3, q4, q5, q6⟩) = ps) := by show joinV (wordsOf ⟨q0, q1, q2, q3, q4, q5, q6⟩) = ps; rw [← HPS.out, printS, if_pos HPF.out]
            rw [HPS'.out] at HJ
            have HPE' : Hid (pe = 0) := by show pe = 0; rw [← HPE.out, printE, if_pos HPF.out]
            clear hjb
            go_wp2_with (go_at_call 36; refine HJ.out.mono ?_; rintro e w9 ⟨rfl, B9⟩; have HB9 : Hid (Below w.heap.size w w9) := HBx.out.trans (B9.mono HBx.out.size); clear B9)
            go_ret2
            exact ⟨by rw [HPE'.out]; rfl, HB9.out⟩
      · subst hb2
        go_enter Tryd.func16, Tryd.ntmps16
        go_wp2_with (first
          | (go_at_call 31
             refine (HF.out _ (HT.out.alloc _)).mono ?_
             rintro e w2 ⟨rfl, B1⟩
             have hb1 := (B1.block w.heap.size (by simp)).trans (heap_alloc_new _ _)
             have HG2 := hide hb1
             have x0 : w2.cell? ⟨w.heap.size, 0, none⟩ = some (.int .i64 q0) := cells_at hb1 rfl
             have x1 : w2.cell? ⟨w.heap.size, 1, none⟩ = some (.int .i64 q1) := cells_at hb1 rfl
             have x2 : w2.cell? ⟨w.heap.size, 2, none⟩ = some (.int .i64 q2) := cells_at hb1 rfl
             have x3 : w2.cell? ⟨w.heap.size, 3, none⟩ = some (.int .i64 q3) := cells_at hb1 rfl
             have x4 : w2.cell? ⟨w.heap.size, 4, none⟩ = some (.int .i64 q4) := cells_at hb1 rfl
             have x5 : w2.cell? ⟨w.heap.size, 5, none⟩ = some (.int .i64 q5) := cells_at hb1 rfl
             have x6 : w2.cell? ⟨w.heap.size, 6, none⟩ = some (.string ⟨q6.toArray⟩) := cells_at hb1 rfl
             have x7 : w2.cell? ⟨w.heap.size, 7, none⟩ = some (.slice a n cap) := cells_at hb1 rfl
             have HB2 : Hid (Below w.heap.size w w2) := ((Below.refl _ w).alloc (Nat.le_refl _) _).trans (B1.mono (by simp))
             have HS2 : Hid (w.heap.size + 1 ≤ w2.heap.size) := (by simpa using B1.size : w.heap.size + 1 ≤ w2.heap.size)
             have HT2 := hide ((HT.out.alloc _).below B1)
             clear B1 hb1))
        refine (HFB.out _).mono ?_
        rintro e w2b ⟨rfl, B2⟩
        have HG2b := hide ((B2.block w.heap.size (by have := HS2.out; omega)).trans HG2.out)
        have HB2b : Hid (Below w.heap.size w w2b) := HB2.out.trans (B2.mono HB2.out.size)
        have HS2b : Hid (w.heap.size + 1 ≤ w2b.heap.size) := Nat.le_trans HS2.out B2.size
        have HT2b := hide (HT2.out.below B2)
        clear B2 x0 x1 x2 x3 x4 x5 x6 x7 HG2 HB2 HS2 HT2
        have z0 : w2b.cell? ⟨w.heap.size, 0, none⟩ = some (.int .i64 q0) := cells_at HG2b.out rfl
        have z1 : w2b.cell? ⟨w.heap.size, 1, none⟩ = some (.int .i64 q1) := cells_at HG2b.out rfl
        have z2 : w2b.cell? ⟨w.heap.size, 2, none⟩ = some (.int .i64 q2) := cells_at HG2b.out rfl
        have z3 : w2b.cell? ⟨w.heap.size, 3, none⟩ = some (.int .i64 q3) := cells_at HG2b.out rfl
        have z4 : w2b.cell? ⟨w.heap.size, 4, none⟩ = some (.int .i64 q4) := cells_at HG2b.out rfl
        have z5 : w2b.cell? ⟨w.heap.size, 5, none⟩ = some (.int .i64 q5) := cells_at HG2b.out rfl
        have z6 : w2b.cell? ⟨w.heap.size, 6, none⟩ = some (.string ⟨q6.toArray⟩) := cells_at HG2b.out rfl
        have z7 : w2b.cell? ⟨w.heap.size, 7, none⟩ = some (.slice a n cap) := cells_at HG2b.out rfl
        go_wp2_with fail
        refine (HNO.out _).mono ?_
        rintro e w3 ⟨rfl, B3⟩
        rw [show numsV (numOf ⟨q0, q1, q2, q3, q4, q5, q6⟩) = .agg #[.int .i64 0, .int .i64 q1, .int .i64 q2, .int .i64 q3, .int .i64 q4, .int .i64 q5] from rfl]
        have HG3 := hide ((B3.block w.heap.size (by have := HS2b.out; omega)).trans HG2b.out)
        have HB3 : Hid (Below w.heap.size w w3) := HB2b.out.trans (B3.mono HB2b.out.size)
        have HS3 : Hid (w.heap.size + 1 ≤ w3.heap.size) := Nat.le_trans HS2b.out B3.size
        have HT3 := hide (HT2b.out.below B3)
        have y0 : w3.cell? ⟨w.heap.size, 0, none⟩ = some (.int .i64 q0) := cells_at HG3.out rfl
        have hlt3 : w.heap.size < w3.heap.size := HS3.out
        clear B3 HG2b HB2b HS2b HT2b
        go_wp2_with (first
          | (go_at_call 10
             refine (name_any _ _ (HT3.out.alloc _)).mono ?_
             rintro e w4 ⟨rfl, hw4⟩
             have hw4 := hw4
             subst hw4
             rw [HNM.out]))
        obtain ⟨w5, hw5⟩ : ∃ w5, w5 = (w3.alloc (.cells #[.int .i64 0, .int .i64 q1, .int .i64 q2, .int .i64 q3, .int .i64 q4, .int .i64 q5] 58)).alloc (.cells #[.string ⟨(verbOf k).toArray⟩] 9) := ⟨_, rfl⟩
        rw [← hw5]
        have HV5 : Hid (w5.heap[w3.heap.size]? = some (.cells (numsA (numOf ⟨q0, q1, q2, q3, q4, q5, q6⟩)) 58 (0, 0))) := by show w5.heap[w3.heap.size]? = _; rw [hw5]; exact two_a _ _ _
        have HW5 : Hid (w5.heap[w3.heap.size + 1]? = some (.cells #[.string ⟨(verbOf k).toArray⟩] 9 (0, 0))) := by show w5.heap[w3.heap.size + 1]? = _; rw [hw5]; exact heap_alloc2_new _ _ _
        have B5 : Below w3.heap.size w3 w5 := by rw [hw5]; exact ((Below.refl _ w3).alloc (Nat.le_refl _) _).alloc (by simp) _
        have hs5 : w5.heap.size = w3.heap.size + 2 := by rw [hw5]; simp
        clear hw5
        refine (fieldsOf_int q0 k HK.out hk25 _ (HT3.out.below B5)).mono ?_
        rintro e w6 ⟨v6, rfl, B6, O6⟩
        have HV6 := hide ((B6.block w3.heap.size (by omega)).trans HV5.out)
        have HW6 := hide ((B6.block (w3.heap.size + 1) (by omega)).trans HW5.out)
        have HG6 := hide ((B6.block w.heap.size (by have := HS3.out; omega)).trans ((B5.block w.heap.size HS3.out).trans HG3.out))
        have HB6 : Hid (Below w.heap.size w w6) := HB3.out.trans ((B5.mono HB3.out.size).trans (B6.mono (by have := HB3.out.size; omega)))
        obtain ⟨a6, cap6, rfl, hc6⟩ := own_block O6
        have HC6 := hide hc6
        have hs6 : w3.heap.size + 2 ≤ w6.heap.size := by have := B6.size; omega
        obtain ⟨nf, hnf⟩ : ∃ nf, (formOf k).length = nf := ⟨_, rfl⟩
        have hn4 : nf ≤ 4 := by rw [← hnf]; exact form_len k hk25
        have HNF := hide hnf
        rw [hnf]
        clear hnf hc6 B5 B6 O6 hs5 HV5 HW5 HG3 HB3 HT3 y0
        go_wp2_with fail
        go_loopg [5, 33] nf (fun gk s5 i wx => ∃ j : Nat, i = .int .i64 j ∧ j ≤ nf ∧ nf - j ≤ gk ∧ Hid (wx.ownsRow w.heap.size 9 1 s5 (j + 1) ((wordsTo ⟨q0, q1, q2, q3, q4, q5, q6⟩ k j).map Value.string)) ∧ Hid (Below w.heap.size w wx) ∧
          Hid (wx.heap[w.heap.size]? = some (.cells #[.int .i64 q0, .int .i64 q1, .int .i64 q2, .int .i64 q3, .int .i64 q4, .int .i64 q5, .string ⟨q6.toArray⟩, .slice a n cap] 27 (0, 0))) ∧ Hid (wx.heap[w3.heap.size]? = some (.cells (numsA (numOf ⟨q0, q1, q2, q3, q4, q5, q6⟩)) 58 (0, 0))) ∧
          Hid (∀ (i : Nat) x, (fldV (formOf k))[i]? = some x → ∃ g cur, a6 = some ⟨g, 0, none⟩ ∧ wx.heap[g]? = some (.cells cur 43 (0, 0)) ∧ cur[i]? = some x))
        case atStart => exact ⟨0, rfl, by omega, by omega, own_one _ HW6.out (by have := HS3.out; omega), HB6, HG6, HV6, HC6⟩
        case round =>
          obtain ⟨j, rfl, hj, hgk, HO, HBx, HGx, HVx, HCx⟩ := hrel
          by_cases hlt : j < nf
          · obtain ⟨f, hf⟩ : ∃ f, (formOf k)[j]? = some f := ⟨_, List.getElem?_eq_getElem (by rw [HNF.out]; exact hlt)⟩
            obtain ⟨g, cur, rfl, hgg, hgx⟩ := HCx.out j (.int .u8 (f : Int)) (by unfold fldV; rw [List.getElem?_map, hf]; rfl)
            have hcw := cells_at hgg hgx
            have hfr := form_field k hk25 f (List.mem_of_getElem? hf)
            have HST := hide (wordsTo_step ⟨q0, q1, q2, q3, q4, q5, q6⟩ k j f hf)
            have hBs := HBx.out.size
            have HMF : Hid (f ∈ formOf k) := List.mem_of_getElem? hf
            clear hf hgx
            have hgl := (Array.getElem?_eq_some_iff.1 hgg).1
            have HGG := hide hgg
            clear hgg
            by_cases h6 : f = 6
            · subst h6
              have ht6 := cells_at HGx.out (i := 6) rfl
              go_wp2_with (at_builtin; go_must (refine wpList_append_own _ rfl (.tmp 39) (.tmp 42) 39 rfl w.heap.size 9 i9 (.string ⟨#[]⟩) 1 16 Tryd.underlying39 hi hz0 hz1 hz2 rfl (by decide) _ _ _ rfl (HO.out.alloc _) ⟨wr.heap.size, 0, none⟩ 1 1 [.string ⟨q6.toArray⟩] rfl rfl (cell_one_new _ _ _) (by intro u hu; simp at hu; subst hu; rfl) (by unfold maxLen; omega) (by omega) (by simp; omega) ?_; intro v7 w7 hown7 hgrow7 hnil7))
              go_roundg (nf - (j + 1))
              case measure => omega
              case rel =>
                refine ⟨j + 1, by go_num, by omega, Nat.le_refl _, ?_, (HBx.out.alloc hBs _).grown hgrow7 (by simp; omega) (fun b hb => (HO.out.lt b hb).1), typed_kept (HO.out.alloc _) hgrow7 (alloc_heap HGx.out) (by decide), typed_kept (HO.out.alloc _) hgrow7 (alloc_heap HVx.out) (by decide), ?_⟩
                · rw [HST.out, List.map_append]
                  exact hown7
                · intro i x hx
                  obtain ⟨g', cur', e1, e2, e3⟩ := HCx.out i x hx
                  exact ⟨g', cur', e1, typed_kept (HO.out.alloc _) hgrow7 (alloc_heap e2) (by decide), e3⟩
            · have hnum := line_num HL.out f (by omega)
              have hmost := most_le (formOf (⟨q0, q1, q2, q3, q4, q5, q6⟩ : Cm).kind.toNat) f
              obtain ⟨x, hx⟩ : ∃ x, numOf ⟨q0, q1, q2, q3, q4, q5, q6⟩ f = x := ⟨_, rfl⟩
              rw [hx] at hnum
              have hxc : wr.cell? ⟨w3.heap.size, f, none⟩ = some (.int .i64 x) := by rw [← hx]; exact cells_at HVx.out (numsA_at _ f (by omega))
              have HXB : Hid (0 ≤ x ∧ x ≤ 4611686018427387903) := ⟨hnum.1, Int.le_trans hnum.2 hmost⟩
              have HXW : Hid (wordOf ⟨q0, q1, q2, q3, q4, q5, q6⟩ f = printL x) := by show wordOf ⟨q0, q1, q2, q3, q4, q5, q6⟩ f = printL x; rw [wordOf, if_neg h6, hx]
              have i1 : (0 : Int) ≤ (f : Int) := by omega
              have i2 : (f : Int) < 6 := by omega
              have i3 : ((f : Int) == 6) = false := by rw [beq_eq_false_iff_ne]; omega
              have HTx := hide (HT.out.below HBx.out)
              clear hnum hmost hx
              go_wp2_with (first
                | (go_at_call 35
                   refine (print_any x _ (by have := HXB.out; omega) (by have := HXB.out; omega) HTx.out.pow).mono ?_
                   rintro e w7 ⟨rfl, B7⟩
                   have HO7 := hide (own_below HO.out B7)
                   have HB7 : Hid (Below w.heap.size w w7) := HBx.out.trans (B7.mono hBs)
                   have HG7 := hide ((B7.block w.heap.size (Array.getElem?_eq_some_iff.1 HGx.out).1).trans HGx.out)
                   have HV7 := hide ((B7.block w3.heap.size (Array.getElem?_eq_some_iff.1 HVx.out).1).trans HVx.out)
                   have HK7 := hide B7
                   have hs7 : w.heap.size ≤ w7.heap.size := HB7.out.size
                   clear B7)
                | (at_builtin; go_must (refine wpList_append_own _ rfl (.tmp 44) (.tmp 49) 39 rfl w.heap.size 9 i9 (.string ⟨#[]⟩) 1 16 Tryd.underlying39 hi hz0 hz1 hz2 rfl (by decide) _ _ _ rfl (HO7.out.alloc _) ⟨w7.heap.size, 0, none⟩ 1 1 [.string ⟨(printL x).toArray⟩] rfl rfl (cell_one_new _ _ _) (by intro u hu; simp at hu; subst hu; rfl) (by unfold maxLen; omega) (by omega) (by simp; omega) ?_; intro v8 w8 hown8 hgrow8 hnil8)))
              go_roundg (nf - (j + 1))
              case measure => omega
              case rel =>
                refine ⟨j + 1, by go_num, by omega, Nat.le_refl _, ?_, (HB7.out.alloc hs7 _).grown hgrow8 (by simp; omega) (fun b hb => (HO7.out.lt b hb).1), typed_kept (HO7.out.alloc _) hgrow8 (alloc_heap HG7.out) (by decide), typed_kept (HO7.out.alloc _) hgrow8 (alloc_heap HV7.out) (by decide), ?_⟩
                · rw [HST.out, List.map_append, HXW.out]
                  exact hown8
                · intro i y hy
                  obtain ⟨g', cur', e1, e2, e3⟩ := HCx.out i y hy
                  exact ⟨g', cur', e1, typed_kept (HO7.out.alloc _) hgrow8 (alloc_heap ((HK7.out.block g' (Array.getElem?_eq_some_iff.1 e2).1).trans e2)) (by decide), e3⟩
          · obtain rfl : j = nf := by omega
            obtain ⟨g, cp, rfl, hcp, hgl, hcs⟩ := own_strs HO.out
            have hwl : (wordsTo ⟨q0, q1, q2, q3, q4, q5, q6⟩ k j).length = j + 1 := wordsTo_len _ k j (by rw [HNF.out]; exact Nat.le_refl _)
            have hwa := wordsTo_all ⟨q0, q1, q2, q3, q4, q5, q6⟩ k j HNF.out (by show q0.toNat = k; rw [HK.out]; simp)
            have hjn := join_any g 0 cp (wordsTo ⟨q0, q1, q2, q3, q4, q5, q6⟩ k j) wr hcs hgl (by omega) (by omega) (by rw [hwa]; have := words_len HL.out; omega)
            rw [hwl, hwa] at hjn
            have HJ := hide hjn
            clear hjn hwa hwl hcs hgl
            obtain ⟨jb, hjb⟩ : ∃ jb, joinB (wordsOf ⟨q0, q1, q2, q3, q4, q5, q6⟩) = jb := ⟨_, rfl⟩
            rw [hjb] at HJ
            have HPS' : Hid (joinV (wordsOf ⟨q0, q1, q2, q3, q4, q5, q6⟩) = ps) := by show joinV (wordsOf ⟨q0, q1, q2, q3, q4, q5, q6⟩) = ps; rw [← HPS.out, printS, if_pos HPF.out]
            rw [HPS'.out] at HJ
            have HPE' : Hid (pe = 0) := by show pe = 0; rw [← HPE.out, printE, if_pos HPF.out]
            clear hjb
            go_wp2_with (go_at_call 36; refine HJ.out.mono ?_; rintro e w9 ⟨rfl, B9⟩; have HB9 : Hid (Below w.heap.size w w9) := HBx.out.trans (B9.mono HBx.out.size); clear B9)
            go_ret2
            exact ⟨by rw [HPE'.out]; rfl, HB9.out⟩
    · have hp1 : ¬ q0 = 1 := fun h => hput (.inl h)
      have hp2 : ¬ n = 0 := fun h => hput (.inr h)
      have hb2 : b2 = false := by
        have := HB.out
        rw [bodyB, if_neg hp1] at this
        rw [← this]
        simp [hp2]
      subst hb2
      have hpb : (q0 != 1) = true := by simp [hp1]
      have HPF : Hid (printB ⟨q0, q1, q2, q3, q4, q5, q6⟩ n = false) := by
        show printB ⟨q0, q1, q2, q3, q4, q5, q6⟩ n = false
        unfold printB
        simp [hp1, hp2]
      clear hput hp1 hp2
      go_enter Tryd.func16, Tryd.ntmps16
      go_wp2_with (first
        | (go_at_call 31
           refine (HF.out _ (HT.out.alloc _)).mono ?_
           rintro e w1 ⟨rfl, B1⟩
           have hb1 := (B1.block w.heap.size (by simp)).trans (heap_alloc_new _ _)
           have x0 : w1.cell? ⟨w.heap.size, 0, none⟩ = some (.int .i64 q0) := cells_at hb1 rfl
           have x1 : w1.cell? ⟨w.heap.size, 1, none⟩ = some (.int .i64 q1) := cells_at hb1 rfl
           have x2 : w1.cell? ⟨w.heap.size, 2, none⟩ = some (.int .i64 q2) := cells_at hb1 rfl
           have x3 : w1.cell? ⟨w.heap.size, 3, none⟩ = some (.int .i64 q3) := cells_at hb1 rfl
           have x4 : w1.cell? ⟨w.heap.size, 4, none⟩ = some (.int .i64 q4) := cells_at hb1 rfl
           have x5 : w1.cell? ⟨w.heap.size, 5, none⟩ = some (.int .i64 q5) := cells_at hb1 rfl
           have x6 : w1.cell? ⟨w.heap.size, 6, none⟩ = some (.string ⟨q6.toArray⟩) := cells_at hb1 rfl
           have x7 : w1.cell? ⟨w.heap.size, 7, none⟩ = some (.slice a n cap) := cells_at hb1 rfl
           have HB1 : Hid (Below w.heap.size w w1) := ((Below.refl _ w).alloc (Nat.le_refl _) _).trans (B1.mono (by simp))
           clear B1 hb1)
        | (go_at_call 32
           refine (HFB.out _).mono ?_
           rintro e w2 ⟨rfl, B2⟩
           have HB2 : Hid (Below w.heap.size w w2) := HB1.out.trans (B2.mono HB1.out.size)
           clear B2))
      go_ret2
      refine ⟨?_, HB2.out⟩
      rw [← HPS.out, ← HPE.out, printS, printE, HPF.out]
      rfl
end Go.Proofs.YtfecbepleeoibaaDoor
