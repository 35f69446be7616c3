/-
  The walk of ScriptBack.
-/
import Derived.Test.YteecmbpabkndlaaDoorBeyond
import Derived.Test.YteecmbpabkndlaaDoorRemKit
import Derived.Test.YteecmbpabkndlaaDoorPlainBackT
namespace Go.Proofs.YteecmbpabkndlaaDoor.scriptBack
open Go.RowKit

theorem parse_bad {t : Tx} {st : Rd} {n e : Int} (h : parseP t = (st, n, e)) (he : e ≠ 0) : st.steps = [] := by
  unfold parseP at h
  split at h
  · cases h; rfl
  · split at h
    · cases h; rfl
    · split at h
      · cases h; exact absurd rfl he
      · cases h; rfl
theorem write_code : ∀ (l : List StepP) (t : Tx) (c : Int), writeP t l = .error c → c ≠ 0
  | [], t, c, h => by rw [writeP] at h; cases h
  | p :: r, t, c, h => by
    rw [writeP] at h
    split at h
    · cases h; decide
    · split at h
      · cases h; decide
      · exact write_code r _ c h
theorem print_code {j s q : Int} {l : List StepP} {c : Int} (h : printP j s q l = .error c) : c ≠ 0 := by
  unfold printP at h
  split at h
  · cases h; decide
  · split at h
    · cases h; decide
    · exact write_code _ _ c h
set_option maxHeartbeats 8000000 in
set_option maxRecDepth 1000000 in
theorem walk (j s q : Int) (a : Option Addr) (c : Nat) (l : List Sq) (x1 : ByteArray) (W : World) (h : PlayIn W (.slice a l.length c) l) (_ : x1.size ≤ maxLen) (T : Tabs W) (h6 : 6 ≤ W.heap.size) :
    Calls Tryd.prog 5 #[.agg #[.int .i64 j, .int .i64 s, .int .i64 q, .slice a l.length c], .string x1] W fun e w' => e = .returned (.bool true) ∧ Below W.heap.size W w' := by
  have b0 : Below W.heap.size W (W.alloc (.cells #[.int .i64 j, .int .i64 s, .int .i64 q, .slice a l.length c] 31)) := (Below.refl _ W).alloc (Nat.le_refl _) _
  have CB := hide (beyond_some (W.alloc (.cells #[.int .i64 j, .int .i64 s, .int .i64 q, .slice a l.length c] 31)) j s q a c l (h.later b0))
  have LW0 := hide b0
  have X0 := hide (heap_alloc_new W (.cells #[.int .i64 j, .int .i64 s, .int .i64 q, .slice a l.length c] 31))
  have HP := hide h
  have HT := hide T
  clear h T b0
  go_enter Tryd.func5, Tryd.ntmps5
  go_wp2_with fail
  refine CB.out.mono ?_
  rintro e w1 ⟨⟨b, rfl⟩, b1⟩
  have LW1 := hide (LW0.out.trans (b1.mono LW0.out.size))
  cases b
  rotate_left
  · clear b1
    go_wp2_with fail
    go_ret
    exact ⟨rfl, LW1.out⟩
  have X1 := hide ((b1.block _ (Array.getElem?_eq_some_iff.1 X0.out).1).trans X0.out)
  clear b1
  have CS := hide (shown_any w1 (HT.out.below LW1.out) (by have := LW1.out.size; omega))
  go_wp2_with fail
  refine CS.out.mono ?_
  rintro e w2 ⟨rfl, b2⟩
  have LW2 := hide (LW1.out.trans (b2.mono LW1.out.size))
  have X2 := hide ((b2.block _ (Array.getElem?_eq_some_iff.1 X1.out).1).trans X1.out)
  obtain ⟨y0, y1, y2, y3⟩ : w2.cell? ⟨W.heap.size, 0, none⟩ = some (.int .i64 j) ∧ w2.cell? ⟨W.heap.size, 1, none⟩ = some (.int .i64 s) ∧ w2.cell? ⟨W.heap.size, 2, none⟩ = some (.int .i64 q) ∧ w2.cell? ⟨W.heap.size, 3, none⟩ = some (.slice a l.length c) := by simp [World.cell?, X2.out]
  clear b2 CS CB
  have CP := hide (print_any19 w2 j s q _ l (HT.out.below LW2.out) (by have := LW2.out.size; omega) (HP.out.later LW2.out))
  go_wp2_with fail
  refine CP.out.mono ?_
  rintro e w3 ⟨b3, he3⟩
  have LW3 := hide (LW2.out.trans (b3.mono LW2.out.size))
  have X3 := hide ((b3.block _ (Array.getElem?_eq_some_iff.1 X2.out).1).trans X2.out)
  clear y0 y1 y2 y3 CP
  cases hp : printP j s q (l.map (·.p)) with
  | ok u =>
    rw [show printR j s q (l.map (·.p)) = (u, 0) by unfold printR; rw [hp]] at he3
    subst he3
    have hpb := print_back hp
    have HPB := hide hpb.2
    have hul : ¬ (1048576 : Int) < (u.length : Int) := by have := hpb.1; omega
    clear b3 hp hpb
    go_wp2_with fail
    refine (parse_any19 w3 ⟨u.toArray⟩ (HT.out.below LW3.out) (by have := LW3.out.size; omega)).mono ?_
    rintro e w4 ⟨b4, sv4, l4, he4, hs4, hm4⟩
    rw [HPB.out] at he4 hm4
    simp only [] at he4 hm4
    obtain ⟨a4, c4, hsv4⟩ := hs4.form
    subst hsv4
    subst he4
    have hl44 : l4.length ≤ 4000 := by
      have h1 := congrArg List.length hm4
      have h2 := parse_few u
      rw [HPB.out] at h2
      simp only [] at h2
      rw [List.length_map] at h1
      omega
    have b5 : Below w4.heap.size w4 (w4.alloc (.cells #[.int .i64 j, .int .i64 s, .int .i64 q, .slice a4 l4.length c4] 31)) := (Below.refl _ w4).alloc (Nat.le_refl _) _
    have q5 := b4.trans (b5.mono b4.size)
    have hX := (q5.block _ (Array.getElem?_eq_some_iff.1 X3.out).1).trans X3.out
    obtain ⟨z0, z1, z2, z3⟩ : (w4.alloc (.cells #[.int .i64 j, .int .i64 s, .int .i64 q, .slice a4 l4.length c4] 31)).cell? ⟨W.heap.size, 0, none⟩ = some (.int .i64 j) ∧ (w4.alloc (.cells #[.int .i64 j, .int .i64 s, .int .i64 q, .slice a4 l4.length c4] 31)).cell? ⟨W.heap.size, 1, none⟩ = some (.int .i64 s) ∧ (w4.alloc (.cells #[.int .i64 j, .int .i64 s, .int .i64 q, .slice a4 l4.length c4] 31)).cell? ⟨W.heap.size, 2, none⟩ = some (.int .i64 q) ∧ (w4.alloc (.cells #[.int .i64 j, .int .i64 s, .int .i64 q, .slice a4 l4.length c4] 31)).cell? ⟨W.heap.size, 3, none⟩ = some (.slice a l.length c) := by simp [World.cell?, hX]
    have LW5 := hide (LW3.out.trans (q5.mono LW3.out.size))
    have CS := hide (same_same (w4.alloc (.cells #[.int .i64 j, .int .i64 s, .int .i64 q, .slice a4 l4.length c4] 31)) j s q _ _ l4 l ((steps_in hs4 hl44).later b5) (HP.out.later LW5.out) hm4)
    clear b4 b5 q5 hX hs4 hm4 hl44
    go_wp2_with fail
    refine CS.out.mono ?_
    rintro e w6 ⟨rfl, b6⟩
    have LW := hide (LW5.out.trans (b6.mono LW5.out.size))
    clear b6 CS z0 z1 z2 z3
    go_wp2_with fail
    refine (parse_any19 w6 x1 (HT.out.below LW.out) (by have := LW.out.size; omega)).mono ?_
    rintro e w7 ⟨b7, sv7, l7, he7, hs7, hm7⟩
    obtain ⟨a7, c7, hsv7⟩ := hs7.form
    subst hsv7
    have hl74 : l7.length ≤ 4000 := by
      have h1 := congrArg List.length hm7
      rw [List.length_map] at h1
      have h2 := parse_few x1.data.toList
      omega
    obtain ⟨st, n7, e7, hst⟩ : ∃ st n e, parseP x1.data.toList = (st, n, e) := ⟨_, _, _, rfl⟩
    rw [hst] at he7 hm7
    simp only [] at he7 hm7
    subst he7
    have LW7 := hide (LW.out.trans (b7.mono LW.out.size))
    by_cases he0 : e7 = 0
    · subst he0
      have HB7 : Hid (st.hd = true ∧ n7 = 0 ∧ x1.data.toList.length ≤ 1048576 ∧ ((∃ u, printP st.j st.s st.q st.steps = .ok u ∧ u.length ≤ x1.data.toList.length + 1) ∨ (printP st.j st.s st.q st.steps = .error 193 ∧ x1.data.toList.length = 1048576))) := parse_back hst
      have b8 : Below w7.heap.size w7 (w7.alloc (.cells #[.int .i64 st.j, .int .i64 st.s, .int .i64 st.q, .slice a7 l7.length c7] 31)) := (Below.refl _ w7).alloc (Nat.le_refl _) _
      have LW8 := hide (LW7.out.trans (b8.mono LW7.out.size))
      have HP8 := hide ((steps_in hs7 hl74).later b8)
      have X8 := hide (heap_alloc_new w7 (.cells #[.int .i64 st.j, .int .i64 st.s, .int .i64 st.q, .slice a7 l7.length c7] 31))
      have CP : Hid (Calls Tryd.prog 16 #[.agg #[.int .i64 st.j, .int .i64 st.s, .int .i64 st.q, .slice a7 l7.length c7]] (w7.alloc (.cells #[.int .i64 st.j, .int .i64 st.s, .int .i64 st.q, .slice a7 l7.length c7] 31)) (PrintPost (w7.alloc (.cells #[.int .i64 st.j, .int .i64 st.s, .int .i64 st.q, .slice a7 l7.length c7] 31)) st.j st.s st.q (l7.map (·.p)))) := print_any19 _ st.j st.s st.q _ l7 (HT.out.below LW8.out) (by have := LW8.out.size; omega) HP8.out
      rw [hm7] at CP
      have HM7 := hide hm7
      have hxl : x1.data.toList.length = x1.size := by simp
      rw [hxl] at HB7
      clear hst hs7 hm7 b7 b8 hl74 hxl
      go_wp2_with fail
      refine CP.out.mono ?_
      rintro e w9 ⟨b9, he9⟩
      have LW9 := hide (LW8.out.trans (b9.mono LW8.out.size))
      rcases HB7.out.2.2.2 with ⟨u, hu, hul⟩ | ⟨hu, hul⟩
      · rw [show printR st.j st.s st.q st.steps = (u, 0) by unfold printR; rw [hu]] at he9
        subst he9
        have hpb := print_back hu
        have X9 := hide ((b9.block _ (Array.getElem?_eq_some_iff.1 X8.out).1).trans X8.out)
        have HP9 := hide (HP8.out.later b9)
        have hul1 : (u.length : Int) ≤ (x1.size : Int) + 1 := by omega
        have hx20 := HB7.out.2.2.1
        have HPB := hide hpb.2
        clear b9 hu hpb
        go_wp2_with fail
        refine (parse_any19 w9 ⟨u.toArray⟩ (HT.out.below LW9.out) (by have := LW9.out.size; omega)).mono ?_
        rintro e wa ⟨ba, sva, la, hea, hsa, hma⟩
        rw [HPB.out] at hea hma
        simp only [] at hea hma
        obtain ⟨aa, ca, hsva⟩ := hsa.form
        subst hsva
        subst hea
        have hla4 : la.length ≤ 4000 := by
          have h1 := congrArg List.length hma
          have h2 := congrArg List.length HM7.out
          have h3 := parse_few x1.data.toList
          rw [List.length_map] at h1 h2
          have h4 : (printP st.j st.s st.q st.steps = .error 194) ∨ st.steps.length ≤ 4000 := by
            by_cases h : st.steps.length ≤ 4000
            · exact .inr h
            · exact .inr (by have := HPB.out; have := parse_few u; rw [HPB.out] at this; exact this)
          rcases h4 with h4 | h4
          · have := parse_few u
            rw [HPB.out] at this
            simp only [] at this
            omega
          · omega
        have bb : Below wa.heap.size wa (wa.alloc (.cells #[.int .i64 st.j, .int .i64 st.s, .int .i64 st.q, .slice aa la.length ca] 31)) := (Below.refl _ wa).alloc (Nat.le_refl _) _
        have q9 := ba.trans (bb.mono ba.size)
        have hX := (q9.block _ (Array.getElem?_eq_some_iff.1 X9.out).1).trans X9.out
        obtain ⟨z0, z1, z2, z3⟩ : (wa.alloc (.cells #[.int .i64 st.j, .int .i64 st.s, .int .i64 st.q, .slice aa la.length ca] 31)).cell? ⟨w7.heap.size, 0, none⟩ = some (.int .i64 st.j) ∧ (wa.alloc (.cells #[.int .i64 st.j, .int .i64 st.s, .int .i64 st.q, .slice aa la.length ca] 31)).cell? ⟨w7.heap.size, 1, none⟩ = some (.int .i64 st.s) ∧ (wa.alloc (.cells #[.int .i64 st.j, .int .i64 st.s, .int .i64 st.q, .slice aa la.length ca] 31)).cell? ⟨w7.heap.size, 2, none⟩ = some (.int .i64 st.q) ∧ (wa.alloc (.cells #[.int .i64 st.j, .int .i64 st.s, .int .i64 st.q, .slice aa la.length ca] 31)).cell? ⟨w7.heap.size, 3, none⟩ = some (.slice a7 l7.length c7) := by simp [World.cell?, hX]
        have CS := hide (same_same (wa.alloc (.cells #[.int .i64 st.j, .int .i64 st.s, .int .i64 st.q, .slice aa la.length ca] 31)) st.j st.s st.q _ _ la l7 ((steps_in hsa hla4).later bb) (HP9.out.later q9) (by rw [hma, HM7.out]))
        have LWb := hide (LW9.out.trans (q9.mono LW9.out.size))
        clear ba bb q9 hX hsa hma hla4
        go_wp2_with fail
        refine CS.out.mono ?_
        rintro e wc ⟨rfl, bc⟩
        have LWc := hide (LWb.out.trans (bc.mono LWb.out.size))
        clear bc
        go_wp2_with fail
        go_ret
        exact ⟨rfl, LWc.out⟩
      · rw [show printR st.j st.s st.q st.steps = ([], 193) by unfold printR; rw [hu]] at he9
        subst he9
        have hx20 : ((x1.size : Int) == 1048576) = true := by rw [beq_iff_eq]; omega
        clear b9 hu
        go_wp2_with fail
        go_ret
        exact ⟨rfl, LW9.out⟩
    · have h0 : st.steps = [] := parse_bad hst he0
      rw [h0] at hm7
      have hl0 : l7 = [] := by simpa using hm7
      subst hl0
      have hne : (e7 != 0) = true := by simpa using he0
      have LW8 : Hid (Below W.heap.size W (w7.alloc (.cells #[.int .i64 st.j, .int .i64 st.s, .int .i64 st.q, .slice a7 0 c7] 31))) := LW7.out.trans (((Below.refl _ w7).alloc (Nat.le_refl _) _).mono LW7.out.size)
      clear hst hs7 hm7 b7 hl74 h0
      go_wp2_with fail
      go_ret
      exact ⟨rfl, LW8.out⟩
  | error ec =>
    rw [show printR j s q (l.map (·.p)) = ([], ec) by unfold printR; rw [hp]] at he3
    subst he3
    have hne : (ec == 0) = false := by have := print_code hp; simpa using this
    have LW := LW3
    clear b3 hp
    go_wp2_with fail
    refine (parse_any19 w3 x1 (HT.out.below LW.out) (by have := LW.out.size; omega)).mono ?_
    rintro e w7 ⟨b7, sv7, l7, he7, hs7, hm7⟩
    obtain ⟨a7, c7, hsv7⟩ := hs7.form
    subst hsv7
    have hl74 : l7.length ≤ 4000 := by
      have h1 := congrArg List.length hm7
      rw [List.length_map] at h1
      have h2 := parse_few x1.data.toList
      omega
    obtain ⟨st, n7, e7, hst⟩ : ∃ st n e, parseP x1.data.toList = (st, n, e) := ⟨_, _, _, rfl⟩
    rw [hst] at he7 hm7
    simp only [] at he7 hm7
    subst he7
    have LW7 := hide (LW.out.trans (b7.mono LW.out.size))
    by_cases he0 : e7 = 0
    · subst he0
      have HB7 : Hid (st.hd = true ∧ n7 = 0 ∧ x1.data.toList.length ≤ 1048576 ∧ ((∃ u, printP st.j st.s st.q st.steps = .ok u ∧ u.length ≤ x1.data.toList.length + 1) ∨ (printP st.j st.s st.q st.steps = .error 193 ∧ x1.data.toList.length = 1048576))) := parse_back hst
      have b8 : Below w7.heap.size w7 (w7.alloc (.cells #[.int .i64 st.j, .int .i64 st.s, .int .i64 st.q, .slice a7 l7.length c7] 31)) := (Below.refl _ w7).alloc (Nat.le_refl _) _
      have LW8 := hide (LW7.out.trans (b8.mono LW7.out.size))
      have HP8 := hide ((steps_in hs7 hl74).later b8)
      have X8 := hide (heap_alloc_new w7 (.cells #[.int .i64 st.j, .int .i64 st.s, .int .i64 st.q, .slice a7 l7.length c7] 31))
      have CP : Hid (Calls Tryd.prog 16 #[.agg #[.int .i64 st.j, .int .i64 st.s, .int .i64 st.q, .slice a7 l7.length c7]] (w7.alloc (.cells #[.int .i64 st.j, .int .i64 st.s, .int .i64 st.q, .slice a7 l7.length c7] 31)) (PrintPost (w7.alloc (.cells #[.int .i64 st.j, .int .i64 st.s, .int .i64 st.q, .slice a7 l7.length c7] 31)) st.j st.s st.q (l7.map (·.p)))) := print_any19 _ st.j st.s st.q _ l7 (HT.out.below LW8.out) (by have := LW8.out.size; omega) HP8.out
      rw [hm7] at CP
      have HM7 := hide hm7
      have hxl : x1.data.toList.length = x1.size := by simp
      rw [hxl] at HB7
      clear hst hs7 hm7 b7 b8 hl74 hxl
      go_wp2_with fail
      refine CP.out.mono ?_
      rintro e w9 ⟨b9, he9⟩
      have LW9 := hide (LW8.out.trans (b9.mono LW8.out.size))
      rcases HB7.out.2.2.2 with ⟨u, hu, hul⟩ | ⟨hu, hul⟩
      · rw [show printR st.j st.s st.q st.steps = (u, 0) by unfold printR; rw [hu]] at he9
        subst he9
        have hpb := print_back hu
        have X9 := hide ((b9.block _ (Array.getElem?_eq_some_iff.1 X8.out).1).trans X8.out)
        have HP9 := hide (HP8.out.later b9)
        have hul1 : (u.length : Int) ≤ (x1.size : Int) + 1 := by omega
        have hx20 := HB7.out.2.2.1
        have HPB := hide hpb.2
        clear b9 hu hpb
        go_wp2_with fail
        refine (parse_any19 w9 ⟨u.toArray⟩ (HT.out.below LW9.out) (by have := LW9.out.size; omega)).mono ?_
        rintro e wa ⟨ba, sva, la, hea, hsa, hma⟩
        rw [HPB.out] at hea hma
        simp only [] at hea hma
        obtain ⟨aa, ca, hsva⟩ := hsa.form
        subst hsva
        subst hea
        have hla4 : la.length ≤ 4000 := by
          have h1 := congrArg List.length hma
          have h2 := congrArg List.length HM7.out
          have h3 := parse_few x1.data.toList
          rw [List.length_map] at h1 h2
          have h4 : (printP st.j st.s st.q st.steps = .error 194) ∨ st.steps.length ≤ 4000 := by
            by_cases h : st.steps.length ≤ 4000
            · exact .inr h
            · exact .inr (by have := HPB.out; have := parse_few u; rw [HPB.out] at this; exact this)
          rcases h4 with h4 | h4
          · have := parse_few u
            rw [HPB.out] at this
            simp only [] at this
            omega
          · omega
        have bb : Below wa.heap.size wa (wa.alloc (.cells #[.int .i64 st.j, .int .i64 st.s, .int .i64 st.q, .slice aa la.length ca] 31)) := (Below.refl _ wa).alloc (Nat.le_refl _) _
        have q9 := ba.trans (bb.mono ba.size)
        have hX := (q9.block _ (Array.getElem?_eq_some_iff.1 X9.out).1).trans X9.out
        obtain ⟨z0, z1, z2, z3⟩ : (wa.alloc (.cells #[.int .i64 st.j, .int .i64 st.s, .int .i64 st.q, .slice aa la.length ca] 31)).cell? ⟨w7.heap.size, 0, none⟩ = some (.int .i64 st.j) ∧ (wa.alloc (.cells #[.int .i64 st.j, .int .i64 st.s, .int .i64 st.q, .slice aa la.length ca] 31)).cell? ⟨w7.heap.size, 1, none⟩ = some (.int .i64 st.s) ∧ (wa.alloc (.cells #[.int .i64 st.j, .int .i64 st.s, .int .i64 st.q, .slice aa la.length ca] 31)).cell? ⟨w7.heap.size, 2, none⟩ = some (.int .i64 st.q) ∧ (wa.alloc (.cells #[.int .i64 st.j, .int .i64 st.s, .int .i64 st.q, .slice aa la.length ca] 31)).cell? ⟨w7.heap.size, 3, none⟩ = some (.slice a7 l7.length c7) := by simp [World.cell?, hX]
        have CS := hide (same_same (wa.alloc (.cells #[.int .i64 st.j, .int .i64 st.s, .int .i64 st.q, .slice aa la.length ca] 31)) st.j st.s st.q _ _ la l7 ((steps_in hsa hla4).later bb) (HP9.out.later q9) (by rw [hma, HM7.out]))
        have LWb := hide (LW9.out.trans (q9.mono LW9.out.size))
        clear ba bb q9 hX hsa hma hla4
        go_wp2_with fail
        refine CS.out.mono ?_
        rintro e wc ⟨rfl, bc⟩
        have LWc := hide (LWb.out.trans (bc.mono LWb.out.size))
        clear bc
        go_wp2_with fail
        go_ret
        exact ⟨rfl, LWc.out⟩
      · rw [show printR st.j st.s st.q st.steps = ([], 193) by unfold printR; rw [hu]] at he9
        subst he9
        have hx20 : ((x1.size : Int) == 1048576) = true := by rw [beq_iff_eq]; omega
        clear b9 hu
        go_wp2_with fail
        go_ret
        exact ⟨rfl, LW9.out⟩
    · have h0 : st.steps = [] := parse_bad hst he0
      rw [h0] at hm7
      have hl0 : l7 = [] := by simpa using hm7
      subst hl0
      have hne : (e7 != 0) = true := by simpa using he0
      have LW8 : Hid (Below W.heap.size W (w7.alloc (.cells #[.int .i64 st.j, .int .i64 st.s, .int .i64 st.q, .slice a7 0 c7] 31))) := LW7.out.trans (((Below.refl _ w7).alloc (Nat.le_refl _) _).mono LW7.out.size)
      clear hst hs7 hm7 b7 hl74 h0
      go_wp2_with fail
      go_ret
      exact ⟨rfl, LW8.out⟩
end Go.Proofs.YteecmbpabkndlaaDoor.scriptBack
