/-
  The walks of wordsOf.
-/
import Derived.Test.YtienggblpmkjjaaDoorReadA
import Derived.Maps.AppendAt
namespace Go.Proofs.YtienggblpmkjjaaDoor
open Go.RowKit Go.Sort

theorem info_string : (Tryd.prog.info? 9).map (fun i => (i.zero, i.size, i.bytes)) = some (some (.string ⟨#[]⟩), 1, 16) := by kernel_rfl
theorem two_size (w : World) (o1 o2 : Obj) : ((w.alloc o1).alloc o2).heap.size = w.heap.size + 1 + 1 := by simp
theorem own_one {w : World} {B g : Nat} (x : ByteArray) (hg : w.heap[g]? = some (.cells #[.string x] 9 (0, 0))) (hB : B ≤ g) : w.ownsRow B 9 1 (.slice (some ⟨g, 0, none⟩) 1 1) 1 ([x].map Value.string) :=
  ⟨rfl, .inr ⟨g, 1, _, rfl, hB, hg, Nat.le_refl _, by decide, rfl, rfl⟩⟩
theorem own_below {w w1 : World} {B e n : Nat} {v : Value} {xs : List Value} (h : w.ownsRow B e 1 v n xs) (hb : Below w.heap.size w w1) : w1.ownsRow B e 1 v n xs :=
  Kept.own (Kept.ofBelow (P := fun _ => False) hb) h (fun _ _ h => h)
theorem typed_kept {w w1 : World} {B e n : Nat} {v : Value} {xs : List Value} (ho : w.ownsRow B e 1 v n xs) (h : w.grownBy w1 v.ownBlock) {g : Nat} {cur : Array Value} {t : TypeId} {fr : Nat × Nat} (hg : w.heap[g]? = some (.cells cur t fr)) (ht : t ≠ e) :
    w1.heap[g]? = some (.cells cur t fr) := by
  refine (h.block g (Array.getElem?_eq_some_iff.1 hg).1 (fun e' => ?_)).trans hg
  rcases ho.2 with ⟨rfl, _⟩ | ⟨g', cap, cur', rfl, hb, hg', _⟩
  · cases e'
  · simp only [Value.ownBlock, Option.some.injEq] at e'
    subst e'
    rw [hg] at hg'
    cases hg'
    exact ht rfl
/-- What lies about in wordsOf. -/
structure Wk (w0 W : World) (k id num : Int) (tube : ByteArray) (b v : Value) (ws : List ByteArray) : Prop where
  own : W.ownsRow w0.heap.size 9 1 v ws.length (ws.map Value.string)
  low : Below w0.heap.size w0 W
  rep : W.heap[w0.heap.size]? = some (.cells #[.int .i64 k, .int .i64 id, .int .i64 num, .string tube, b] 24 (0, 0))
theorem Wk.below {w0 W W' : World} {k id num : Int} {tube : ByteArray} {b v : Value} {ws : List ByteArray} (h : Wk w0 W k id num tube b v ws) (hb : Below W.heap.size W W') : Wk w0 W' k id num tube b v ws :=
  ⟨own_below h.own hb, h.low.trans (hb.mono h.low.size), (hb.block _ (Array.getElem?_eq_some_iff.1 h.rep).1).trans h.rep⟩
theorem Wk.cells {w0 W : World} {k id num : Int} {tube : ByteArray} {b v : Value} {ws : List ByteArray} (h : Wk w0 W k id num tube b v ws) : W.cell? ⟨w0.heap.size, 0, none⟩ = some (.int .i64 k) ∧ W.cell? ⟨w0.heap.size, 1, none⟩ = some (.int .i64 id) ∧ W.cell? ⟨w0.heap.size, 2, none⟩ = some (.int .i64 num) ∧ W.cell? ⟨w0.heap.size, 3, none⟩ = some (.string tube) ∧ W.cell? ⟨w0.heap.size, 4, none⟩ = some b ∧ w0.heap.size < W.heap.size :=
  ⟨cells_at h.rep rfl, cells_at h.rep rfl, cells_at h.rep rfl, cells_at h.rep rfl, cells_at h.rep rfl, (Array.getElem?_eq_some_iff.1 h.rep).1⟩
theorem Wk.start (w : World) (k id num : Int) (tube : ByteArray) (b : Value) (x : ByteArray) : Wk w ((w.alloc (.cells #[.int .i64 k, .int .i64 id, .int .i64 num, .string tube, b] 24)).alloc (.cells #[.string x] 9)) k id num tube b (.slice (some ⟨w.heap.size + 1, 0, none⟩) 1 1) [x] :=
  ⟨own_one x (heap_alloc2_new w _ _) (by omega), ((Below.refl _ w).alloc (Nat.le_refl _) _).alloc (by simp) _, alloc_heap (heap_alloc_new w _)⟩
theorem Wk.grown {w0 W W' : World} {k id num : Int} {tube : ByteArray} {b v v' : Value} {ws : List ByteArray} {x : ByteArray} (h : Wk w0 W k id num tube b v ws) (ho : W'.ownsRow w0.heap.size 9 1 v' (ws.length + 1) (ws.map Value.string ++ [.string x])) (hg : W.grownBy W' v.ownBlock) : Wk w0 W' k id num tube b v' (ws ++ [x]) :=
  ⟨by rw [List.length_append, List.map_append]; exact ho, h.low.grown hg h.low.size (fun b hb => (h.own.lt b hb).1), typed_kept h.own hg h.rep (by decide)⟩

set_option maxHeartbeats 2000000 in
set_option maxRecDepth 1000000 in
theorem words_1 (w : World) (id num : Int) (tube : ByteArray) (a : Option Addr) (n c : Nat) (T : Tabs w) (hi0 : -9223372036854775808 ≤ id) (hi1 : id ≤ 9223372036854775807) :
    Calls Tryd.prog 37 #[.agg #[.int .i64 1, .int .i64 id, .int .i64 num, .string tube, .slice a n c]] w fun x w' => ∃ v, x = .returned v ∧ Wk w w' 1 id num tube (.slice a n c) v [⟨(wordOf 1).toArray⟩, ⟨(printL id).toArray⟩] := by
  obtain ⟨i9, hi, hz0, hz1, hz2⟩ := info_parts info_string
  have k0 := T.word 1 (by decide)
  have h0 : 0 < w.heap.size := cell_lt k0
  have HT := hide T
  clear T
  have WK0 := hide (Wk.start w 1 id num tube (.slice a n c) ⟨(wordOf 1).toArray⟩)
  go_enter Tryd.func37, Tryd.ntmps37
  go_wp2_with fail
  refine (print_any id _ hi0 hi1 (HT.out.below WK0.out.low).pow).mono ?_
  rintro e y1 ⟨rfl, BN⟩
  have WKP1 := hide (WK0.out.below BN)
  clear BN
  go_wp2_with (first
      | (at_builtin; go_must (refine wpList_append_own _ rfl (.tmp 24) (.tmp 28) 67 rfl w.heap.size 9 i9 (.string ⟨#[]⟩) 1 16 Tryd.underlying67 hi hz0 hz1 hz2 rfl (by decide) _ _ _ rfl (WKP1.out.below ((Below.refl _ _).alloc (Nat.le_refl _) _)).own ⟨y1.heap.size, 0, none⟩ 1 1 [.string ⟨(printL id).toArray⟩] rfl rfl (cell_one_new _ _ _) (by intro u hu; simp at hu; subst hu; rfl) (by unfold maxLen; simp) (by simp) (by have := WKP1.out.low.size; simp; omega) ?_; intro v1 w1 hown hgrow _; have WKA1 := hide ((WKP1.out.below ((Below.refl _ y1).alloc (Nat.le_refl _) (.cells #[.string ⟨(printL id).toArray⟩] 9))).grown hown hgrow); obtain ⟨x0, x1, x2, x3, x4, xl⟩ := WKA1.out.cells; clear hown hgrow)))
  go_ret
  exact ⟨_, rfl, WKA1.out⟩
set_option maxHeartbeats 2000000 in
set_option maxRecDepth 1000000 in
theorem words_2 (w : World) (id num : Int) (tube : ByteArray) (a : Option Addr) (n c : Nat) (T : Tabs w) :
    Calls Tryd.prog 37 #[.agg #[.int .i64 2, .int .i64 id, .int .i64 num, .string tube, .slice a n c]] w fun x w' => ∃ v, x = .returned v ∧ Wk w w' 2 id num tube (.slice a n c) v [⟨(wordOf 2).toArray⟩, tube] := by
  obtain ⟨i9, hi, hz0, hz1, hz2⟩ := info_parts info_string
  have k0 := T.word 2 (by decide)
  have h0 : 0 < w.heap.size := cell_lt k0
  have HT := hide T
  clear T
  have WK0 := hide (Wk.start w 2 id num tube (.slice a n c) ⟨(wordOf 2).toArray⟩)
  go_enter Tryd.func37, Tryd.ntmps37
  go_wp2_with (first
      | (at_builtin; go_must (refine wpList_append_own _ rfl (.tmp 30) (.tmp 33) 67 rfl w.heap.size 9 i9 (.string ⟨#[]⟩) 1 16 Tryd.underlying67 hi hz0 hz1 hz2 rfl (by decide) _ _ _ rfl (WK0.out.below ((Below.refl _ _).alloc (Nat.le_refl _) _)).own ⟨w.heap.size + 1 + 1, 0, none⟩ 1 1 [.string tube] rfl rfl (by have hc := cell_one_new ((w.alloc (.cells #[.int .i64 2, .int .i64 id, .int .i64 num, .string tube, .slice a n c] 24)).alloc (.cells #[.string ⟨(wordOf 2).toArray⟩] 9)) (.string tube) 9; rw [two_size] at hc; exact hc) (by intro u hu; simp at hu; subst hu; rfl) (by unfold maxLen; simp) (by simp) (by have := WK0.out.low.size; simp; omega) ?_; intro v1 w1 hown hgrow _; have WKA1 := hide ((WK0.out.below ((Below.refl _ ((w.alloc (.cells #[.int .i64 2, .int .i64 id, .int .i64 num, .string tube, .slice a n c] 24)).alloc (.cells #[.string ⟨(wordOf 2).toArray⟩] 9))).alloc (Nat.le_refl _) (.cells #[.string tube] 9))).grown hown hgrow); obtain ⟨x0, x1, x2, x3, x4, xl⟩ := WKA1.out.cells; clear hown hgrow)))
  go_ret
  exact ⟨_, rfl, WKA1.out⟩
set_option maxHeartbeats 2000000 in
set_option maxRecDepth 1000000 in
theorem words_3 (w : World) (id num : Int) (tube : ByteArray) (a : Option Addr) (n c : Nat) (T : Tabs w) (hi0 : -9223372036854775808 ≤ id) (hi1 : id ≤ 9223372036854775807) (hl : n ≤ 9223372036854775807) :
    Calls Tryd.prog 37 #[.agg #[.int .i64 3, .int .i64 id, .int .i64 num, .string tube, .slice a n c]] w fun x w' => ∃ v, x = .returned v ∧ Wk w w' 3 id num tube (.slice a n c) v [⟨(wordOf 3).toArray⟩, ⟨(printL id).toArray⟩, ⟨(printL n).toArray⟩] := by
  obtain ⟨i9, hi, hz0, hz1, hz2⟩ := info_parts info_string
  have k0 := T.word 3 (by decide)
  have h0 : 0 < w.heap.size := cell_lt k0
  have HT := hide T
  clear T
  have WK0 := hide (Wk.start w 3 id num tube (.slice a n c) ⟨(wordOf 3).toArray⟩)
  go_enter Tryd.func37, Tryd.ntmps37
  go_wp2_with fail
  refine (print_any id _ hi0 hi1 (HT.out.below WK0.out.low).pow).mono ?_
  rintro e y1 ⟨rfl, BN⟩
  have WKP1 := hide (WK0.out.below BN)
  clear BN
  go_wp2_with (first
      | (at_builtin; go_must (refine wpList_append_own _ rfl (.tmp 41) (.tmp 45) 67 rfl w.heap.size 9 i9 (.string ⟨#[]⟩) 1 16 Tryd.underlying67 hi hz0 hz1 hz2 rfl (by decide) _ _ _ rfl (WKP1.out.below ((Below.refl _ _).alloc (Nat.le_refl _) _)).own ⟨y1.heap.size, 0, none⟩ 1 1 [.string ⟨(printL id).toArray⟩] rfl rfl (cell_one_new _ _ _) (by intro u hu; simp at hu; subst hu; rfl) (by unfold maxLen; simp) (by simp) (by have := WKP1.out.low.size; simp; omega) ?_; intro v1 w1 hown hgrow _; have WKA1 := hide ((WKP1.out.below ((Below.refl _ y1).alloc (Nat.le_refl _) (.cells #[.string ⟨(printL id).toArray⟩] 9))).grown hown hgrow); obtain ⟨x0, x1, x2, x3, x4, xl⟩ := WKA1.out.cells; clear hown hgrow)))
  refine (print_any (n : Int) _ (by omega) (by omega) (HT.out.below WKA1.out.low).pow).mono ?_
  rintro e y2 ⟨rfl, BN⟩
  have WKP2 := hide (WKA1.out.below BN)
  clear BN
  go_wp2_with (first
      | (at_builtin; go_must (refine wpList_append_own _ rfl (.tmp 47) (.tmp 52) 67 rfl w.heap.size 9 i9 (.string ⟨#[]⟩) 1 16 Tryd.underlying67 hi hz0 hz1 hz2 rfl (by decide) _ _ _ rfl (WKP2.out.below ((Below.refl _ _).alloc (Nat.le_refl _) _)).own ⟨y2.heap.size, 0, none⟩ 1 1 [.string ⟨(printL n).toArray⟩] rfl rfl (cell_one_new _ _ _) (by intro u hu; simp at hu; subst hu; rfl) (by unfold maxLen; simp) (by simp) (by have := WKP2.out.low.size; simp; omega) ?_; intro v2 w2 hown hgrow _; have WKA2 := hide ((WKP2.out.below ((Below.refl _ y2).alloc (Nat.le_refl _) (.cells #[.string ⟨(printL n).toArray⟩] 9))).grown hown hgrow); obtain ⟨x0, x1, x2, x3, x4, xl⟩ := WKA2.out.cells; clear hown hgrow)))
  go_ret
  exact ⟨_, rfl, WKA2.out⟩
set_option maxHeartbeats 2000000 in
set_option maxRecDepth 1000000 in
theorem words_10 (w : World) (id num : Int) (tube : ByteArray) (a : Option Addr) (n c : Nat) (T : Tabs w) (hn0 : -9223372036854775808 ≤ num) (hn1 : num ≤ 9223372036854775807) :
    Calls Tryd.prog 37 #[.agg #[.int .i64 10, .int .i64 id, .int .i64 num, .string tube, .slice a n c]] w fun x w' => ∃ v, x = .returned v ∧ Wk w w' 10 id num tube (.slice a n c) v [⟨(wordOf 10).toArray⟩, ⟨(printL num).toArray⟩] := by
  obtain ⟨i9, hi, hz0, hz1, hz2⟩ := info_parts info_string
  have k0 := T.word 10 (by decide)
  have h0 : 0 < w.heap.size := cell_lt k0
  have HT := hide T
  clear T
  have WK0 := hide (Wk.start w 10 id num tube (.slice a n c) ⟨(wordOf 10).toArray⟩)
  go_enter Tryd.func37, Tryd.ntmps37
  go_wp2_with fail
  refine (print_any num _ hn0 hn1 (HT.out.below WK0.out.low).pow).mono ?_
  rintro e y1 ⟨rfl, BN⟩
  have WKP1 := hide (WK0.out.below BN)
  clear BN
  go_wp2_with (first
      | (at_builtin; go_must (refine wpList_append_own _ rfl (.tmp 35) (.tmp 39) 67 rfl w.heap.size 9 i9 (.string ⟨#[]⟩) 1 16 Tryd.underlying67 hi hz0 hz1 hz2 rfl (by decide) _ _ _ rfl (WKP1.out.below ((Below.refl _ _).alloc (Nat.le_refl _) _)).own ⟨y1.heap.size, 0, none⟩ 1 1 [.string ⟨(printL num).toArray⟩] rfl rfl (cell_one_new _ _ _) (by intro u hu; simp at hu; subst hu; rfl) (by unfold maxLen; simp) (by simp) (by have := WKP1.out.low.size; simp; omega) ?_; intro v1 w1 hown hgrow _; have WKA1 := hide ((WKP1.out.below ((Below.refl _ y1).alloc (Nat.le_refl _) (.cells #[.string ⟨(printL num).toArray⟩] 9))).grown hown hgrow); obtain ⟨x0, x1, x2, x3, x4, xl⟩ := WKA1.out.cells; clear hown hgrow)))
  go_ret
  exact ⟨_, rfl, WKA1.out⟩
set_option maxHeartbeats 2000000 in
set_option maxRecDepth 1000000 in
theorem words_12 (w : World) (id num : Int) (tube : ByteArray) (a : Option Addr) (n c : Nat) (T : Tabs w) (hi0 : -9223372036854775808 ≤ id) (hi1 : id ≤ 9223372036854775807) (hl : n ≤ 9223372036854775807) :
    Calls Tryd.prog 37 #[.agg #[.int .i64 12, .int .i64 id, .int .i64 num, .string tube, .slice a n c]] w fun x w' => ∃ v, x = .returned v ∧ Wk w w' 12 id num tube (.slice a n c) v [⟨(wordOf 12).toArray⟩, ⟨(printL id).toArray⟩, ⟨(printL n).toArray⟩] := by
  obtain ⟨i9, hi, hz0, hz1, hz2⟩ := info_parts info_string
  have k0 := T.word 12 (by decide)
  have h0 : 0 < w.heap.size := cell_lt k0
  have HT := hide T
  clear T
  have WK0 := hide (Wk.start w 12 id num tube (.slice a n c) ⟨(wordOf 12).toArray⟩)
  go_enter Tryd.func37, Tryd.ntmps37
  go_wp2_with fail
  refine (print_any id _ hi0 hi1 (HT.out.below WK0.out.low).pow).mono ?_
  rintro e y1 ⟨rfl, BN⟩
  have WKP1 := hide (WK0.out.below BN)
  clear BN
  go_wp2_with (first
      | (at_builtin; go_must (refine wpList_append_own _ rfl (.tmp 41) (.tmp 45) 67 rfl w.heap.size 9 i9 (.string ⟨#[]⟩) 1 16 Tryd.underlying67 hi hz0 hz1 hz2 rfl (by decide) _ _ _ rfl (WKP1.out.below ((Below.refl _ _).alloc (Nat.le_refl _) _)).own ⟨y1.heap.size, 0, none⟩ 1 1 [.string ⟨(printL id).toArray⟩] rfl rfl (cell_one_new _ _ _) (by intro u hu; simp at hu; subst hu; rfl) (by unfold maxLen; simp) (by simp) (by have := WKP1.out.low.size; simp; omega) ?_; intro v1 w1 hown hgrow _; have WKA1 := hide ((WKP1.out.below ((Below.refl _ y1).alloc (Nat.le_refl _) (.cells #[.string ⟨(printL id).toArray⟩] 9))).grown hown hgrow); obtain ⟨x0, x1, x2, x3, x4, xl⟩ := WKA1.out.cells; clear hown hgrow)))
  refine (print_any (n : Int) _ (by omega) (by omega) (HT.out.below WKA1.out.low).pow).mono ?_
  rintro e y2 ⟨rfl, BN⟩
  have WKP2 := hide (WKA1.out.below BN)
  clear BN
  go_wp2_with (first
      | (at_builtin; go_must (refine wpList_append_own _ rfl (.tmp 47) (.tmp 52) 67 rfl w.heap.size 9 i9 (.string ⟨#[]⟩) 1 16 Tryd.underlying67 hi hz0 hz1 hz2 rfl (by decide) _ _ _ rfl (WKP2.out.below ((Below.refl _ _).alloc (Nat.le_refl _) _)).own ⟨y2.heap.size, 0, none⟩ 1 1 [.string ⟨(printL n).toArray⟩] rfl rfl (cell_one_new _ _ _) (by intro u hu; simp at hu; subst hu; rfl) (by unfold maxLen; simp) (by simp) (by have := WKP2.out.low.size; simp; omega) ?_; intro v2 w2 hown hgrow _; have WKA2 := hide ((WKP2.out.below ((Below.refl _ y2).alloc (Nat.le_refl _) (.cells #[.string ⟨(printL n).toArray⟩] 9))).grown hown hgrow); obtain ⟨x0, x1, x2, x3, x4, xl⟩ := WKA2.out.cells; clear hown hgrow)))
  go_ret
  exact ⟨_, rfl, WKA2.out⟩
set_option maxHeartbeats 2000000 in
set_option maxRecDepth 1000000 in
theorem words_13 (w : World) (id num : Int) (tube : ByteArray) (a : Option Addr) (n c : Nat) (T : Tabs w) (hn0 : -9223372036854775808 ≤ num) (hn1 : num ≤ 9223372036854775807) :
    Calls Tryd.prog 37 #[.agg #[.int .i64 13, .int .i64 id, .int .i64 num, .string tube, .slice a n c]] w fun x w' => ∃ v, x = .returned v ∧ Wk w w' 13 id num tube (.slice a n c) v [⟨(wordOf 13).toArray⟩, ⟨(printL num).toArray⟩] := by
  obtain ⟨i9, hi, hz0, hz1, hz2⟩ := info_parts info_string
  have k0 := T.word 13 (by decide)
  have h0 : 0 < w.heap.size := cell_lt k0
  have HT := hide T
  clear T
  have WK0 := hide (Wk.start w 13 id num tube (.slice a n c) ⟨(wordOf 13).toArray⟩)
  go_enter Tryd.func37, Tryd.ntmps37
  go_wp2_with fail
  refine (print_any num _ hn0 hn1 (HT.out.below WK0.out.low).pow).mono ?_
  rintro e y1 ⟨rfl, BN⟩
  have WKP1 := hide (WK0.out.below BN)
  clear BN
  go_wp2_with (first
      | (at_builtin; go_must (refine wpList_append_own _ rfl (.tmp 35) (.tmp 39) 67 rfl w.heap.size 9 i9 (.string ⟨#[]⟩) 1 16 Tryd.underlying67 hi hz0 hz1 hz2 rfl (by decide) _ _ _ rfl (WKP1.out.below ((Below.refl _ _).alloc (Nat.le_refl _) _)).own ⟨y1.heap.size, 0, none⟩ 1 1 [.string ⟨(printL num).toArray⟩] rfl rfl (cell_one_new _ _ _) (by intro u hu; simp at hu; subst hu; rfl) (by unfold maxLen; simp) (by simp) (by have := WKP1.out.low.size; simp; omega) ?_; intro v1 w1 hown hgrow _; have WKA1 := hide ((WKP1.out.below ((Below.refl _ y1).alloc (Nat.le_refl _) (.cells #[.string ⟨(printL num).toArray⟩] 9))).grown hown hgrow); obtain ⟨x0, x1, x2, x3, x4, xl⟩ := WKA1.out.cells; clear hown hgrow)))
  go_ret
  exact ⟨_, rfl, WKA1.out⟩
set_option maxHeartbeats 2000000 in
set_option maxRecDepth 1000000 in
theorem words_16 (w : World) (id num : Int) (tube : ByteArray) (a : Option Addr) (n c : Nat) (T : Tabs w) (hl : n ≤ 9223372036854775807) :
    Calls Tryd.prog 37 #[.agg #[.int .i64 16, .int .i64 id, .int .i64 num, .string tube, .slice a n c]] w fun x w' => ∃ v, x = .returned v ∧ Wk w w' 16 id num tube (.slice a n c) v [⟨(wordOf 16).toArray⟩, ⟨(printL n).toArray⟩] := by
  obtain ⟨i9, hi, hz0, hz1, hz2⟩ := info_parts info_string
  have k0 := T.word 16 (by decide)
  have h0 : 0 < w.heap.size := cell_lt k0
  have HT := hide T
  clear T
  have WK0 := hide (Wk.start w 16 id num tube (.slice a n c) ⟨(wordOf 16).toArray⟩)
  go_enter Tryd.func37, Tryd.ntmps37
  go_wp2_with fail
  refine (print_any (n : Int) _ (by omega) (by omega) (HT.out.below WK0.out.low).pow).mono ?_
  rintro e y1 ⟨rfl, BN⟩
  have WKP1 := hide (WK0.out.below BN)
  clear BN
  go_wp2_with (first
      | (at_builtin; go_must (refine wpList_append_own _ rfl (.tmp 47) (.tmp 52) 67 rfl w.heap.size 9 i9 (.string ⟨#[]⟩) 1 16 Tryd.underlying67 hi hz0 hz1 hz2 rfl (by decide) _ _ _ rfl (WKP1.out.below ((Below.refl _ _).alloc (Nat.le_refl _) _)).own ⟨y1.heap.size, 0, none⟩ 1 1 [.string ⟨(printL n).toArray⟩] rfl rfl (cell_one_new _ _ _) (by intro u hu; simp at hu; subst hu; rfl) (by unfold maxLen; simp) (by simp) (by have := WKP1.out.low.size; simp; omega) ?_; intro v1 w1 hown hgrow _; have WKA1 := hide ((WKP1.out.below ((Below.refl _ y1).alloc (Nat.le_refl _) (.cells #[.string ⟨(printL n).toArray⟩] 9))).grown hown hgrow); obtain ⟨x0, x1, x2, x3, x4, xl⟩ := WKA1.out.cells; clear hown hgrow)))
  go_ret
  exact ⟨_, rfl, WKA1.out⟩
set_option maxHeartbeats 2000000 in
set_option maxRecDepth 1000000 in
theorem words_0 (w : World) (k : Nat) (hk : k < 24) (hne : k ≠ 1 ∧ k ≠ 2 ∧ k ≠ 3 ∧ k ≠ 10 ∧ k ≠ 12 ∧ k ≠ 13 ∧ k ≠ 16) (id num : Int) (tube : ByteArray) (a : Option Addr) (n c : Nat) (T : Tabs w) :
    Calls Tryd.prog 37 #[.agg #[.int .i64 (k : Int), .int .i64 id, .int .i64 num, .string tube, .slice a n c]] w fun x w' => ∃ v, x = .returned v ∧ Wk w w' k id num tube (.slice a n c) v [⟨(wordOf k).toArray⟩] := by
  have k0 := T.word k hk
  have h0 : 0 < w.heap.size := cell_lt k0
  clear T
  have WK0 := hide (Wk.start w k id num tube (.slice a n c) ⟨(wordOf k).toArray⟩)
  have i1 : (0 : Int) ≤ (k : Int) := by omega
  have i2 : (k : Int) < 24 := by omega
  have e1 : ((k : Int) == 1) = false := by rw [beq_eq_false_iff_ne]; omega
  have e2 : ((k : Int) == 2) = false := by rw [beq_eq_false_iff_ne]; omega
  have e3 : ((k : Int) == 3) = false := by rw [beq_eq_false_iff_ne]; omega
  have e4 : ((k : Int) == 10) = false := by rw [beq_eq_false_iff_ne]; omega
  have e5 : ((k : Int) == 12) = false := by rw [beq_eq_false_iff_ne]; omega
  have e6 : ((k : Int) == 13) = false := by rw [beq_eq_false_iff_ne]; omega
  have e7 : ((k : Int) == 16) = false := by rw [beq_eq_false_iff_ne]; omega
  clear hne
  go_enter Tryd.func37, Tryd.ntmps37
  go_wp2_with fail
  go_ret
  exact ⟨_, rfl, WK0.out⟩
end Go.Proofs.YtienggblpmkjjaaDoor
