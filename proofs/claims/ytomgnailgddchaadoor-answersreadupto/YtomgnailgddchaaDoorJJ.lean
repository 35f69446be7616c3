/-
  Words, Word, Join, WordsAny.
-/
import Derived.Test.YtomgnailgddchaaDoorReadA
import Derived.Maps.AppendAt
import Derived.Test.YtomgnailgddchaaDoorProg
import Derived.Test.YtomgnailgddchaaDoorJB
import Derived.WalkKit
import Derived.WalkSpells
import Derived.WalkLawsBesides
import Derived.Test.YtomgnailgddchaaDoorShelf
import Derived.Test.YtomgnailgddchaaDoorJC
namespace Go.Proofs.YtomgnailgddchaaDoor
open Go.RowKit Go.Sort

theorem info_string : (Tryd.prog.info? 9).map (fun i => (i.zero, i.size, i.bytes)) = some (some (.string ⟨#[]⟩), 1, 16) := by kernel_rfl
theorem two_size (w : World) (o1 o2 : Obj) : ((w.alloc o1).alloc o2).heap.size = w.heap.size + 1 + 1 := by simp
theorem own_one {w : World} {B g : Nat} (x : ByteArray) (hg : w.heap[g]? = some (.cells #[.string x] 9 (0, 0))) (hB : B ≤ g) : w.ownsRow B 9 1 (.slice (some ⟨g, 0, none⟩) 1 1) 1 ([x].map Value.string) :=
  ⟨rfl, .inr ⟨g, 1, _, rfl, hB, hg, Nat.le_refl _, by decide, rfl, rfl⟩⟩
theorem own_below {w w1 : World} {B e n : Nat} {v : Value} {xs : List Value} (h : w.ownsRow B e 1 v n xs) (hb : Below w.heap.size w w1) : w1.ownsRow B e 1 v n xs :=
  Kept.own (Kept.ofBelow (P := fun _ => False) hb) h (fun _ _ h => h)
theorem typed_kept {w w1 : World} {B e n : Nat} {v : Value} {xs : List Value} (ho : w.ownsRow B e 1 v n xs) (h : w.grownBy w1 v.ownBlock) {g : Nat} {cur : Array Value} {t : TypeId} {fr : Nat × Nat} (hg : w.heap[g]? = some (.cells cur t fr)) (ht : t ≠ e) :
    w1.heap[g]? = some (.cells cur t fr) := by
  refine (h.block g (Array.getElem?_eq_some_iff.1 hg).1 (fun e' => ?_)).trans hg
  rcases ho.2 with ⟨rfl, _⟩ | ⟨g', cap, cur', rfl, hb, hg', _⟩
  · cases e'
  · simp only [Value.ownBlock, Option.some.injEq] at e'
    subst e'
    rw [hg] at hg'
    cases hg'
    exact ht rfl
/-- What lies about in wordsOf. -/
structure Wk (w0 W : World) (k id num : Int) (tube : ByteArray) (b v : Value) (ws : List ByteArray) : Prop where
  own : W.ownsRow w0.heap.size 9 1 v ws.length (ws.map Value.string)
  low : Below w0.heap.size w0 W
  rep : W.heap[w0.heap.size]? = some (.cells #[.int .i64 k, .int .i64 id, .int .i64 num, .string tube, b] 45 (0, 0))
theorem Wk.below {w0 W W' : World} {k id num : Int} {tube : ByteArray} {b v : Value} {ws : List ByteArray} (h : Wk w0 W k id num tube b v ws) (hb : Below W.heap.size W W') : Wk w0 W' k id num tube b v ws :=
  ⟨own_below h.own hb, h.low.trans (hb.mono h.low.size), (hb.block _ (Array.getElem?_eq_some_iff.1 h.rep).1).trans h.rep⟩
theorem Wk.cells {w0 W : World} {k id num : Int} {tube : ByteArray} {b v : Value} {ws : List ByteArray} (h : Wk w0 W k id num tube b v ws) : W.cell? ⟨w0.heap.size, 0, none⟩ = some (.int .i64 k) ∧ W.cell? ⟨w0.heap.size, 1, none⟩ = some (.int .i64 id) ∧ W.cell? ⟨w0.heap.size, 2, none⟩ = some (.int .i64 num) ∧ W.cell? ⟨w0.heap.size, 3, none⟩ = some (.string tube) ∧ W.cell? ⟨w0.heap.size, 4, none⟩ = some b ∧ w0.heap.size < W.heap.size :=
  ⟨cells_at h.rep rfl, cells_at h.rep rfl, cells_at h.rep rfl, cells_at h.rep rfl, cells_at h.rep rfl, (Array.getElem?_eq_some_iff.1 h.rep).1⟩
theorem Wk.start (w : World) (k id num : Int) (tube : ByteArray) (b : Value) (x : ByteArray) : Wk w ((w.alloc (.cells #[.int .i64 k, .int .i64 id, .int .i64 num, .string tube, b] 45)).alloc (.cells #[.string x] 9)) k id num tube b (.slice (some ⟨w.heap.size + 1, 0, none⟩) 1 1) [x] :=
  ⟨own_one x (heap_alloc2_new w _ _) (by omega), ((Below.refl _ w).alloc (Nat.le_refl _) _).alloc (by simp) _, alloc_heap (heap_alloc_new w _)⟩
theorem Wk.grown {w0 W W' : World} {k id num : Int} {tube : ByteArray} {b v v' : Value} {ws : List ByteArray} {x : ByteArray} (h : Wk w0 W k id num tube b v ws) (ho : W'.ownsRow w0.heap.size 9 1 v' (ws.length + 1) (ws.map Value.string ++ [.string x])) (hg : W.grownBy W' v.ownBlock) : Wk w0 W' k id num tube b v' (ws ++ [x]) :=
  ⟨by rw [List.length_append, List.map_append]; exact ho, h.low.grown hg h.low.size (fun b hb => (h.own.lt b hb).1), typed_kept h.own hg h.rep (by decide)⟩

set_option maxHeartbeats 2000000 in
set_option maxRecDepth 1000000 in
theorem words_1 (w : World) (id num : Int) (tube : ByteArray) (a : Option Addr) (n c : Nat) (T : Tabs w) (hi0 : -9223372036854775808 ≤ id) (hi1 : id ≤ 9223372036854775807) :
    Calls Tryd.prog 32 #[.agg #[.int .i64 1, .int .i64 id, .int .i64 num, .string tube, .slice a n c]] w fun x w' => ∃ v, x = .returned v ∧ Wk w w' 1 id num tube (.slice a n c) v [⟨(wordOf 1).toArray⟩, ⟨(printL id).toArray⟩] := by
  obtain ⟨i9, hi, hz0, hz1, hz2⟩ := info_parts info_string
  have k0 := T.word 1 (by decide)
  have h0 : 0 < w.heap.size := cell_lt k0
  have HT := hide T
  clear T
  have WK0 := hide (Wk.start w 1 id num tube (.slice a n c) ⟨(wordOf 1).toArray⟩)
  go_enter Tryd.func32, Tryd.ntmps32
  go_wp2_with fail
  refine (print_any id _ hi0 hi1 (HT.out.below WK0.out.low).pow).mono ?_
  rintro e y1 ⟨rfl, BN⟩
  have WKP1 := hide (WK0.out.below BN)
  clear BN
  go_wp2_with (first
      | (at_builtin; go_must (refine wpList_append_own _ rfl (.tmp 24) (.tmp 28) 64 rfl w.heap.size 9 i9 (.string ⟨#[]⟩) 1 16 Tryd.underlying64 hi hz0 hz1 hz2 rfl (by decide) _ _ _ rfl (WKP1.out.below ((Below.refl _ _).alloc (Nat.le_refl _) _)).own ⟨y1.heap.size, 0, none⟩ 1 1 [.string ⟨(printL id).toArray⟩] rfl rfl (cell_one_new _ _ _) (by intro u hu; simp at hu; subst hu; rfl) (by unfold maxLen; simp) (by simp) (by have := WKP1.out.low.size; simp; omega) ?_; intro v1 w1 hown hgrow _; have WKA1 := hide ((WKP1.out.below ((Below.refl _ y1).alloc (Nat.le_refl _) (.cells #[.string ⟨(printL id).toArray⟩] 9))).grown hown hgrow); obtain ⟨x0, x1, x2, x3, x4, xl⟩ := WKA1.out.cells; clear hown hgrow)))
  go_ret
  exact ⟨_, rfl, WKA1.out⟩
set_option maxHeartbeats 2000000 in
set_option maxRecDepth 1000000 in
theorem words_2 (w : World) (id num : Int) (tube : ByteArray) (a : Option Addr) (n c : Nat) (T : Tabs w) :
    Calls Tryd.prog 32 #[.agg #[.int .i64 2, .int .i64 id, .int .i64 num, .string tube, .slice a n c]] w fun x w' => ∃ v, x = .returned v ∧ Wk w w' 2 id num tube (.slice a n c) v [⟨(wordOf 2).toArray⟩, tube] := by
  obtain ⟨i9, hi, hz0, hz1, hz2⟩ := info_parts info_string
  have k0 := T.word 2 (by decide)
  have h0 : 0 < w.heap.size := cell_lt k0
  have HT := hide T
  clear T
  have WK0 := hide (Wk.start w 2 id num tube (.slice a n c) ⟨(wordOf 2).toArray⟩)
  go_enter Tryd.func32, Tryd.ntmps32
  go_wp2_with (first
      | (at_builtin; go_must (refine wpList_append_own _ rfl (.tmp 30) (.tmp 33) 64 rfl w.heap.size 9 i9 (.string ⟨#[]⟩) 1 16 Tryd.underlying64 hi hz0 hz1 hz2 rfl (by decide) _ _ _ rfl (WK0.out.below ((Below.refl _ _).alloc (Nat.le_refl _) _)).own ⟨w.heap.size + 1 + 1, 0, none⟩ 1 1 [.string tube] rfl rfl (by have hc := cell_one_new ((w.alloc (.cells #[.int .i64 2, .int .i64 id, .int .i64 num, .string tube, .slice a n c] 45)).alloc (.cells #[.string ⟨(wordOf 2).toArray⟩] 9)) (.string tube) 9; rw [two_size] at hc; exact hc) (by intro u hu; simp at hu; subst hu; rfl) (by unfold maxLen; simp) (by simp) (by have := WK0.out.low.size; simp; omega) ?_; intro v1 w1 hown hgrow _; have WKA1 := hide ((WK0.out.below ((Below.refl _ ((w.alloc (.cells #[.int .i64 2, .int .i64 id, .int .i64 num, .string tube, .slice a n c] 45)).alloc (.cells #[.string ⟨(wordOf 2).toArray⟩] 9))).alloc (Nat.le_refl _) (.cells #[.string tube] 9))).grown hown hgrow); obtain ⟨x0, x1, x2, x3, x4, xl⟩ := WKA1.out.cells; clear hown hgrow)))
  go_ret
  exact ⟨_, rfl, WKA1.out⟩
set_option maxHeartbeats 2000000 in
set_option maxRecDepth 1000000 in
theorem words_3 (w : World) (id num : Int) (tube : ByteArray) (a : Option Addr) (n c : Nat) (T : Tabs w) (hi0 : -9223372036854775808 ≤ id) (hi1 : id ≤ 9223372036854775807) (hl : n ≤ 9223372036854775807) :
    Calls Tryd.prog 32 #[.agg #[.int .i64 3, .int .i64 id, .int .i64 num, .string tube, .slice a n c]] w fun x w' => ∃ v, x = .returned v ∧ Wk w w' 3 id num tube (.slice a n c) v [⟨(wordOf 3).toArray⟩, ⟨(printL id).toArray⟩, ⟨(printL n).toArray⟩] := by
  obtain ⟨i9, hi, hz0, hz1, hz2⟩ := info_parts info_string
  have k0 := T.word 3 (by decide)
  have h0 : 0 < w.heap.size := cell_lt k0
  have HT := hide T
  clear T
  have WK0 := hide (Wk.start w 3 id num tube (.slice a n c) ⟨(wordOf 3).toArray⟩)
  go_enter Tryd.func32, Tryd.ntmps32
  go_wp2_with fail
  refine (print_any id _ hi0 hi1 (HT.out.below WK0.out.low).pow).mono ?_
  rintro e y1 ⟨rfl, BN⟩
  have WKP1 := hide (WK0.out.below BN)
  clear BN
  go_wp2_with (first
      | (at_builtin; go_must (refine wpList_append_own _ rfl (.tmp 41) (.tmp 45) 64 rfl w.heap.size 9 i9 (.string ⟨#[]⟩) 1 16 Tryd.underlying64 hi hz0 hz1 hz2 rfl (by decide) _ _ _ rfl (WKP1.out.below ((Below.refl _ _).alloc (Nat.le_refl _) _)).own ⟨y1.heap.size, 0, none⟩ 1 1 [.string ⟨(printL id).toArray⟩] rfl rfl (cell_one_new _ _ _) (by intro u hu; simp at hu; subst hu; rfl) (by unfold maxLen; simp) (by simp) (by have := WKP1.out.low.size; simp; omega) ?_; intro v1 w1 hown hgrow _; have WKA1 := hide ((WKP1.out.below ((Below.refl _ y1).alloc (Nat.le_refl _) (.cells #[.string ⟨(printL id).toArray⟩] 9))).grown hown hgrow); obtain ⟨x0, x1, x2, x3, x4, xl⟩ := WKA1.out.cells; clear hown hgrow)))
  refine (print_any (n : Int) _ (by omega) (by omega) (HT.out.below WKA1.out.low).pow).mono ?_
  rintro e y2 ⟨rfl, BN⟩
  have WKP2 := hide (WKA1.out.below BN)
  clear BN
  go_wp2_with (first
      | (at_builtin; go_must (refine wpList_append_own _ rfl (.tmp 47) (.tmp 52) 64 rfl w.heap.size 9 i9 (.string ⟨#[]⟩) 1 16 Tryd.underlying64 hi hz0 hz1 hz2 rfl (by decide) _ _ _ rfl (WKP2.out.below ((Below.refl _ _).alloc (Nat.le_refl _) _)).own ⟨y2.heap.size, 0, none⟩ 1 1 [.string ⟨(printL n).toArray⟩] rfl rfl (cell_one_new _ _ _) (by intro u hu; simp at hu; subst hu; rfl) (by unfold maxLen; simp) (by simp) (by have := WKP2.out.low.size; simp; omega) ?_; intro v2 w2 hown hgrow _; have WKA2 := hide ((WKP2.out.below ((Below.refl _ y2).alloc (Nat.le_refl _) (.cells #[.string ⟨(printL n).toArray⟩] 9))).grown hown hgrow); obtain ⟨x0, x1, x2, x3, x4, xl⟩ := WKA2.out.cells; clear hown hgrow)))
  go_ret
  exact ⟨_, rfl, WKA2.out⟩
set_option maxHeartbeats 2000000 in
set_option maxRecDepth 1000000 in
theorem words_10 (w : World) (id num : Int) (tube : ByteArray) (a : Option Addr) (n c : Nat) (T : Tabs w) (hn0 : -9223372036854775808 ≤ num) (hn1 : num ≤ 9223372036854775807) :
    Calls Tryd.prog 32 #[.agg #[.int .i64 10, .int .i64 id, .int .i64 num, .string tube, .slice a n c]] w fun x w' => ∃ v, x = .returned v ∧ Wk w w' 10 id num tube (.slice a n c) v [⟨(wordOf 10).toArray⟩, ⟨(printL num).toArray⟩] := by
  obtain ⟨i9, hi, hz0, hz1, hz2⟩ := info_parts info_string
  have k0 := T.word 10 (by decide)
  have h0 : 0 < w.heap.size := cell_lt k0
  have HT := hide T
  clear T
  have WK0 := hide (Wk.start w 10 id num tube (.slice a n c) ⟨(wordOf 10).toArray⟩)
  go_enter Tryd.func32, Tryd.ntmps32
  go_wp2_with fail
  refine (print_any num _ hn0 hn1 (HT.out.below WK0.out.low).pow).mono ?_
  rintro e y1 ⟨rfl, BN⟩
  have WKP1 := hide (WK0.out.below BN)
  clear BN
  go_wp2_with (first
      | (at_builtin; go_must (refine wpList_append_own _ rfl (.tmp 35) (.tmp 39) 64 rfl w.heap.size 9 i9 (.string ⟨#[]⟩) 1 16 Tryd.underlying64 hi hz0 hz1 hz2 rfl (by decide) _ _ _ rfl (WKP1.out.below ((Below.refl _ _).alloc (Nat.le_refl _) _)).own ⟨y1.heap.size, 0, none⟩ 1 1 [.string ⟨(printL num).toArray⟩] rfl rfl (cell_one_new _ _ _) (by intro u hu; simp at hu; subst hu; rfl) (by unfold maxLen; simp) (by simp) (by have := WKP1.out.low.size; simp; omega) ?_; intro v1 w1 hown hgrow _; have WKA1 := hide ((WKP1.out.below ((Below.refl _ y1).alloc (Nat.le_refl _) (.cells #[.string ⟨(printL num).toArray⟩] 9))).grown hown hgrow); obtain ⟨x0, x1, x2, x3, x4, xl⟩ := WKA1.out.cells; clear hown hgrow)))
  go_ret
  exact ⟨_, rfl, WKA1.out⟩
set_option maxHeartbeats 2000000 in
set_option maxRecDepth 1000000 in
theorem words_12 (w : World) (id num : Int) (tube : ByteArray) (a : Option Addr) (n c : Nat) (T : Tabs w) (hi0 : -9223372036854775808 ≤ id) (hi1 : id ≤ 9223372036854775807) (hl : n ≤ 9223372036854775807) :
    Calls Tryd.prog 32 #[.agg #[.int .i64 12, .int .i64 id, .int .i64 num, .string tube, .slice a n c]] w fun x w' => ∃ v, x = .returned v ∧ Wk w w' 12 id num tube (.slice a n c) v [⟨(wordOf 12).toArray⟩, ⟨(printL id).toArray⟩, ⟨(printL n).toArray⟩] := by
  obtain ⟨i9, hi, hz0, hz1, hz2⟩ := info_parts info_string
  have k0 := T.word 12 (by decide)
  have h0 : 0 < w.heap.size := cell_lt k0
  have HT := hide T
  clear T
  have WK0 := hide (Wk.start w 12 id num tube (.slice a n c) ⟨(wordOf 12).toArray⟩)
  go_enter Tryd.func32, Tryd.ntmps32
  go_wp2_with fail
  refine (print_any id _ hi0 hi1 (HT.out.below WK0.out.low).pow).mono ?_
  rintro e y1 ⟨rfl, BN⟩
  have WKP1 := hide (WK0.out.below BN)
  clear BN
  go_wp2_with (first
      | (at_builtin; go_must (refine wpList_append_own _ rfl (.tmp 41) (.tmp 45) 64 rfl w.heap.size 9 i9 (.string ⟨#[]⟩) 1 16 Tryd.underlying64 hi hz0 hz1 hz2 rfl (by decide) _ _ _ rfl (WKP1.out.below ((Below.refl _ _).alloc (Nat.le_refl _) _)).own ⟨y1.heap.size, 0, none⟩ 1 1 [.string ⟨(printL id).toArray⟩] rfl rfl (cell_one_new _ _ _) (by intro u hu; simp at hu; subst hu; rfl) (by unfold maxLen; simp) (by simp) (by have := WKP1.out.low.size; simp; omega) ?_; intro v1 w1 hown hgrow _; have WKA1 := hide ((WKP1.out.below ((Below.refl _ y1).alloc (Nat.le_refl _) (.cells #[.string ⟨(printL id).toArray⟩] 9))).grown hown hgrow); obtain ⟨x0, x1, x2, x3, x4, xl⟩ := WKA1.out.cells; clear hown hgrow)))
  refine (print_any (n : Int) _ (by omega) (by omega) (HT.out.below WKA1.out.low).pow).mono ?_
  rintro e y2 ⟨rfl, BN⟩
  have WKP2 := hide (WKA1.out.below BN)
  clear BN
  go_wp2_with (first
      | (at_builtin; go_must (refine wpList_append_own _ rfl (.tmp 47) (.tmp 52) 64 rfl w.heap.size 9 i9 (.string ⟨#[]⟩) 1 16 Tryd.underlying64 hi hz0 hz1 hz2 rfl (by decide) _ _ _ rfl (WKP2.out.below ((Below.refl _ _).alloc (Nat.le_refl _) _)).own ⟨y2.heap.size, 0, none⟩ 1 1 [.string ⟨(printL n).toArray⟩] rfl rfl (cell_one_new _ _ _) (by intro u hu; simp at hu; subst hu; rfl) (by unfold maxLen; simp) (by simp) (by have := WKP2.out.low.size; simp; omega) ?_; intro v2 w2 hown hgrow _; have WKA2 := hide ((WKP2.out.below ((Below.refl _ y2).alloc (Nat.le_refl _) (.cells #[.string ⟨(printL n).toArray⟩] 9))).grown hown hgrow); obtain ⟨x0, x1, x2, x3, x4, xl⟩ := WKA2.out.cells; clear hown hgrow)))
  go_ret
  exact ⟨_, rfl, WKA2.out⟩
set_option maxHeartbeats 2000000 in
set_option maxRecDepth 1000000 in
theorem words_13 (w : World) (id num : Int) (tube : ByteArray) (a : Option Addr) (n c : Nat) (T : Tabs w) (hn0 : -9223372036854775808 ≤ num) (hn1 : num ≤ 9223372036854775807) :
    Calls Tryd.prog 32 #[.agg #[.int .i64 13, .int .i64 id, .int .i64 num, .string tube, .slice a n c]] w fun x w' => ∃ v, x = .returned v ∧ Wk w w' 13 id num tube (.slice a n c) v [⟨(wordOf 13).toArray⟩, ⟨(printL num).toArray⟩] := by
  obtain ⟨i9, hi, hz0, hz1, hz2⟩ := info_parts info_string
  have k0 := T.word 13 (by decide)
  have h0 : 0 < w.heap.size := cell_lt k0
  have HT := hide T
  clear T
  have WK0 := hide (Wk.start w 13 id num tube (.slice a n c) ⟨(wordOf 13).toArray⟩)
  go_enter Tryd.func32, Tryd.ntmps32
  go_wp2_with fail
  refine (print_any num _ hn0 hn1 (HT.out.below WK0.out.low).pow).mono ?_
  rintro e y1 ⟨rfl, BN⟩
  have WKP1 := hide (WK0.out.below BN)
  clear BN
  go_wp2_with (first
      | (at_builtin; go_must (refine wpList_append_own _ rfl (.tmp 35) (.tmp 39) 64 rfl w.heap.size 9 i9 (.string ⟨#[]⟩) 1 16 Tryd.underlying64 hi hz0 hz1 hz2 rfl (by decide) _ _ _ rfl (WKP1.out.below ((Below.refl _ _).alloc (Nat.le_refl _) _)).own ⟨y1.heap.size, 0, none⟩ 1 1 [.string ⟨(printL num).toArray⟩] rfl rfl (cell_one_new _ _ _) (by intro u hu; simp at hu; subst hu; rfl) (by unfold maxLen; simp) (by simp) (by have := WKP1.out.low.size; simp; omega) ?_; intro v1 w1 hown hgrow _; have WKA1 := hide ((WKP1.out.below ((Below.refl _ y1).alloc (Nat.le_refl _) (.cells #[.string ⟨(printL num).toArray⟩] 9))).grown hown hgrow); obtain ⟨x0, x1, x2, x3, x4, xl⟩ := WKA1.out.cells; clear hown hgrow)))
  go_ret
  exact ⟨_, rfl, WKA1.out⟩
set_option maxHeartbeats 2000000 in
set_option maxRecDepth 1000000 in
theorem words_16 (w : World) (id num : Int) (tube : ByteArray) (a : Option Addr) (n c : Nat) (T : Tabs w) (hl : n ≤ 9223372036854775807) :
    Calls Tryd.prog 32 #[.agg #[.int .i64 16, .int .i64 id, .int .i64 num, .string tube, .slice a n c]] w fun x w' => ∃ v, x = .returned v ∧ Wk w w' 16 id num tube (.slice a n c) v [⟨(wordOf 16).toArray⟩, ⟨(printL n).toArray⟩] := by
  obtain ⟨i9, hi, hz0, hz1, hz2⟩ := info_parts info_string
  have k0 := T.word 16 (by decide)
  have h0 : 0 < w.heap.size := cell_lt k0
  have HT := hide T
  clear T
  have WK0 := hide (Wk.start w 16 id num tube (.slice a n c) ⟨(wordOf 16).toArray⟩)
  go_enter Tryd.func32, Tryd.ntmps32
  go_wp2_with fail
  refine (print_any (n : Int) _ (by omega) (by omega) (HT.out.below WK0.out.low).pow).mono ?_
  rintro e y1 ⟨rfl, BN⟩
  have WKP1 := hide (WK0.out.below BN)
  clear BN
  go_wp2_with (first
      | (at_builtin; go_must (refine wpList_append_own _ rfl (.tmp 47) (.tmp 52) 64 rfl w.heap.size 9 i9 (.string ⟨#[]⟩) 1 16 Tryd.underlying64 hi hz0 hz1 hz2 rfl (by decide) _ _ _ rfl (WKP1.out.below ((Below.refl _ _).alloc (Nat.le_refl _) _)).own ⟨y1.heap.size, 0, none⟩ 1 1 [.string ⟨(printL n).toArray⟩] rfl rfl (cell_one_new _ _ _) (by intro u hu; simp at hu; subst hu; rfl) (by unfold maxLen; simp) (by simp) (by have := WKP1.out.low.size; simp; omega) ?_; intro v1 w1 hown hgrow _; have WKA1 := hide ((WKP1.out.below ((Below.refl _ y1).alloc (Nat.le_refl _) (.cells #[.string ⟨(printL n).toArray⟩] 9))).grown hown hgrow); obtain ⟨x0, x1, x2, x3, x4, xl⟩ := WKA1.out.cells; clear hown hgrow)))
  go_ret
  exact ⟨_, rfl, WKA1.out⟩
set_option maxHeartbeats 2000000 in
set_option maxRecDepth 1000000 in
theorem words_0 (w : World) (k : Nat) (hk : k < 24) (hne : k ≠ 1 ∧ k ≠ 2 ∧ k ≠ 3 ∧ k ≠ 10 ∧ k ≠ 12 ∧ k ≠ 13 ∧ k ≠ 16) (id num : Int) (tube : ByteArray) (a : Option Addr) (n c : Nat) (T : Tabs w) :
    Calls Tryd.prog 32 #[.agg #[.int .i64 (k : Int), .int .i64 id, .int .i64 num, .string tube, .slice a n c]] w fun x w' => ∃ v, x = .returned v ∧ Wk w w' k id num tube (.slice a n c) v [⟨(wordOf k).toArray⟩] := by
  have k0 := T.word k hk
  have h0 : 0 < w.heap.size := cell_lt k0
  clear T
  have WK0 := hide (Wk.start w k id num tube (.slice a n c) ⟨(wordOf k).toArray⟩)
  have i1 : (0 : Int) ≤ (k : Int) := by omega
  have i2 : (k : Int) < 24 := by omega
  have e1 : ((k : Int) == 1) = false := by rw [beq_eq_false_iff_ne]; omega
  have e2 : ((k : Int) == 2) = false := by rw [beq_eq_false_iff_ne]; omega
  have e3 : ((k : Int) == 3) = false := by rw [beq_eq_false_iff_ne]; omega
  have e4 : ((k : Int) == 10) = false := by rw [beq_eq_false_iff_ne]; omega
  have e5 : ((k : Int) == 12) = false := by rw [beq_eq_false_iff_ne]; omega
  have e6 : ((k : Int) == 13) = false := by rw [beq_eq_false_iff_ne]; omega
  have e7 : ((k : Int) == 16) = false := by rw [beq_eq_false_iff_ne]; omega
  clear hne
  go_enter Tryd.func32, Tryd.ntmps32
  go_wp2_with fail
  go_ret
  exact ⟨_, rfl, WK0.out⟩
end Go.Proofs.YtomgnailgddchaaDoor

namespace Go.Proofs.YtomgnailgddchaaDoor
open Go.RowKit

set_option maxHeartbeats 400000 in
set_option maxRecDepth 1000000 in
theorem word_any (s : ByteArray) (w : World) :
    Calls Tryd.prog 38 #[.string s] w fun e w' => e = .returned (.bool (wordB s.data.toList)) ∧ ∃ pos, w' = w.iter s pos := by
  go_enter Tryd.func38, Tryd.ntmps38
  go_wp2
  go_loopw [4] (fun _ w' => ∃ pos, w' = w.iter s pos ∧ (s.data.toList.take pos).all okc = true) (fun _ w' => s.size - w'.iterPos w.heap.size)
  case atStart => exact ⟨0, rfl, rfl⟩
  case round =>
    obtain ⟨pos, rfl, ha⟩ := hrel
    have HA : Hid ((s.data.toList.take pos).all okc = true) := ha
    clear ha
    by_cases hp : pos < s.size
    · have hnx : ∀ ty, (Instr.next (.pointer (some ⟨w.heap.size, 0, none⟩)) true ty).run Tryd.prog (w.iter s pos) = _ := fun ty => run_next_any w s pos ty hp
      have hwd := width_pos s pos hp
      rcases rune_byte s pos hp with ⟨h1, h2, h3⟩ | ⟨h1, h2⟩
      · rw [h2, h3] at hnx
        rw [h2] at h1
        clear h2 h3 hwd
        go_wp2
        · go_ret
          exact ⟨by rw [word_no s pos hp (by omega)]; rfl, _, rfl⟩
        · go_roundw
          case rel => exact ⟨pos + 1, rfl, word_step s pos hp HA.out (by omega) (by omega)⟩
          case measure => simp; omega
        · go_ret
          exact ⟨by rw [word_no s pos hp (by omega)]; rfl, _, rfl⟩
      · go_wp2
        go_ret
        exact ⟨by rw [word_no s pos hp (by omega)]; rfl, _, rfl⟩
    · have hnx : ∀ ty, (Instr.next (.pointer (some ⟨w.heap.size, 0, none⟩)) true ty).run Tryd.prog (w.iter s pos) = _ := fun ty => run_next_end w s pos ty hp
      go_wp2
      go_ret
      refine ⟨?_, _, rfl⟩
      rw [word_end s pos hp HA.out, ← ByteArray.toList_eq]
      simp
end Go.Proofs.YtomgnailgddchaaDoor

namespace Go.Proofs.YtomgnailgddchaaDoor
open Go.RowKit

/-- Can words be joined, and what is their line? -/
def joinB (ws : List (List UInt8)) : Bool := !ws.isEmpty && ws.all wordB
def joinV (ws : List (List UInt8)) : List UInt8 := if joinB ws then Lib.join ws [32] else []

theorem join_no (ws : List (List UInt8)) (x : List UInt8) (h : x ∈ ws) (hx : wordB x = false) : joinB ws = false := by
  have : ws.all wordB = false := List.all_eq_false.2 ⟨x, h, by simp [hx]⟩
  simp [joinB, this]

theorem join_yes (xs : List ByteArray) (k : Nat) (hk : ¬ k < xs.length) (h : ∀ x ∈ xs.take k, wordB x.data.toList = true) :
    joinB (xs.map (·.data.toList)) = decide (0 < xs.length) ∧ joinV (xs.map (·.data.toList)) = Lib.join (xs.map (·.data.toList)) [32] := by
  rw [List.take_of_length_le (by omega)] at h
  have ha : (xs.map (·.data.toList)).all wordB = true := by
    rw [List.all_eq_true]
    intro y hy
    obtain ⟨x, hx, rfl⟩ := List.mem_map.1 hy
    exact h x hx
  have hb : joinB (xs.map (·.data.toList)) = decide (0 < xs.length) := by
    rw [joinB, ha]
    cases xs <;> simp
  refine ⟨hb, ?_⟩
  rw [joinV, hb]
  cases xs with
  | nil => rfl
  | cons a r => rw [if_pos (by simp)]

set_option maxHeartbeats 1000000 in
set_option maxRecDepth 1000000 in
theorem join_any (bk o c : Nat) (xs : List ByteArray) (w : World) (hcells : ∀ (j : Nat) x, xs[j]? = some x → w.cell? ⟨bk, o + j, none⟩ = some (.string x))
    (hbk : bk < w.heap.size) (hN : xs.length ≤ 140737488355328) (hcap : xs.length ≤ c) (hlen : (Lib.join (xs.map (·.data.toList)) [32]).length ≤ 140737488355328) :
    Calls Tryd.prog 31 #[.slice (some ⟨bk, o, none⟩) xs.length c] w fun e w' =>
      e = .returned (.tuple #[.string ⟨(joinV (xs.map (·.data.toList))).toArray⟩, .bool (joinB (xs.map (·.data.toList)))]) ∧ Below w.heap.size w w' := by
  have HC : Hid (∀ (j : Nat) x, xs[j]? = some x → w.cell? ⟨bk, o + j, none⟩ = some (.string x)) := hcells
  clear hcells
  have HL : Hid ((Lib.join (xs.map (·.data.toList)) [32]).length ≤ 140737488355328) := hlen
  clear hlen
  go_enter Tryd.func31, Tryd.ntmps31
  go_wp2
  go_loopw [8] (fun i wr => ∃ k : Nat, k ≤ xs.length ∧ i = .int .i64 k ∧ Below w.heap.size w wr ∧ ∀ x ∈ xs.take k, wordB x.data.toList = true) (fun i _ => xs.length - (intOf i).toNat)
  case atStart => exact ⟨0, Nat.zero_le _, rfl, Below.refl _ _, fun x hx => by simp at hx⟩
  case round =>
    obtain ⟨k, hk, rfl, hb, ha⟩ := hrel
    have HA : Hid (∀ x ∈ xs.take k, wordB x.data.toList = true) := ha
    clear ha
    by_cases hlt : k < xs.length
    · obtain ⟨x, hx⟩ : ∃ x, xs[k]? = some x := ⟨_, List.getElem?_eq_getElem hlt⟩
      have hc : wr.cell? ⟨bk, o + k, none⟩ = some (.string x) := (hb.cell (p := ⟨bk, o + k, none⟩) hbk).trans (HC.out k x hx)
      have HX : Hid (xs[k]? = some x) := hx
      clear hx
      cases hw : wordB x.data.toList
      · have HW : Hid (wordB x.data.toList = false) := hw
        clear hw
        go_wp2_with (go_at_call 38; refine (word_any _ _).mono ?_; rintro e W' ⟨rfl, p, rfl⟩; rw [HW.out])
        go_ret2
        have hj := join_no (xs.map (·.data.toList)) x.data.toList (List.mem_map_of_mem (List.mem_of_getElem? HX.out)) HW.out
        exact ⟨by rw [joinV, hj]; rfl, hb.alloc hb.size _⟩
      · have HW : Hid (wordB x.data.toList = true) := hw
        clear hw
        go_wp2_with (go_at_call 38; refine (word_any _ _).mono ?_; rintro e W' ⟨rfl, p, rfl⟩; rw [HW.out])
        go_roundw
        case rel =>
          refine ⟨k + 1, by omega, by go_num, hb.alloc hb.size _, fun y hy => ?_⟩
          rw [List.take_add_one, HX.out] at hy
          rcases List.mem_append.1 hy with hy | hy
          · exact HA.out y hy
          · simp at hy; subst hy; exact HW.out
        case measure => simp [intOf]; omega
    · have hcw : ∀ (j : Nat) x, xs[j]? = some x → wr.cell? ⟨bk, o + j, none⟩ = some (.string x) := fun j x hj => (hb.cell (p := ⟨bk, o + j, none⟩) hbk).trans (HC.out j x hj)
      have HCW : Hid (∀ (j : Nat) x, xs[j]? = some x → wr.cell? ⟨bk, o + j, none⟩ = some (.string x)) := hcw
      clear hcw
      have hbr : bk < wr.heap.size := Nat.lt_of_lt_of_le hbk hb.size
      go_wp2_with (go_at_call 39; refine (Tryd.strings_Join bk o c xs ⟨#[32]⟩ _ HCW.out hbr hN hcap HL.out).mono ?_; rintro e W' ⟨rfl, hb2⟩)
      go_ret2
      obtain ⟨e1, e2⟩ := join_yes xs k hlt HA.out
      refine ⟨?_, hb.trans (hb2.mono hb.size)⟩
      rw [e1, e2]
      simp

set_option maxHeartbeats 400000 in
set_option maxRecDepth 1000000 in
theorem join_none (a : Option Addr) (c : Nat) (w : World) :
    Calls Tryd.prog 31 #[.slice a 0 c] w fun e w' => e = .returned (.tuple #[.string ⟨(joinV []).toArray⟩, .bool (joinB [])]) ∧ w' = w := by
  go_enter Tryd.func31, Tryd.ntmps31
  go_wp2
  go_loop [8] (fun i => i = .int .i64 0) (fun _ => 0)
  case atStart => rfl
  case round =>
    subst hrel
    go_wp2_with (go_at_call 39; refine (Tryd.strings_Join_none a c ⟨#[32]⟩ _).mono ?_; rintro e W' ⟨rfl, rfl⟩)
    go_ret2
    exact ⟨rfl, rfl⟩
end Go.Proofs.YtomgnailgddchaaDoor

namespace Go.Proofs.YtomgnailgddchaaDoor
open Go.RowKit

set_option maxRecDepth 100000 in
theorem okn_okc : ∀ c : UInt8, okn c = true → okc c = true := by
  have : ∀ n : Fin 256, okn (UInt8.ofNat n.1) = true → okc (UInt8.ofNat n.1) = true := by decide
  intro c h
  have := this ⟨c.toNat, UInt8.toNat_lt c⟩
  simpa using this (by simpa using h)
theorem dec_word (n : Int) : wordB (decL n) = true := by
  have h1 := dec_ne n.toNat
  unfold wordB decL
  rw [Bool.and_eq_true]
  refine ⟨by simpa using h1, List.all_eq_true.2 (fun c hc => ?_)⟩
  have := digit_of c hc
  unfold okc
  simp
  omega
theorem print_decL {n : Int} (h : 0 ≤ n) : printL n = decL n := print_dec h
theorem wordOf_word : ∀ k, k < 24 → 1 ≤ k → wordB (wordOf k) = true := by decide
theorem bare : ∀ k, k < 24 → k ≠ 1 ∧ k ≠ 2 ∧ k ≠ 3 ∧ k ≠ 10 ∧ k ≠ 12 ∧ k ≠ 13 ∧ k ≠ 16 → idOf k = 0 ∧ nuOf k = 0 ∧ boOf k = 0 ∧ tuOf k = false := by decide
theorem name_word {l : List UInt8} (h : validB l = true) : wordB l = true := by
  unfold validB at h
  unfold wordB
  simp only [Bool.and_eq_true, decide_eq_true_eq, List.all_eq_true] at h ⊢
  refine ⟨?_, fun c hc => okn_okc c (h.2 c hc)⟩
  cases l with
  | nil => simp at h
  | cons => rfl
theorem join1 (a : List UInt8) : Lib.join [a] [32] = a := by simp [Lib.join]
theorem join2 (a b : List UInt8) : Lib.join [a, b] [32] = a ++ 32 :: b := by simp [Lib.join]
theorem join3 (a b c : List UInt8) : Lib.join [a, b, c] [32] = a ++ 32 :: (b ++ 32 :: c) := by simp [Lib.join]
/-- What wordsOf tells of a right reply. -/
def WordsPost (r : Rp) (b : Value) (w : World) (x : Ending) (w' : World) : Prop := ∃ v ws, x = .returned v ∧ Wk w w' r.kind r.id r.num ⟨r.tube.toArray⟩ b v ws ∧ joinB (ws.map (·.data.toList)) = true ∧ Lib.join (ws.map (·.data.toList)) [32] = wordOf r.kind.toNat ++ fieldsL r ∧ ws.length ≤ 3 ∧ 0 < ws.length
theorem words_any (w : World) (r : Rp) (a : Option Addr) (c : Nat) (hT : Tabs w) (hr : rightB r = true) :
    Calls Tryd.prog 32 #[rpV r (.slice a r.body.length c)] w (WordsPost r (.slice a r.body.length c) w) := by
  have hf := right_facts hr
  obtain ⟨k, hk⟩ : ∃ k : Nat, r.kind = k := ⟨r.kind.toNat, by omega⟩
  obtain ⟨kind, id, num, tube, body⟩ := r
  simp only at hk hf
  subst hk
  rw [Int.toNat_natCast] at hf
  obtain ⟨h1, h2, h3, h4, h5, h6, h7, h8⟩ := hf
  obtain ⟨t1, t2, t3, t4, t5, t6⟩ := table k (by omega)
  have hi0 : -9223372036854775808 ≤ id := by omega
  have hi1 : id ≤ 9223372036854775807 := by omega
  have hn0 : -9223372036854775808 ≤ num := by omega
  have hn1 : num ≤ 9223372036854775807 := by omega
  have hz : 0 ≤ id := by omega
  have hl : body.length ≤ 9223372036854775807 := by omega
  have hw := wordOf_word k (by omega) (by omega)
  have pi : printL id = decL id := print_decL hz
  have pn : printL num = decL num := print_decL h5
  have pb : printL (body.length : Int) = decL (body.length : Int) := print_decL (by omega)
  have di := dec_word id
  have dn := dec_word num
  have db := dec_word (body.length : Int)
  have hc : k = 1 ∨ k = 2 ∨ k = 3 ∨ k = 10 ∨ k = 12 ∨ k = 13 ∨ k = 16 ∨ (k ≠ 1 ∧ k ≠ 2 ∧ k ≠ 3 ∧ k ≠ 10 ∧ k ≠ 12 ∧ k ≠ 13 ∧ k ≠ 16) := by omega
  rcases hc with rfl | rfl | rfl | rfl | rfl | rfl | rfl | hne
  · refine (words_1 w id num ⟨tube.toArray⟩ a body.length c hT hi0 hi1).mono ?_
    rintro x w' ⟨v, rfl, hW⟩
    refine ⟨v, _, rfl, hW, by simp [joinB, hw, pi, di], ?_, by simp, by simp⟩
    simp only [List.map_cons, List.map_nil, pi, join2]
    simp [fieldsL, idOf, nuOf, boOf, tuOf]
  · refine (words_2 w id num ⟨tube.toArray⟩ a body.length c hT).mono ?_
    rintro x w' ⟨v, rfl, hW⟩
    have ht : wordB tube = true := name_word (by simpa [tuOf] using h8)
    refine ⟨v, _, rfl, hW, by simp [joinB, hw, ht], ?_, by simp, by simp⟩
    simp only [List.map_cons, List.map_nil, join2]
    simp [fieldsL, idOf, nuOf, boOf, tuOf]
  · refine (words_3 w id num ⟨tube.toArray⟩ a body.length c hT hi0 hi1 hl).mono ?_
    rintro x w' ⟨v, rfl, hW⟩
    refine ⟨v, _, rfl, hW, by simp [joinB, hw, pi, di, pb, db], ?_, by simp, by simp⟩
    simp only [List.map_cons, List.map_nil, pi, pb, join3]
    simp [fieldsL, idOf, nuOf, boOf, tuOf]
  · refine (words_10 w id num ⟨tube.toArray⟩ a body.length c hT hn0 hn1).mono ?_
    rintro x w' ⟨v, rfl, hW⟩
    refine ⟨v, _, rfl, hW, by simp [joinB, hw, pn, dn], ?_, by simp, by simp⟩
    simp only [List.map_cons, List.map_nil, pn, join2]
    simp [fieldsL, idOf, nuOf, boOf, tuOf]
  · refine (words_12 w id num ⟨tube.toArray⟩ a body.length c hT hi0 hi1 hl).mono ?_
    rintro x w' ⟨v, rfl, hW⟩
    refine ⟨v, _, rfl, hW, by simp [joinB, hw, pi, di, pb, db], ?_, by simp, by simp⟩
    simp only [List.map_cons, List.map_nil, pi, pb, join3]
    simp [fieldsL, idOf, nuOf, boOf, tuOf]
  · refine (words_13 w id num ⟨tube.toArray⟩ a body.length c hT hn0 hn1).mono ?_
    rintro x w' ⟨v, rfl, hW⟩
    refine ⟨v, _, rfl, hW, by simp [joinB, hw, pn, dn], ?_, by simp, by simp⟩
    simp only [List.map_cons, List.map_nil, pn, join2]
    simp [fieldsL, idOf, nuOf, boOf, tuOf]
  · refine (words_16 w id num ⟨tube.toArray⟩ a body.length c hT hl).mono ?_
    rintro x w' ⟨v, rfl, hW⟩
    refine ⟨v, _, rfl, hW, by simp [joinB, hw, pb, db], ?_, by simp, by simp⟩
    simp only [List.map_cons, List.map_nil, pb, join2]
    simp [fieldsL, idOf, nuOf, boOf, tuOf]
  · refine (words_0 w k (by omega) hne id num ⟨tube.toArray⟩ a body.length c hT).mono ?_
    rintro x w' ⟨v, rfl, hW⟩
    obtain ⟨q1, q2, q3, q4⟩ := bare k (by omega) hne
    refine ⟨v, _, rfl, hW, by simp [joinB, hw], ?_, by simp, by simp⟩
    simp only [List.map_cons, List.map_nil, join1]
    simp [fieldsL, q1, q2, q3, q4]
end Go.Proofs.YtomgnailgddchaaDoor
