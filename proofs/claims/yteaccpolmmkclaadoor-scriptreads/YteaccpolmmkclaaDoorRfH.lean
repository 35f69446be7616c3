/-
  RefC, RefHead.
-/
import Derived.Test.YteaccpolmmkclaaDoorConf
import Derived.Test.YteaccpolmmkclaaDoorRfB
namespace Go.Proofs.YteaccpolmmkclaaDoor
open Go.RowKit

set_option maxRecDepth 1000000 in
theorem refWithin_any (n a b : Int) (w : World) : Calls Tryd.prog 53 #[.int .i64 n, .int .i64 a, .int .i64 b] w fun e w' => e = .returned (.bool (withinB n a b)) ∧ w' = w := by
  by_cases h1 : a ≤ n
  · by_cases h2 : n ≤ b
    · go_enter Tryd.func53, Tryd.ntmps53
      go_wp2
      go_ret
      exact ⟨by simp [withinB, h1, h2], rfl⟩
    · go_enter Tryd.func53, Tryd.ntmps53
      go_wp2
      go_ret
      exact ⟨by simp [withinB, h1, h2], rfl⟩
  · go_enter Tryd.func53, Tryd.ntmps53
    go_wp2
    go_ret
    exact ⟨by rw [show withinB n a b = false by simp [withinB]; omega]; rfl, rfl⟩

set_option maxHeartbeats 1000000 in
set_option maxRecDepth 1000000 in
theorem refConfig_any (j s q : Int) (w : World) :
    Calls Tryd.prog 36 #[.agg #[.int .i64 j, .int .i64 s, .int .i64 q]] w fun e w' => e = .returned (.int .i64 (configE j s q)) ∧ Below w.heap.size w w' := by
  have C1 : Hid (∀ W, Calls Tryd.prog 53 #[.int .i64 j, .int .i64 1, .int .i64 65535] W fun e w' => e = .returned (.bool (withinB j 1 65535)) ∧ w' = W) := refWithin_any j 1 65535
  have C2 : Hid (∀ W, Calls Tryd.prog 53 #[.int .i64 s, .int .i64 128, .int .i64 1048576] W fun e w' => e = .returned (.bool (withinB s 128 1048576)) ∧ w' = W) := refWithin_any s 128 1048576
  have C3 : Hid (∀ W, Calls Tryd.prog 53 #[.int .i64 q, .int .i64 1024, .int .i64 67108864] W fun e w' => e = .returned (.bool (withinB q 1024 67108864)) ∧ w' = W) := refWithin_any q 1024 67108864
  have HS : withinB s 128 1048576 = true → 128 ≤ s ∧ s ≤ 1048576 := within_iff.1
  have HE : Hid (configE j s q = if (withinB j 1 65535 && withinB s 128 1048576 && withinB q 1024 67108864 && decide (4 * s ≤ q)) = true then 0 else 103) := by show configE j s q = _; rfl
  obtain ⟨b1, h1⟩ : ∃ b, b = withinB j 1 65535 := ⟨_, rfl⟩
  obtain ⟨b2, h2⟩ : ∃ b, b = withinB s 128 1048576 := ⟨_, rfl⟩
  obtain ⟨b3, h3⟩ : ∃ b, b = withinB q 1024 67108864 := ⟨_, rfl⟩
  rw [← h1] at C1 HE
  rw [← h2] at C2 HE HS
  rw [← h3] at C3 HE
  clear h1 h2 h3
  have B0 : Hid (Below w.heap.size w (w.alloc (.cells #[.int .i64 j, .int .i64 s, .int .i64 q] 28))) := (Below.refl _ w).alloc (Nat.le_refl _) _
  cases b1
  · go_enter Tryd.func36, Tryd.ntmps36
    go_wp2_with (first
      | (go_at_call 53; refine (C1.out _).mono ?_; rintro e w' ⟨rfl, hw'⟩; obtain rfl := hw'.symm))
    go_ret
    exact ⟨by rw [HE.out]; rfl, B0.out⟩
  cases b2
  · go_enter Tryd.func36, Tryd.ntmps36
    go_wp2_with (first
      | (go_at_call_of 53 j; refine (C1.out _).mono ?_; rintro e w' ⟨rfl, hw'⟩; obtain rfl := hw'.symm)
      | (go_at_call_of 53 s; refine (C2.out _).mono ?_; rintro e w' ⟨rfl, hw'⟩; obtain rfl := hw'.symm))
    go_ret
    exact ⟨by rw [HE.out]; rfl, B0.out⟩
  have hs := HS rfl
  clear HS
  cases b3
  · go_enter Tryd.func36, Tryd.ntmps36
    go_wp2_with (first
      | (go_at_call_of 53 j; refine (C1.out _).mono ?_; rintro e w' ⟨rfl, hw'⟩; obtain rfl := hw'.symm)
      | (go_at_call_of 53 s; refine (C2.out _).mono ?_; rintro e w' ⟨rfl, hw'⟩; obtain rfl := hw'.symm)
      | (go_at_call_of 53 q; refine (C3.out _).mono ?_; rintro e w' ⟨rfl, hw'⟩; obtain rfl := hw'.symm))
    go_ret
    exact ⟨by rw [HE.out]; rfl, B0.out⟩
  by_cases hq : 4 * s ≤ q
  · go_enter Tryd.func36, Tryd.ntmps36
    go_wp2_with (first
      | (go_at_call_of 53 j; refine (C1.out _).mono ?_; rintro e w' ⟨rfl, hw'⟩; obtain rfl := hw'.symm)
      | (go_at_call_of 53 s; refine (C2.out _).mono ?_; rintro e w' ⟨rfl, hw'⟩; obtain rfl := hw'.symm)
      | (go_at_call_of 53 q; refine (C3.out _).mono ?_; rintro e w' ⟨rfl, hw'⟩; obtain rfl := hw'.symm))
    go_ret
    exact ⟨by rw [HE.out, decide_eq_true hq]; rfl, B0.out⟩
  · go_enter Tryd.func36, Tryd.ntmps36
    go_wp2_with (first
      | (go_at_call_of 53 j; refine (C1.out _).mono ?_; rintro e w' ⟨rfl, hw'⟩; obtain rfl := hw'.symm)
      | (go_at_call_of 53 s; refine (C2.out _).mono ?_; rintro e w' ⟨rfl, hw'⟩; obtain rfl := hw'.symm)
      | (go_at_call_of 53 q; refine (C3.out _).mono ?_; rintro e w' ⟨rfl, hw'⟩; obtain rfl := hw'.symm))
    go_ret
    exact ⟨by rw [HE.out, decide_eq_false (show ¬ 4 * s ≤ q by omega)]; rfl, B0.out⟩
end Go.Proofs.YteaccpolmmkclaaDoor

namespace Go.Proofs.YteaccpolmmkclaaDoor
open Go.RowKit Go.Lib

def HeadRP (l : List Tx) (w : World) (e : Ending) (w' : World) : Prop :=
  Below w.heap.size w w' ∧ ∃ a b c er, e = .returned (.tuple #[.agg #[.int .i64 a, .int .i64 b, .int .i64 c], .int .i64 er]) ∧ ((er = 0 ∧ headP stintW l = .ok (a, b, c)) ∨ (er ≠ 0 ∧ headP stintW l = .error er))
theorem config_size {a b c : Value} : (Tryd.prog.info? 28).map (·.size) = some (#[a, b, c] : Array Value).size := by kernel_rfl
theorem config_one {a b c : Int} : (#[.int .i64 a, .int .i64 b, .int .i64 c] : Array Value).all (·.oneCell') = true := by simp [Value.oneCell']
theorem numP_cons (x : Tx) (r : List Tx) : numP (x :: r) = if parseB x maxWord then some (parseV x maxWord, r) else none := rfl
theorem head_not3 {l : List Tx} (h : l.length ≠ 3) : headP stintW l = .error 192 := by
  unfold headP
  rw [if_neg (by simp)]
  match l, h with
  | [], _ => rfl
  | [x], _ =>
    rw [numP_cons]
    cases parseB x maxWord <;> rfl
  | [x, y], _ =>
    rw [numP_cons]
    cases parseB x maxWord
    · rfl
    · show (match numP [y] with | none => _ | some (b, l2) => _) = _
      rw [numP_cons]
      cases parseB y maxWord <;> rfl
  | x :: y :: z :: u :: r, _ =>
    rw [numP_cons]
    cases parseB x maxWord
    · rfl
    · show (match numP (y :: z :: u :: r) with | none => _ | some (b, l2) => _) = _
      rw [numP_cons]
      cases parseB y maxWord
      · rfl
      · show (match numP (z :: u :: r) with | none => _ | some (b, l2) => _) = _
        rw [numP_cons]
        cases parseB z maxWord <;> rfl
theorem head_three (x y z : Tx) : headP stintW [x, y, z] = if parseB x maxWord && parseB y maxWord && parseB z maxWord then (if configB (parseV x maxWord) (parseV y maxWord) (parseV z maxWord) = true then .ok (parseV x maxWord, parseV y maxWord, parseV z maxWord) else .error 190) else .error 192 := by
  unfold headP
  rw [if_neg (by simp), numP_cons]
  cases parseB x maxWord
  · rfl
  · show (match numP [y, z] with | none => _ | some (b, l2) => _) = _
    rw [numP_cons]
    cases parseB y maxWord
    · rfl
    · show (match numP [z] with | none => _ | some (b, l2) => _) = _
      rw [numP_cons]
      cases parseB z maxWord <;> rfl
/-- The answer's box, and the numbers. -/
structure HQ (w X : World) (a b c : Int) : Prop where
  low : Below w.heap.size w X
  ret : X.heap[w.heap.size]? = some (.cells #[.int .i64 0, .int .i64 0, .int .i64 0] 28 (0, 0))
  row : X.heap[w.heap.size + 1]? = some (.cells #[.int .i64 a, .int .i64 b, .int .i64 c] 3 (0, 0))
theorem hq_start (w : World) : HQ w ((w.alloc (.cells #[.int .i64 0, .int .i64 0, .int .i64 0] 28)).alloc (.cells #[.int .i64 0, .int .i64 0, .int .i64 0] 3)) 0 0 0 := by
  have a1 := heap_alloc_new w (.cells #[.int .i64 0, .int .i64 0, .int .i64 0] 28)
  have a2 := heap_alloc_new (w.alloc (.cells #[.int .i64 0, .int .i64 0, .int .i64 0] 28)) (.cells #[.int .i64 0, .int .i64 0, .int .i64 0] 3)
  rw [World.size_alloc] at a2
  exact ⟨((Below.refl _ w).alloc (Nat.le_refl _) _).alloc (by simp) _, (heap_alloc_old _ _ (by simp)).trans a1, a2⟩
section
variable {w X Y : World} {a b c : Int}
theorem HQ.big (h : HQ w X a b c) : w.heap.size + 1 < X.heap.size := (Array.getElem?_eq_some_iff.1 h.row).1
theorem HQ.later (h : HQ w X a b c) (hb : Below X.heap.size X Y) : HQ w Y a b c := by
  have := h.big
  exact ⟨h.low.trans (hb.mono h.low.size), (hb.block _ (by omega)).trans h.ret, (hb.block _ (by omega)).trans h.row⟩
theorem HQ.cell (h : HQ w X a b c) (i : Nat) : X.cell? ⟨w.heap.size + 1, i, none⟩ = (#[.int .i64 a, .int .i64 b, .int .i64 c] : Array Value)[i]? ∧ X.frozen? ⟨w.heap.size + 1, i, none⟩ = false := by
  simp [World.cell?, World.frozen?, h.row]
theorem HQ.set (h : HQ w X a b c) (i : Nat) (v : Int) {a' b' c' : Int} (hv : (#[.int .i64 a, .int .i64 b, .int .i64 c] : Array Value).setIfInBounds i (.int .i64 v) = #[.int .i64 a', .int .i64 b', .int .i64 c']) : HQ w (X.setCell ⟨w.heap.size + 1, i, none⟩ (.int .i64 v)) a' b' c' := by
  have ks : Kept (fun j => j = w.heap.size + 1) X (X.setCell ⟨w.heap.size + 1, i, none⟩ (.int .i64 v)) := Kept.setCell _ _ _ _ _ rfl
  have hb := h.big
  refine ⟨h.low.trans (ks.below h.low.size (fun j hj e => by omega)), (ks.block _ (by omega) (by omega)).trans h.ret, ?_⟩
  rw [← hv]
  exact (set_cells h.row i _).1
end
set_option maxHeartbeats 4000000 in
set_option maxRecDepth 1000000 in
theorem refHead_any (a : Option Addr) (c : Nat) (ss : List ByteArray) (w : World) (h : IsStrs w a c ss) (hz : ∀ x ∈ ss, x.size ≤ 1048576) :
    Calls Tryd.prog 17 #[.slice a ss.length c] w (HeadRP (tls ss) w) := by
  by_cases h3 : ss.length = 3
  rotate_left
  · have HK : Hid (headP stintW (tls ss) = .error 192) := head_not3 (by simpa [tls] using h3)
    obtain ⟨m, hm⟩ : ∃ m, ss.length = m := ⟨_, rfl⟩
    rw [hm] at h3 ⊢
    have g0 : ((m : Int) != 3) = true := by simp; omega
    have B1 : Hid (Below w.heap.size w (w.alloc (.cells #[.int .i64 0, .int .i64 0, .int .i64 0] 28))) := (Below.refl _ w).alloc (Nat.le_refl _) _
    have R1 := hide (heap_alloc_new w (.cells #[.int .i64 0, .int .i64 0, .int .i64 0] 28))
    clear h hz hm h3
    go_enter Tryd.func17, Tryd.ntmps17
    go_wp2_with (refine wpList_store_row rfl 28 (.tmp 2) (.tmp 12) rfl w.heap.size #[.int .i64 0, .int .i64 0, .int .i64 0] rfl rfl 28 _ R1.out config_size rfl config_one ?_)
    have hrow : ((w.alloc (.cells #[.int .i64 0, .int .i64 0, .int .i64 0] 28)).setRow w.heap.size #[.int .i64 0, .int .i64 0, .int .i64 0]).heap[w.heap.size]? = some (.cells #[.int .i64 0, .int .i64 0, .int .i64 0] 28 (0, 0)) := setRow_heap _ _ _ _ _ _ R1.out
    refine bodyPost_ret (results_cell_tmp_row (P := Tryd.prog) Tryd.results17 _ _ w.heap.size 28 _ (0, 0) _ _ rfl rfl hrow Tryd.underlying28 rfl config_size) rfl ?_
    exact ⟨below_setRow B1.out (Nat.le_refl _) _, 0, 0, 0, 192, rfl, .inr ⟨by decide, HK.out⟩⟩
  match ss, h3, h, hz with
  | [x, y, z], _, h, hz =>
    have HK : Hid (headP stintW (tls [x, y, z]) = _) := head_three x.data.toList y.data.toList z.data.toList
    have Q0 := hide (hq_start w)
    obtain ⟨b, o, rfl, hb, hx⟩ := h.at (i := 0) (x := x) rfl
    obtain ⟨_, _, e1, _, hy⟩ := h.at (i := 1) (x := y) rfl
    cases e1
    obtain ⟨_, _, e1, _, hzz⟩ := h.at (i := 2) (x := z) rfl
    cases e1
    have hs0 : x.size ≤ 1048576 := hz x (by simp)
    have hs1 : y.size ≤ 1048576 := hz y (by simp)
    have hs2 : z.size ≤ 1048576 := hz z (by simp)
    have HC : Hid (∀ X, Below w.heap.size w X → X.cell? ⟨b, o, none⟩ = some (.string x) ∧ X.cell? ⟨b, o + 1, none⟩ = some (.string y) ∧ X.cell? ⟨b, o + 2, none⟩ = some (.string z)) := fun X hX => ⟨(hX.cell (p := ⟨b, o, none⟩) hb).trans hx, (hX.cell (p := ⟨b, o + 1, none⟩) hb).trans hy, (hX.cell (p := ⟨b, o + 2, none⟩) hb).trans hzz⟩
    clear h hz hx hy hzz
    simp only [List.length_cons, List.length_nil, Nat.zero_add, Nat.reduceAdd]
    go_enter Tryd.func17, Tryd.ntmps17
    go_wp2_with fail
    go_loopg [5] 3 (fun gk iv wr => ∃ (k : Nat) (n0 n1 n2 : Int), iv = .int .i64 (k : Int) ∧ k ≤ 3 ∧ 3 - k ≤ gk ∧ Hid (HQ w wr n0 n1 n2) ∧ Hid (0 < k → parseB x.data.toList maxWord = true ∧ n0 = parseV x.data.toList maxWord) ∧ Hid (1 < k → parseB y.data.toList maxWord = true ∧ n1 = parseV y.data.toList maxWord) ∧ Hid (2 < k → parseB z.data.toList maxWord = true ∧ n2 = parseV z.data.toList maxWord))
    case atStart => exact ⟨0, 0, 0, 0, rfl, by omega, by omega, Q0, fun h => by omega, fun h => by omega, fun h => by omega⟩
    case round =>
      obtain ⟨k, n0, n1, n2, rfl, hk, hgk, HX, H1, H2, H3⟩ := hrel
      obtain ⟨cx, cy, cz⟩ := HC.out wr HX.out.low
      rcases (show k = 0 ∨ k = 1 ∨ k = 2 ∨ k = 3 by omega) with rfl | rfl | rfl | rfl
      · have CP := hide (refParse_any x maxWord wr (by unfold maxLen; omega) (by decide) (by decide))
        obtain ⟨n, hn⟩ : ∃ n, parseV x.data.toList maxWord = n := ⟨_, rfl⟩
        cases hpb : parseB x.data.toList maxWord
        · rw [hpb, hn] at CP
          have HE : Hid (headP stintW (tls [x, y, z]) = .error 192) := by
            show _ = _
            rw [HK.out, hpb]
            simp
          clear hpb hn
          go_wp2_with fail
          refine CP.out.mono ?_
          rintro e w5 ⟨rfl, hw5⟩
          rw [hw5]
          clear hw5 w5
          go_wp2_with (refine wpList_store_row rfl 28 (.tmp 2) (.tmp 28) rfl w.heap.size #[.int .i64 0, .int .i64 0, .int .i64 0] rfl rfl 28 _ HX.out.ret config_size rfl config_one ?_)
          have hrow : (wr.setRow w.heap.size #[.int .i64 0, .int .i64 0, .int .i64 0]).heap[w.heap.size]? = some (.cells #[.int .i64 0, .int .i64 0, .int .i64 0] 28 (0, 0)) := setRow_heap _ _ _ _ _ _ HX.out.ret
          refine bodyPost_ret (results_cell_tmp_row (P := Tryd.prog) Tryd.results17 _ _ w.heap.size 28 _ (0, 0) _ _ rfl rfl hrow Tryd.underlying28 rfl config_size) rfl ?_
          exact ⟨below_setRow HX.out.low (Nat.le_refl _) _, 0, 0, 0, 192, rfl, .inr ⟨by decide, HE.out⟩⟩
        · rw [hpb, hn] at CP
          have HPN : Hid (parseB x.data.toList maxWord = true ∧ n = parseV x.data.toList maxWord) := ⟨hpb, hn.symm⟩
          have HX2 := hide (HX.out.set 0 n (a' := n) (b' := n1) (c' := n2) rfl)
          obtain ⟨zc, zf⟩ := HX.out.cell 0
          simp only [List.getElem?_toArray, List.getElem?_cons_zero] at zc
          clear hpb hn
          go_wp2_with fail
          refine CP.out.mono ?_
          rintro e w5 ⟨rfl, hw5⟩
          rw [hw5]
          clear hw5 w5
          go_wp2_with fail
          go_roundg (3 - (0 + 1))
          case measure => omega
          case rel => exact ⟨0 + 1, n, n1, n2, by go_num, by omega, Nat.le_refl _, HX2, fun _ => HPN.out, fun h => by omega, fun h => by omega⟩
      · have CP := hide (refParse_any y maxWord wr (by unfold maxLen; omega) (by decide) (by decide))
        obtain ⟨n, hn⟩ : ∃ n, parseV y.data.toList maxWord = n := ⟨_, rfl⟩
        cases hpb : parseB y.data.toList maxWord
        · rw [hpb, hn] at CP
          have HE : Hid (headP stintW (tls [x, y, z]) = .error 192) := by
            show _ = _
            rw [HK.out, hpb]
            simp
          clear hpb hn
          go_wp2_with fail
          refine CP.out.mono ?_
          rintro e w5 ⟨rfl, hw5⟩
          rw [hw5]
          clear hw5 w5
          go_wp2_with (refine wpList_store_row rfl 28 (.tmp 2) (.tmp 28) rfl w.heap.size #[.int .i64 0, .int .i64 0, .int .i64 0] rfl rfl 28 _ HX.out.ret config_size rfl config_one ?_)
          have hrow : (wr.setRow w.heap.size #[.int .i64 0, .int .i64 0, .int .i64 0]).heap[w.heap.size]? = some (.cells #[.int .i64 0, .int .i64 0, .int .i64 0] 28 (0, 0)) := setRow_heap _ _ _ _ _ _ HX.out.ret
          refine bodyPost_ret (results_cell_tmp_row (P := Tryd.prog) Tryd.results17 _ _ w.heap.size 28 _ (0, 0) _ _ rfl rfl hrow Tryd.underlying28 rfl config_size) rfl ?_
          exact ⟨below_setRow HX.out.low (Nat.le_refl _) _, 0, 0, 0, 192, rfl, .inr ⟨by decide, HE.out⟩⟩
        · rw [hpb, hn] at CP
          have HPN : Hid (parseB y.data.toList maxWord = true ∧ n = parseV y.data.toList maxWord) := ⟨hpb, hn.symm⟩
          have HX2 := hide (HX.out.set 1 n (a' := n0) (b' := n) (c' := n2) rfl)
          obtain ⟨zc, zf⟩ := HX.out.cell 1
          simp only [List.getElem?_toArray, List.getElem?_cons_zero, List.getElem?_cons_succ] at zc
          clear hpb hn
          go_wp2_with fail
          refine CP.out.mono ?_
          rintro e w5 ⟨rfl, hw5⟩
          rw [hw5]
          clear hw5 w5
          go_wp2_with fail
          go_roundg (3 - (1 + 1))
          case measure => omega
          case rel => exact ⟨1 + 1, n0, n, n2, by go_num, by omega, Nat.le_refl _, HX2, fun _ => H1.out (by omega), fun _ => HPN.out, fun h => by omega⟩
      · have CP := hide (refParse_any z maxWord wr (by unfold maxLen; omega) (by decide) (by decide))
        obtain ⟨n, hn⟩ : ∃ n, parseV z.data.toList maxWord = n := ⟨_, rfl⟩
        cases hpb : parseB z.data.toList maxWord
        · rw [hpb, hn] at CP
          have HE : Hid (headP stintW (tls [x, y, z]) = .error 192) := by
            show _ = _
            rw [HK.out, hpb]
            simp
          clear hpb hn
          go_wp2_with fail
          refine CP.out.mono ?_
          rintro e w5 ⟨rfl, hw5⟩
          rw [hw5]
          clear hw5 w5
          go_wp2_with (refine wpList_store_row rfl 28 (.tmp 2) (.tmp 28) rfl w.heap.size #[.int .i64 0, .int .i64 0, .int .i64 0] rfl rfl 28 _ HX.out.ret config_size rfl config_one ?_)
          have hrow : (wr.setRow w.heap.size #[.int .i64 0, .int .i64 0, .int .i64 0]).heap[w.heap.size]? = some (.cells #[.int .i64 0, .int .i64 0, .int .i64 0] 28 (0, 0)) := setRow_heap _ _ _ _ _ _ HX.out.ret
          refine bodyPost_ret (results_cell_tmp_row (P := Tryd.prog) Tryd.results17 _ _ w.heap.size 28 _ (0, 0) _ _ rfl rfl hrow Tryd.underlying28 rfl config_size) rfl ?_
          exact ⟨below_setRow HX.out.low (Nat.le_refl _) _, 0, 0, 0, 192, rfl, .inr ⟨by decide, HE.out⟩⟩
        · rw [hpb, hn] at CP
          have HPN : Hid (parseB z.data.toList maxWord = true ∧ n = parseV z.data.toList maxWord) := ⟨hpb, hn.symm⟩
          have HX2 := hide (HX.out.set 2 n (a' := n0) (b' := n1) (c' := n) rfl)
          obtain ⟨zc, zf⟩ := HX.out.cell 2
          simp only [List.getElem?_toArray, List.getElem?_cons_zero, List.getElem?_cons_succ] at zc
          clear hpb hn
          go_wp2_with fail
          refine CP.out.mono ?_
          rintro e w5 ⟨rfl, hw5⟩
          rw [hw5]
          clear hw5 w5
          go_wp2_with fail
          go_roundg (3 - (2 + 1))
          case measure => omega
          case rel => exact ⟨2 + 1, n0, n1, n, by go_num, by omega, Nat.le_refl _, HX2, fun _ => H1.out (by omega), fun _ => H2.out (by omega), fun _ => HPN.out⟩
      · obtain ⟨p1, q1⟩ := H1.out (by omega)
        obtain ⟨p2, q2⟩ := H2.out (by omega)
        obtain ⟨p3, q3⟩ := H3.out (by omega)
        have HE : Hid (headP stintW (tls [x, y, z]) = if configB n0 n1 n2 = true then .ok (n0, n1, n2) else .error 190) := by
          show _ = _
          rw [HK.out, p1, p2, p3, ← q1, ← q2, ← q3]
          rfl
        clear p1 p2 p3 q1 q2 q3 H1 H2 H3 HK
        go_upto_region 11 with fail
        have sq : HQ w wr.drew n0 n1 n2 := HX.out.later (Below.refl _ wr).drew
        have s1 : HQ w (wr.drew.alloc (.cells #[.int .i64 0, .int .i64 0, .int .i64 0] 28)) n0 n1 n2 := HX.out.later ((Below.refl _ wr).drew.alloc (Nat.le_refl _) _)
        have b1 := heap_alloc_new wr.drew (.cells #[.int .i64 0, .int .i64 0, .int .i64 0] 28)
        obtain ⟨wa, hwa⟩ : ∃ X, X = (wr.drew.alloc (.cells #[.int .i64 0, .int .i64 0, .int .i64 0] 28)).setRow wr.heap.size #[.int .i64 n0, .int .i64 n1, .int .i64 n2] := ⟨_, rfl⟩
        have kk : Below wr.heap.size wr wa := by rw [hwa]; exact below_setRow ((Below.refl _ wr).drew.alloc (Nat.le_refl _) _) (Nat.le_refl _) _
        have s2 : HQ w wa n0 n1 n2 := HX.out.later kk
        have bx : wa.heap[wr.heap.size]? = some (.cells #[.int .i64 n0, .int .i64 n1, .int .i64 n2] 28 (0, 0)) := by rw [hwa]; exact setRow_heap _ _ _ _ _ _ b1
        refine wp_region_held_drew (S := fun X => HQ w X n0 n1 n2) (by kernel_rfl) sq (fun _ => ?_)
        refine H_take (i := 0) (v := .slice (some ⟨w.heap.size + 1, 0, none⟩) 3 3) (some 33) rfl rfl (by kernel_rfl) (by kernel_rfl) (by kernel_rfl) (fun _ _ _ h => h) rfl (fun X hX => ?_) sq ?_
        · simp [go_sem]
        simp only [Act.put, List.setIfInBounds_toArray, List.set_cons_zero, List.set_cons_succ]
        refine H_take (i := 1) (v := .pointer (some ⟨w.heap.size + 1, 0, none⟩)) (some 34) rfl rfl (by kernel_rfl) (by kernel_rfl) (by kernel_rfl) (fun _ _ _ h => h) rfl (fun X hX => ?_) sq ?_
        · simp [go_sem]
        simp only [Act.put, List.setIfInBounds_toArray, List.set_cons_zero, List.set_cons_succ]
        refine H_take (i := 2) (v := .int .i64 n0) (some 35) rfl rfl (by kernel_rfl) (by kernel_rfl) (by kernel_rfl) (fun _ _ _ h => h) rfl (fun X hX => ?_) sq ?_
        · exact run_load1 rfl rfl Tryd.isAgg3 ((hX.cell 0).1.trans rfl)
        simp only [Act.put, List.setIfInBounds_toArray, List.set_cons_zero, List.set_cons_succ]
        refine H_take (i := 3) (v := .slice (some ⟨w.heap.size + 1, 0, none⟩) 3 3) (some 36) rfl rfl (by kernel_rfl) (by kernel_rfl) (by kernel_rfl) (fun _ _ _ h => h) rfl (fun X hX => ?_) sq ?_
        · simp [go_sem]
        simp only [Act.put, List.setIfInBounds_toArray, List.set_cons_zero, List.set_cons_succ]
        refine H_take (i := 4) (v := .pointer (some ⟨w.heap.size + 1, 1, none⟩)) (some 37) rfl rfl (by kernel_rfl) (by kernel_rfl) (by kernel_rfl) (fun _ _ _ h => h) rfl (fun X hX => ?_) sq ?_
        · simp [go_sem]
        simp only [Act.put, List.setIfInBounds_toArray, List.set_cons_zero, List.set_cons_succ]
        refine H_take (i := 5) (v := .int .i64 n1) (some 38) rfl rfl (by kernel_rfl) (by kernel_rfl) (by kernel_rfl) (fun _ _ _ h => h) rfl (fun X hX => ?_) sq ?_
        · exact run_load1 rfl rfl Tryd.isAgg3 ((hX.cell 1).1.trans rfl)
        simp only [Act.put, List.setIfInBounds_toArray, List.set_cons_zero, List.set_cons_succ]
        refine H_take (i := 6) (v := .slice (some ⟨w.heap.size + 1, 0, none⟩) 3 3) (some 39) rfl rfl (by kernel_rfl) (by kernel_rfl) (by kernel_rfl) (fun _ _ _ h => h) rfl (fun X hX => ?_) sq ?_
        · simp [go_sem]
        simp only [Act.put, List.setIfInBounds_toArray, List.set_cons_zero, List.set_cons_succ]
        refine H_take (i := 7) (v := .pointer (some ⟨w.heap.size + 1, 2, none⟩)) (some 40) rfl rfl (by kernel_rfl) (by kernel_rfl) (by kernel_rfl) (fun _ _ _ h => h) rfl (fun X hX => ?_) sq ?_
        · simp [go_sem]
        simp only [Act.put, List.setIfInBounds_toArray, List.set_cons_zero, List.set_cons_succ]
        refine H_take (i := 8) (v := .int .i64 n2) (some 41) rfl rfl (by kernel_rfl) (by kernel_rfl) (by kernel_rfl) (fun _ _ _ h => h) rfl (fun X hX => ?_) sq ?_
        · exact run_load1 rfl rfl Tryd.isAgg3 ((hX.cell 2).1.trans rfl)
        simp only [Act.put, List.setIfInBounds_toArray, List.set_cons_zero, List.set_cons_succ]
        refine H_take (i := 9) (v := .agg #[.int .i64 n0, .int .i64 n1, .int .i64 n2]) (some 42) rfl rfl (by kernel_rfl) (by kernel_rfl) (by kernel_rfl) (fun _ _ _ h => h) rfl (fun X hX => ?_) sq ?_
        · exact run_build1 rfl (by kernel_rfl)
        simp only [Act.put, List.setIfInBounds_toArray, List.set_cons_zero, List.set_cons_succ]
        refine H_value (i := 10) (v := .pointer (some ⟨wr.heap.size, 0, none⟩)) (w' := wr.drew.alloc (.cells #[.int .i64 0, .int .i64 0, .int .i64 0] 28)) (some 8) rfl rfl (by kernel_rfl) rfl (by simp [go_sem]) s1 ?_
        simp only [Act.put, List.setIfInBounds_toArray, List.set_cons_zero, List.set_cons_succ]
        refine H_skip (i := 11) (w' := wa) rfl rfl (by kernel_rfl) rfl (by rw [hwa]; exact run_storeRow rfl wr.heap.size #[.int .i64 n0, .int .i64 n1, .int .i64 n2] rfl rfl 28 _ b1 config_size rfl config_one) s2 ?_
        refine wpAnyH_done (by kernel_rfl) ?_ _
        have S2 := hide s2
        have BX := hide bx
        clear sq s1 s2 b1 hwa kk bx
        have CC := hide (refConfig_any n0 n1 n2 wa)
        cases hcb : configB n0 n1 n2
        · have hE : configE n0 n1 n2 = 103 := by unfold configE; rw [hcb]; rfl
          rw [hE] at CC
          rw [hcb] at HE
          clear hcb hE
          go_wp2_with (refine wpList_load_row rfl 28 (.tmp 8) rfl wr.heap.size rfl 28 _ (0, 0) _ BX.out Tryd.underlying28 rfl config_size ?_)
          refine CC.out.mono ?_
          rintro e w6 ⟨rfl, b6⟩
          have S6 := hide (S2.out.later b6)
          clear b6
          go_wp2_with (refine wpList_store_row rfl 28 (.tmp 2) (.tmp 46) rfl w.heap.size #[.int .i64 0, .int .i64 0, .int .i64 0] rfl rfl 28 _ S6.out.ret config_size rfl config_one ?_)
          have hrow : (w6.setRow w.heap.size #[.int .i64 0, .int .i64 0, .int .i64 0]).heap[w.heap.size]? = some (.cells #[.int .i64 0, .int .i64 0, .int .i64 0] 28 (0, 0)) := setRow_heap _ _ _ _ _ _ S6.out.ret
          refine bodyPost_ret (results_cell_tmp_row (P := Tryd.prog) Tryd.results17 _ _ w.heap.size 28 _ (0, 0) _ _ rfl rfl hrow Tryd.underlying28 rfl config_size) rfl ?_
          exact ⟨below_setRow S6.out.low (Nat.le_refl _) _, 0, 0, 0, 190, rfl, .inr ⟨by decide, HE.out⟩⟩
        · have hE : configE n0 n1 n2 = 0 := by unfold configE; rw [hcb]; rfl
          rw [hE] at CC
          rw [hcb] at HE
          clear hcb hE
          go_wp2_with (refine wpList_load_row rfl 28 (.tmp 8) rfl wr.heap.size rfl 28 _ (0, 0) _ BX.out Tryd.underlying28 rfl config_size ?_)
          refine CC.out.mono ?_
          rintro e w6 ⟨rfl, b6⟩
          have S6 := hide (S2.out.later b6)
          have BX6 := hide ((b6.block _ (Array.getElem?_eq_some_iff.1 BX.out).1).trans BX.out)
          clear b6
          go_wp2_with (first
            | (refine wpList_load_row rfl 28 (.tmp 8) rfl wr.heap.size rfl 28 _ (0, 0) _ BX6.out Tryd.underlying28 rfl config_size ?_)
            | (refine wpList_store_row rfl 28 (.tmp 2) (.tmp 47) rfl w.heap.size #[.int .i64 n0, .int .i64 n1, .int .i64 n2] rfl rfl 28 _ S6.out.ret config_size rfl config_one ?_))
          have hrow : (w6.setRow w.heap.size #[.int .i64 n0, .int .i64 n1, .int .i64 n2]).heap[w.heap.size]? = some (.cells #[.int .i64 n0, .int .i64 n1, .int .i64 n2] 28 (0, 0)) := setRow_heap _ _ _ _ _ _ S6.out.ret
          refine bodyPost_ret (results_cell_tmp_row (P := Tryd.prog) Tryd.results17 _ _ w.heap.size 28 _ (0, 0) _ _ rfl rfl hrow Tryd.underlying28 rfl config_size) rfl ?_
          exact ⟨below_setRow S6.out.low (Nat.le_refl _) _, n0, n1, n2, 0, rfl, .inl ⟨rfl, HE.out⟩⟩
end Go.Proofs.YteaccpolmmkclaaDoor
