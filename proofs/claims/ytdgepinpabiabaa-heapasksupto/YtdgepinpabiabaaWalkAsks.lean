/-
  The walk of HeapAsks.
-/
import Derived.Test.YtdgepinpabiabaaCounting
import Derived.Test.YtdgepinpabiabaaChangeT
import Derived.Test.YtdgepinpabiabaaAmong
import Derived.Test.YtdgepinpabiabaaActs
import Derived.Test.YtdgepinpabiabaaShown
namespace Go.Proofs.Ytdgepinpabiabaa.heapAsks
open Go.RowKit

/-- What holds from act to act. -/
structure AInv (w wr : World) (cb hb mb : Nat) (v : Value) (last : Int) (R : List (Int × Int × Int)) (n k : Nat) : Prop where
  heap : HeapAtT wr hb v mb 30 #[.pointer (some ⟨cb, 0, none⟩)] last R
  count : counts cb n wr
  below : Below w.heap.size w wr
  mine : ∀ x, Mine hb v mb x → w.heap.size ≤ x ∧ x ≠ cb
  cbw : w.heap.size ≤ cb
  len : R.length ≤ k
  low : 0 ≤ last
  high : last ≤ k
  tick : ∀ r ∈ R, r.1 ≤ last
  few : n ≤ k * 176

theorem AInv.alloc {w wr : World} {cb hb mb : Nat} {v : Value} {last : Int} {R : List (Int × Int × Int)} {n k : Nat} (h : AInv w wr cb hb mb v last R n k) {w' : World} (hB : Below wr.heap.size wr w') : AInv w w' cb hb mb v last R n k :=
  ⟨h.heap.kept (Kept.ofBelow (P := fun _ => False) hB) (fun _ _ h => h), (hB.block cb (Array.getElem?_eq_some_iff.1 (show wr.heap[cb]? = _ from h.count)).1).trans h.count, h.below.trans (hB.mono h.below.size), h.mine, h.cbw, h.len, h.low, h.high, h.tick, h.few⟩

/-- One act is done. -/
theorem AInv.step {w wr w' : World} {cb hb mb : Nat} {v v' : Value} {last last' : Int} {R R' : List (Int × Int × Int)} {n n' k : Nat} (h : AInv w wr cb hb mb v last R n k) (hh : HeapAtT w' hb v' mb 30 #[.pointer (some ⟨cb, 0, none⟩)] last' R') (hc : counts cb n' w')
    (hk : Kept (fun x => Mine hb v mb x ∨ x = cb) wr w') (hm : ∀ x, Mine hb v' mb x → Mine hb v mb x ∨ wr.heap.size ≤ x) (hl : R'.length ≤ k + 1) (h0 : 0 ≤ last') (h1 : last' ≤ k + 1) (ht : ∀ r ∈ R', r.1 ≤ last') (hn : n' ≤ (k + 1) * 176) : AInv w w' cb hb mb v' last' R' n' (k + 1) := by
  have hcb := (Array.getElem?_eq_some_iff.1 (show wr.heap[cb]? = _ from h.count)).1
  refine ⟨hh, hc, h.below.trans (hk.below h.below.size (fun x hx hp => ?_)), fun x hx => ?_, h.cbw, hl, h0, by omega, ht, hn⟩
  · rcases hp with hp | hp
    · have := (h.mine x hp).1; omega
    · have := h.cbw; omega
  · rcases hm x hx with hx | hx
    · exact h.mine x hx
    · have := h.below.size
      exact ⟨by omega, by omega⟩

theorem log2_small {m : Nat} (h : m ≤ 1048576) : Nat.log2 m ≤ 20 := by
  have := log2_mono m 1048576 h
  have e : Nat.log2 1048576 = 20 := by decide +kernel
  omega
theorem log2_succ_le (m : Nat) : Nat.log2 (m + 1) ≤ Nat.log2 m + 1 := by
  by_cases h : 2 ≤ m + 1
  · rw [log2_half (m + 1) h]
    have := log2_mono ((m + 1) / 2) m (by omega)
    omega
  · rw [Nat.log2_def (m + 1), if_neg h]; omega

theorem pop_asks (lt : Int × Int → Int × Int → Bool) (R : List (Int × Int × Int)) (n : Nat) : n ≤ (popL lt R n).2 ∧ (popL lt R n).2 ≤ n + 3 * Nat.log2 R.length := by
  unfold popL
  split
  · simp only []; omega
  · exact drop_asks lt R 0 n
theorem pop_less (lt : Int × Int → Int × Int → Bool) (R : List (Int × Int × Int)) (n : Nat) : (popL lt R n).1.length ≤ R.length := by
  unfold popL
  split
  · exact Nat.le_refl _
  · rw [drop_length]; omega
theorem drop_sub {lt : Int × Int → Int × Int → Bool} {R : List (Int × Int × Int)} {p n : Nat} {x : Int × Int × Int} (h : x ∈ (dropL lt R p n).1) : x ∈ R := by
  unfold dropL at h
  split at h
  · exact mem_swapL (List.mem_of_mem_take (mem_settle.1 h))
  · exact mem_swapL (List.mem_of_mem_take h)
theorem pop_sub {lt : Int × Int → Int × Int → Bool} {R : List (Int × Int × Int)} {n : Nat} {x : Int × Int × Int} (h : x ∈ (popL lt R n).1) : x ∈ R := by
  unfold popL at h
  split at h
  · exact h
  · exact drop_sub h

set_option maxHeartbeats 8000000 in
set_option maxRecDepth 1000000 in
theorem walk (a : Option Addr) (cap : Nat) (acts : List ActI) (w : World) (ha : IsActs w a cap acts ∧ (a = none → cap = 0)) (hn : acts.length ≤ 1048576) :
    Calls Try.prog 6 #[.slice a acts.length cap] w fun e w' => e = .returned (.bool true) ∧ Below w.heap.size w w' := by
  have hnn := fun w p => thing_not_nil w p
  have hmf : ∀ (fn : Fn) (first cap : Array Value) (w : World), (Instr.makeFunc fn first cap).run Try.prog w = .ok (.func fn first cap) w := fun fn first cap w => by simp [Instr.makeFunc]
  have HAC : Hid (IsActs w a cap acts) := ha.1
  clear ha
  go_enter Try.func6, Try.ntmps6
  go_wp2_with fail
  refine (shown_any _).mono ?_
  rintro e w1 ⟨rfl, B1⟩
  have HB1 : Hid (Below w.heap.size w w1) := B1
  clear B1
  go_wp2_with fail
  refine (newT _ 30 #[.pointer (some ⟨w1.heap.size, 0, none⟩)]).mono ?_
  rintro e w2 ⟨hb, mb, rfl, h2, B2, g1, g2⟩
  have HI2 : Hid (AInv w w2 w1.heap.size hb mb (.slice none 0 0) 0 [] 0 0) := by
    have hb1 := HB1.out
    have hz := hb1.size
    rw [World.size_alloc] at B2 g1 g2
    refine ⟨h2, ?_, (hb1.alloc hz _).trans (B2.mono (by omega)), fun x hx => ?_, hz, by simp, by decide, by simp, fun r hr => by simp at hr, by simp⟩
    · have : (w1.alloc (.cells #[.int .i64 0] 3)).heap[w1.heap.size]? = some (.cells #[.int .i64 0] 3 (0, 0)) := heap_alloc_new w1 _
      exact (B2.block w1.heap.size (by omega)).trans this
    · rcases hx with rfl | hx | rfl
      · exact ⟨by omega, by omega⟩
      · cases hx
      · exact ⟨by omega, by omega⟩
  clear h2 B2 g1 g2
  go_wp2_with fail
  go_loopg [17] acts.length (fun gk s17 wr => ∃ (k : Nat) (v : Value) (last : Int) (R : List (Int × Int × Int)) (n : Nat), s17 = .int .i64 (k : Int) ∧ k ≤ acts.length ∧ acts.length - k ≤ gk ∧ Hid (AInv w wr w1.heap.size hb mb v last R n k))
  case atStart => exact ⟨0, _, _, _, _, rfl, Nat.zero_le _, Nat.le_refl _, HI2⟩
  case round =>
    clear HI2
    obtain ⟨k, v, last, R, n, rfl, hk, hgk, HI⟩ := hrel
    by_cases hkn : k < acts.length
    · have t1 : (k : Int) < (acts.length : Int) := by omega
      obtain ⟨x, hx⟩ : ∃ x, acts[k]? = some x := ⟨_, List.getElem?_eq_getElem hkn⟩
      obtain ⟨ba, oa, rfl, hba, hca⟩ : ∃ b o, a = some ⟨b, o, none⟩ ∧ b < w.heap.size ∧ ∀ (j : Nat) x, acts[j]? = some x → ∀ k u, (actCells x)[k]? = some u → w.cell? ⟨b, o + j * 5 + k, none⟩ = some u := by
        rcases HAC.out.2.2.2 with h | h
        · rw [h] at hx; simp at hx
        · exact h
      have hfit := HAC.out.2.2.1 x (List.mem_of_getElem? hx)
      obtain ⟨x0, x1, x2, x3, x4⟩ := x
      have cell : ∀ j u, (actCells (x0, x1, x2, x3, x4))[j]? = some u → wr.cell? ⟨ba, oa + k * 5 + j, none⟩ = some u := fun j u hu => (HI.out.below.cell (p := ⟨ba, oa + k * 5 + j, none⟩) hba).trans (hca k _ hx j u hu)
      have c0 := cell 0 _ rfl
      have c1 := cell 1 _ rfl
      have c2 := cell 2 _ rfl
      have c3 := cell 3 _ rfl
      have c4 := cell 4 _ rfl
      rw [Nat.add_zero] at c0
      have HFIT : Hid (actFits (x0, x1, x2, x3, x4)) := hfit
      have hbar : ba < wr.heap.size := cell_lt c0
      clear cell hca hx hfit hba
      go_wp2_with fail
      obtain ⟨wx, hwx⟩ : ∃ wx, wx = wr.alloc (.cells #[.int .i64 x0, .int .i64 x1, .int .i64 x2, .int .i64 x3, .int .i64 x4] 40) := ⟨_, rfl⟩
      rw [← hwx]
      have BX : Below wr.heap.size wr wx := by rw [hwx]; exact (Below.refl _ wr).alloc (Nat.le_refl _) _
      have xb : wx.heap[wr.heap.size]? = some (.cells #[.int .i64 x0, .int .i64 x1, .int .i64 x2, .int .i64 x3, .int .i64 x4] 40 (0, 0)) := by rw [hwx]; exact heap_alloc_new wr _
      have HIX : Hid (AInv w wx w1.heap.size hb mb v last R n k) := HI.out.alloc BX
      have hnm : ¬ Mine hb v mb wr.heap.size := fun h => by have := HI.out.heap.lt _ h; omega
      have hcn : cnt n = (n : Int) := cnt_small (by have := HI.out.few; omega)
      have hcx : wx.heap[w1.heap.size]? = some (.cells #[.int .i64 (n : Int)] 3 (0, 0)) := by rw [← hcn]; exact HIX.out.count
      have ck : wx.cell? ⟨w1.heap.size, 0, none⟩ = some (.int .i64 (n : Int)) := by simp [World.cell?, hcx]
      have hne : wr.heap.size ≠ w1.heap.size := by
        have := (Array.getElem?_eq_some_iff.1 (show wr.heap[w1.heap.size]? = _ from HI.out.count)).1
        omega
      have HXB : Hid (wx.heap[wr.heap.size]? = some (.cells #[.int .i64 x0, .int .i64 x1, .int .i64 x2, .int .i64 x3, .int .i64 x4] 40 (0, 0)) ∧ ¬ Mine hb v mb wr.heap.size ∧ wr.heap.size ≠ w1.heap.size) := ⟨xb, hnm, hne⟩
      have hRk := HI.out.len
      have hl20 := log2_small (show R.length ≤ 1048576 by omega)
      clear hwx BX xb hnm hcn hcx hne c0 c1 c2 c3 c4 hbar HI
      go_quiet (first
        | (go_at_call 32; refine Calls.quiet_of_same (lenT _ hb mb v _ _ last R (HIX.out.heap.kept (P := fun _ => False) ⟨rfl, rfl, rfl, Nat.le_refl _, fun _ _ _ => rfl⟩ (fun _ _ h => h))))
        | (go_at_call 31; refine Calls.quiet_of_same (digits_any R.length _ (by omega))))
      generalize hwq : wx.drewN _ = wq
      have BQ : Below wx.heap.size wx wq := by rw [← hwq]; exact ⟨rfl, rfl, rfl, Nat.le_refl _, fun _ _ => rfl⟩
      have HIQ : Hid (AInv w wq w1.heap.size hb mb v last R n k) := HIX.out.alloc BQ
      have HQB : Hid (wq.heap[wr.heap.size]? = some (.cells #[.int .i64 x0, .int .i64 x1, .int .i64 x2, .int .i64 x3, .int .i64 x4] 40 (0, 0))) := (BQ.block _ (Array.getElem?_eq_some_iff.1 HXB.out.1).1).trans HXB.out.1
      have q0 : wq.cell? ⟨wr.heap.size, 0, none⟩ = some (.int .i64 x0) := by simp [World.cell?, HQB.out]
      have q2 : wq.cell? ⟨wr.heap.size, 2, none⟩ = some (.int .i64 x2) := by simp [World.cell?, HQB.out]
      have q3 : wq.cell? ⟨wr.heap.size, 3, none⟩ = some (.int .i64 x3) := by simp [World.cell?, HQB.out]
      have q4 : wq.cell? ⟨wr.heap.size, 4, none⟩ = some (.int .i64 x4) := by simp [World.cell?, HQB.out]
      obtain ⟨j, hj, hj6⟩ : ∃ j : Nat, amongI x0 6 = (j : Int) ∧ j < 6 := by
        have := among_range (i := x0) (n := 6) (by decide)
        exact ⟨(amongI x0 6).toNat, by omega, by omega⟩
      have HC := among_any x0 6 wq ⟨by decide, by decide⟩
      rw [hj] at HC
      have HCH : Hid (Calls Try.prog 19 #[.int .i64 x0, .int .i64 6] wq fun e w' => e = .returned (.int .i64 (j : Int)) ∧ w' = wq) := HC
      clear HC hj BQ hwq ck
      go_wp2_with fail
      refine HCH.out.mono ?_
      rintro e w3 ⟨rfl, hW⟩
      have hW := hW.symm
      subst hW
      clear HCH HIX HXB
      have hj7 : j = 0 ∨ j = 1 ∨ j = 2 ∨ j = 3 ∨ j = 4 ∨ j = 5 := by omega
      rcases hj7 with rfl | rfl | rfl | rfl | rfl | rfl
      · go_wp2_with fail
        refine (pushT (asked_asks w1.heap.size) wq hb mb v last R (x3, x4) n HIQ.out.heap HIQ.out.count (fun _ _ => trivial) trivial (fun y hy hF => (HIQ.out.mine y hy).2 hF) (by omega) HIQ.out.low (by have := HIQ.out.high; omega) HIQ.out.tick).mono ?_
        rintro e w5 ⟨rfl, v', h5, s5, k5, m5⟩
        have hb5 := rise_asks byRank R.length (R ++ [(last + 1, (x3, x4))]) R.length n
        have hl1 := log2_succ_le R.length
        have hlen5 : (riseL byRank R.length (R ++ [(last + 1, (x3, x4))]) R.length n).1.length = R.length + 1 := by rw [riseL_length]; simp
        have ht5 : ∀ r ∈ (riseL byRank R.length (R ++ [(last + 1, (x3, x4))]) R.length n).1, r.1 ≤ last + 1 := fun r hr => by
          rcases List.mem_append.1 ((mem_rise _ _ _ _).1 hr) with hr | hr
          · have := HIQ.out.tick r hr; omega
          · simp at hr; subst hr; exact Int.le_refl _

        have few := HIQ.out.few
        obtain ⟨m, hm⟩ : ∃ m, m = (riseL byRank R.length (R ++ [(last + 1, (x3, x4))]) R.length n).2.2 := ⟨_, rfl⟩
        rw [← hm] at s5
        have HI5 : Hid (AInv w w5 w1.heap.size hb mb v' (last + 1) _ m (k + 1)) := HIQ.out.step h5 s5 k5 m5 (by omega) (by have := HIQ.out.low; omega) (by have := HIQ.out.high; omega) ht5 (by omega)
        have hcn : cnt m = (m : Int) := cnt_small (by omega)
        have hcx : w5.heap[w1.heap.size]? = some (.cells #[.int .i64 (m : Int)] 3 (0, 0)) := by rw [← hcn]; exact HI5.out.count
        have ck : w5.cell? ⟨w1.heap.size, 0, none⟩ = some (.int .i64 (m : Int)) := by simp [World.cell?, hcx]
        have tt : ¬ 8 * ((Nat.log2 R.length : Int) + 1) < (m : Int) - (n : Int) := by omega
        have mb62 : (m : Int) ≤ 1073741824 := by omega
        have nb62 : (n : Int) ≤ 1073741824 := by omega
        clear hcx hcn s5 h5 hm hb5 few k5 m5 hl1 hlen5 ht5
        go_wp2_with fail
        go_roundg (acts.length - (k + 1))
        case measure => omega
        case rel => exact ⟨k + 1, _, _, _, _, by go_num, by omega, Nat.le_refl _, HI5⟩
      · go_wp2_with fail
        refine (pushT (asked_asks w1.heap.size) wq hb mb v last R (x3, x4) n HIQ.out.heap HIQ.out.count (fun _ _ => trivial) trivial (fun y hy hF => (HIQ.out.mine y hy).2 hF) (by omega) HIQ.out.low (by have := HIQ.out.high; omega) HIQ.out.tick).mono ?_
        rintro e w5 ⟨rfl, v', h5, s5, k5, m5⟩
        have hb5 := rise_asks byRank R.length (R ++ [(last + 1, (x3, x4))]) R.length n
        have hl1 := log2_succ_le R.length
        have hlen5 : (riseL byRank R.length (R ++ [(last + 1, (x3, x4))]) R.length n).1.length = R.length + 1 := by rw [riseL_length]; simp
        have ht5 : ∀ r ∈ (riseL byRank R.length (R ++ [(last + 1, (x3, x4))]) R.length n).1, r.1 ≤ last + 1 := fun r hr => by
          rcases List.mem_append.1 ((mem_rise _ _ _ _).1 hr) with hr | hr
          · have := HIQ.out.tick r hr; omega
          · simp at hr; subst hr; exact Int.le_refl _

        have few := HIQ.out.few
        obtain ⟨m, hm⟩ : ∃ m, m = (riseL byRank R.length (R ++ [(last + 1, (x3, x4))]) R.length n).2.2 := ⟨_, rfl⟩
        rw [← hm] at s5
        have HI5 : Hid (AInv w w5 w1.heap.size hb mb v' (last + 1) _ m (k + 1)) := HIQ.out.step h5 s5 k5 m5 (by omega) (by have := HIQ.out.low; omega) (by have := HIQ.out.high; omega) ht5 (by omega)
        have hcn : cnt m = (m : Int) := cnt_small (by omega)
        have hcx : w5.heap[w1.heap.size]? = some (.cells #[.int .i64 (m : Int)] 3 (0, 0)) := by rw [← hcn]; exact HI5.out.count
        have ck : w5.cell? ⟨w1.heap.size, 0, none⟩ = some (.int .i64 (m : Int)) := by simp [World.cell?, hcx]
        have tt : ¬ 8 * ((Nat.log2 R.length : Int) + 1) < (m : Int) - (n : Int) := by omega
        have mb62 : (m : Int) ≤ 1073741824 := by omega
        have nb62 : (n : Int) ≤ 1073741824 := by omega
        clear hcx hcn s5 h5 hm hb5 few k5 m5 hl1 hlen5 ht5
        go_wp2_with fail
        go_roundg (acts.length - (k + 1))
        case measure => omega
        case rel => exact ⟨k + 1, _, _, _, _, by go_num, by omega, Nat.le_refl _, HI5⟩
      · go_wp2_with fail
        refine (pushT (asked_asks w1.heap.size) wq hb mb v last R (x3, x4) n HIQ.out.heap HIQ.out.count (fun _ _ => trivial) trivial (fun y hy hF => (HIQ.out.mine y hy).2 hF) (by omega) HIQ.out.low (by have := HIQ.out.high; omega) HIQ.out.tick).mono ?_
        rintro e w5 ⟨rfl, v', h5, s5, k5, m5⟩
        have hb5 := rise_asks byRank R.length (R ++ [(last + 1, (x3, x4))]) R.length n
        have hl1 := log2_succ_le R.length
        have hlen5 : (riseL byRank R.length (R ++ [(last + 1, (x3, x4))]) R.length n).1.length = R.length + 1 := by rw [riseL_length]; simp
        have ht5 : ∀ r ∈ (riseL byRank R.length (R ++ [(last + 1, (x3, x4))]) R.length n).1, r.1 ≤ last + 1 := fun r hr => by
          rcases List.mem_append.1 ((mem_rise _ _ _ _).1 hr) with hr | hr
          · have := HIQ.out.tick r hr; omega
          · simp at hr; subst hr; exact Int.le_refl _

        have few := HIQ.out.few
        obtain ⟨m, hm⟩ : ∃ m, m = (riseL byRank R.length (R ++ [(last + 1, (x3, x4))]) R.length n).2.2 := ⟨_, rfl⟩
        rw [← hm] at s5
        have HI5 : Hid (AInv w w5 w1.heap.size hb mb v' (last + 1) _ m (k + 1)) := HIQ.out.step h5 s5 k5 m5 (by omega) (by have := HIQ.out.low; omega) (by have := HIQ.out.high; omega) ht5 (by omega)
        have hcn : cnt m = (m : Int) := cnt_small (by omega)
        have hcx : w5.heap[w1.heap.size]? = some (.cells #[.int .i64 (m : Int)] 3 (0, 0)) := by rw [← hcn]; exact HI5.out.count
        have ck : w5.cell? ⟨w1.heap.size, 0, none⟩ = some (.int .i64 (m : Int)) := by simp [World.cell?, hcx]
        have tt : ¬ 8 * ((Nat.log2 R.length : Int) + 1) < (m : Int) - (n : Int) := by omega
        have mb62 : (m : Int) ≤ 1073741824 := by omega
        have nb62 : (n : Int) ≤ 1073741824 := by omega
        clear hcx hcn s5 h5 hm hb5 few k5 m5 hl1 hlen5 ht5
        go_wp2_with fail
        go_roundg (acts.length - (k + 1))
        case measure => omega
        case rel => exact ⟨k + 1, _, _, _, _, by go_num, by omega, Nat.le_refl _, HI5⟩
      · go_wp2_with fail
        refine (popT (asked_asks w1.heap.size) wq hb mb v last R n HIQ.out.heap HIQ.out.count (fun _ _ => trivial) (fun y hy hF => (HIQ.out.mine y hy).2 hF) (by omega)).mono ?_
        rintro e w5 ⟨rfl, v', h5, s5, k5, v5⟩
        have hb5 := pop_asks byRank R n

        have few := HIQ.out.few
        obtain ⟨m, hm⟩ : ∃ m, m = (popL byRank R n).2 := ⟨_, rfl⟩
        rw [← hm] at s5
        have HI5 : Hid (AInv w w5 w1.heap.size hb mb v' last _ m (k + 1)) := HIQ.out.step h5 s5 k5 (fun x hx => .inl (by unfold Mine at hx ⊢; rw [v5] at hx; exact hx)) (by have := pop_less byRank R n; omega) HIQ.out.low (by have := HIQ.out.high; omega) (fun r hr => HIQ.out.tick r (pop_sub hr)) (by omega)
        have hcn : cnt m = (m : Int) := cnt_small (by omega)
        have hcx : w5.heap[w1.heap.size]? = some (.cells #[.int .i64 (m : Int)] 3 (0, 0)) := by rw [← hcn]; exact HI5.out.count
        have ck : w5.cell? ⟨w1.heap.size, 0, none⟩ = some (.int .i64 (m : Int)) := by simp [World.cell?, hcx]
        have tt : ¬ 8 * ((Nat.log2 R.length : Int) + 1) < (m : Int) - (n : Int) := by omega
        have mb62 : (m : Int) ≤ 1073741824 := by omega
        have nb62 : (n : Int) ≤ 1073741824 := by omega
        clear hcx hcn s5 h5 hm hb5 few k5 v5
        go_wp2_with fail
        go_roundg (acts.length - (k + 1))
        case measure => omega
        case rel => exact ⟨k + 1, _, _, _, _, by go_num, by omega, Nat.le_refl _, HI5⟩
      · cases hf : R.find? (fun r => r.1 = x2) with
        | none =>
          go_wp2_with fail
          refine (removeT_no wq hb mb v last R x2 HIQ.out.heap HFIT.out.2.2.1 hf).mono ?_
          rintro e w5 ⟨rfl, B5⟩
          have h5 := (HIQ.out.alloc B5).heap
          have s5 := (HIQ.out.alloc B5).count
          have hb5 : True := trivial

          have few := HIQ.out.few
          obtain ⟨m, hm⟩ : ∃ m, m = n := ⟨_, rfl⟩
          rw [← hm] at s5
          have HI5 : Hid (AInv w w5 w1.heap.size hb mb v last R m (k + 1)) := HIQ.out.step h5 s5 (Kept.ofBelow B5) (fun x hx => .inl hx) (by omega) HIQ.out.low (by have := HIQ.out.high; omega) HIQ.out.tick (by omega)
          have hcn : cnt m = (m : Int) := cnt_small (by omega)
          have hcx : w5.heap[w1.heap.size]? = some (.cells #[.int .i64 (m : Int)] 3 (0, 0)) := by rw [← hcn]; exact HI5.out.count
          have ck : w5.cell? ⟨w1.heap.size, 0, none⟩ = some (.int .i64 (m : Int)) := by simp [World.cell?, hcx]
          have tt : ¬ 8 * ((Nat.log2 R.length : Int) + 1) < (m : Int) - (n : Int) := by omega
          have mb62 : (m : Int) ≤ 1073741824 := by omega
          have nb62 : (n : Int) ≤ 1073741824 := by omega
          clear hcx hcn s5 h5 hm hb5 few B5
          go_wp2_with fail
          go_roundg (acts.length - (k + 1))
          case measure => omega
          case rel => exact ⟨k + 1, _, _, _, _, by go_num, by omega, Nat.le_refl _, HI5⟩
        | some r =>
          obtain ⟨i, hi⟩ := List.mem_iff_getElem?.1 (List.mem_of_find?_eq_some hf)
          have hr1 : r.1 = x2 := by simpa using List.find?_some hf
          have HC := removeT (asked_asks w1.heap.size) wq hb mb v last R i n r HIQ.out.heap hi HIQ.out.count (fun _ _ => trivial) (fun y hy hF => (HIQ.out.mine y hy).2 hF) (by omega)
          rw [hr1] at HC
          have HCR : Hid (Calls Try.prog 26 #[.pointer (some ⟨hb, 0, none⟩), .int .i64 x2] wq _) := HC
          clear HC hf hi hr1
          go_wp2_with fail
          refine HCR.out.mono ?_
          rintro e w5 ⟨rfl, v', h5, s5, k5, v5⟩
          have hb5 := drop_asks byRank R i n
          have few := HIQ.out.few
          obtain ⟨m, hm⟩ : ∃ m, m = (dropL byRank R i n).2 := ⟨_, rfl⟩
          rw [← hm] at s5
          have HI5 : Hid (AInv w w5 w1.heap.size hb mb v' last _ m (k + 1)) := HIQ.out.step h5 s5 k5 (fun x hx => .inl (by unfold Mine at hx ⊢; rw [v5] at hx; exact hx)) (by rw [drop_length]; omega) HIQ.out.low (by have := HIQ.out.high; omega) (fun r hr => HIQ.out.tick r (drop_sub hr)) (by omega)
          have hcn : cnt m = (m : Int) := cnt_small (by omega)
          have hcx : w5.heap[w1.heap.size]? = some (.cells #[.int .i64 (m : Int)] 3 (0, 0)) := by rw [← hcn]; exact HI5.out.count
          have ck : w5.cell? ⟨w1.heap.size, 0, none⟩ = some (.int .i64 (m : Int)) := by simp [World.cell?, hcx]
          have tt : ¬ 8 * ((Nat.log2 R.length : Int) + 1) < (m : Int) - (n : Int) := by omega
          have mb62 : (m : Int) ≤ 1073741824 := by omega
          have nb62 : (n : Int) ≤ 1073741824 := by omega
          clear hcx hcn s5 h5 hm hb5 few k5 v5 HCR
          go_wp2_with fail
          go_roundg (acts.length - (k + 1))
          case measure => omega
          case rel => exact ⟨k + 1, _, _, _, _, by go_num, by omega, Nat.le_refl _, HI5⟩
      · cases hf : R.find? (fun r => r.1 = x2) with
        | none =>
          go_wp2_with fail
          refine (changeT_no wq hb mb v last R x2 (x3, x4) HIQ.out.heap HFIT.out.2.2.1 hf).mono ?_
          rintro e w5 ⟨rfl, B5⟩
          have h5 := (HIQ.out.alloc B5).heap
          have s5 := (HIQ.out.alloc B5).count
          have hb5 : True := trivial

          have few := HIQ.out.few
          obtain ⟨m, hm⟩ : ∃ m, m = n := ⟨_, rfl⟩
          rw [← hm] at s5
          have HI5 : Hid (AInv w w5 w1.heap.size hb mb v last R m (k + 1)) := HIQ.out.step h5 s5 (Kept.ofBelow B5) (fun x hx => .inl hx) (by omega) HIQ.out.low (by have := HIQ.out.high; omega) HIQ.out.tick (by omega)
          have hcn : cnt m = (m : Int) := cnt_small (by omega)
          have hcx : w5.heap[w1.heap.size]? = some (.cells #[.int .i64 (m : Int)] 3 (0, 0)) := by rw [← hcn]; exact HI5.out.count
          have ck : w5.cell? ⟨w1.heap.size, 0, none⟩ = some (.int .i64 (m : Int)) := by simp [World.cell?, hcx]
          have tt : ¬ 8 * ((Nat.log2 R.length : Int) + 1) < (m : Int) - (n : Int) := by omega
          have mb62 : (m : Int) ≤ 1073741824 := by omega
          have nb62 : (n : Int) ≤ 1073741824 := by omega
          clear hcx hcn s5 h5 hm hb5 few B5
          go_wp2_with fail
          go_roundg (acts.length - (k + 1))
          case measure => omega
          case rel => exact ⟨k + 1, _, _, _, _, by go_num, by omega, Nat.le_refl _, HI5⟩
        | some r =>
          obtain ⟨i, hi⟩ := List.mem_iff_getElem?.1 (List.mem_of_find?_eq_some hf)
          have hil := (List.getElem?_eq_some_iff.1 hi).1
          have hr1 : r.1 = x2 := by simpa using List.find?_some hf
          have hrt : x2 ≤ last := by rw [← hr1]; exact HIQ.out.tick r (List.mem_of_getElem? hi)
          have HC := changeT (asked_asks w1.heap.size) wq hb mb v last R i n r (x3, x4) HIQ.out.heap hi HIQ.out.count (fun _ _ => trivial) trivial (fun y hy hF => (HIQ.out.mine y hy).2 hF) (by omega)
          rw [hr1] at HC
          have HCR : Hid (Calls Try.prog 27 #[.pointer (some ⟨hb, 0, none⟩), .int .i64 x2, valT (x3, x4)] wq _) := HC
          clear HC hf hi hr1
          go_wp2_with fail
          refine HCR.out.mono ?_
          rintro e w5 ⟨rfl, h5, s5, k5⟩
          have hb5 := settle_asks byRank (R.set i (x2, (x3, x4))) i n (by simpa using hil)
          rw [List.length_set] at hb5
          have few := HIQ.out.few
          obtain ⟨m, hm⟩ : ∃ m, m = (changeL byRank R i (x2, (x3, x4)) n).2 := ⟨_, rfl⟩
          rw [← hm] at s5
          unfold changeL at hm
          have HI5 : Hid (AInv w w5 w1.heap.size hb mb v last _ m (k + 1)) := HIQ.out.step h5 s5 k5 (fun x hx => .inl hx) (by unfold changeL; rw [settle_length, List.length_set]; omega) HIQ.out.low (by have := HIQ.out.high; omega) (fun r hr => by rcases List.mem_or_eq_of_mem_set (mem_settle.1 hr) with hr | rfl; exact HIQ.out.tick r hr; exact hrt) (by omega)
          have hcn : cnt m = (m : Int) := cnt_small (by omega)
          have hcx : w5.heap[w1.heap.size]? = some (.cells #[.int .i64 (m : Int)] 3 (0, 0)) := by rw [← hcn]; exact HI5.out.count
          have ck : w5.cell? ⟨w1.heap.size, 0, none⟩ = some (.int .i64 (m : Int)) := by simp [World.cell?, hcx]
          have tt : ¬ 8 * ((Nat.log2 R.length : Int) + 1) < (m : Int) - (n : Int) := by omega
          have mb62 : (m : Int) ≤ 1073741824 := by omega
          have nb62 : (n : Int) ≤ 1073741824 := by omega
          clear hcx hcn s5 h5 hm hb5 few k5 HCR hil hrt
          go_wp2_with fail
          go_roundg (acts.length - (k + 1))
          case measure => omega
          case rel => exact ⟨k + 1, _, _, _, _, by go_num, by omega, Nat.le_refl _, HI5⟩
    · have t1 : ¬ (k : Int) < (acts.length : Int) := by omega
      go_wp2_with fail
      go_ret
      exact ⟨rfl, HI.out.below⟩
end Go.Proofs.Ytdgepinpabiabaa.heapAsks
