/-
  The walk of IntakeScript.
-/
import Derived.Test.YtcgpfhkndbggiaaDeskA
import Derived.Test.YtcgpfhkndbggiaaWalkNames
import Derived.Deep.CutBlock
namespace Go.Proofs.Ytcgpfhkndbggiaa
open Go.RowKit

theorem DK.start {w W1 : World} {Db M T : Nat} (hr : W1.heap[Db]? = some (.cells #[.slice none 0 0, .slice none 0 0, .slice none 0 0, .slice none 0 0, .int .i64 0, .slice none 0 0] 32)) (hB : Below w.heap.size w W1) (hD : w.heap.size ≤ Db) : DK w Db 0 0 M T W1 := by
  have nt : ∀ (lab : Nat → Tag) t, Tagged lab (.slice none 0 0) t := fun _ _ g h => by cases h
  refine ⟨fun k => if k = Db then .box else .user 0, 0, [], [], .slice none 0 0, .slice none 0 0, .slice none 0 0, [], ⟨⟨.slice none 0 0, .slice none 0 0, ⟨hr, if_pos rfl, hD, ⟨World.ownsRow_nil _ _ _ _, nt _ _⟩, ⟨World.ownsRow_nil _ _ _ _, nt _ _⟩⟩, fun j e he => by simp at he⟩, hB, fun k hk => if_neg (by omega), ⟨World.ownsRow_nil _ _ _ _, nt _ _⟩, ⟨World.ownsRow_nil _ _ _ _, nt _ _⟩, ⟨.inl ⟨rfl, rfl⟩, nt _ _⟩, fun i p hp => by simp at hp, Nat.zero_le _, fun j e he => by simp at he⟩, fun i p hp => by simp at hp, rfl, by simp⟩
theorem DV.later {w W W1 : World} {Db N Q M T : Nat} {va vb : Value} {ps : List (Nat × Nat)} (h : DV w Db N Q M T va vb ps W) (hb : Below W.heap.size W W1) : DV w Db N Q M T va vb ps W1 := by
  obtain ⟨lab, f, es, L, vl, R, hd, rest⟩ := h
  exact ⟨lab, f, es, L, vl, R, hd.later hb, rest⟩
theorem DV.sees {w W : World} {Db N Q M T i ib rb n m ga ca gb cb : Nat} {ps : List (Nat × Nat)} (h : DV w Db N Q M T (.slice (some ⟨ga, 0, none⟩) n ca) (.slice (some ⟨gb, 0, none⟩) m cb) ps W) (hi : ps[i]? = some (ib, rb)) :
    Sees Db ga gb i (.slice (some ⟨ga, 0, none⟩) n ca) (.slice (some ⟨gb, 0, none⟩) m cb) ib rb W := by
  obtain ⟨lab, f, es, L, vl, R, hd, _, _, _, rfl⟩ := h
  rw [List.getElem?_map, Option.map_eq_some_iff] at hi
  obtain ⟨p, hp, he⟩ := hi
  simp only [Prod.mk.injEq] at he
  obtain ⟨rfl, rfl⟩ := he
  exact hd.sees hp
theorem DV.pair {w W : World} {Db N Q M T i ib rb : Nat} {va vb : Value} {ps : List (Nat × Nat)} (h : DV w Db N Q M T va vb ps W) (hi : ps[i]? = some (ib, rb)) :
    ∃ iv s rv, InAt W ib iv s ∧ s.held.length ≤ 2147483648 ∧ RfAt W rb rv s := by
  obtain ⟨lab, f, es, L, vl, R, hd, hev, _, _, rfl⟩ := h
  rw [List.getElem?_map, Option.map_eq_some_iff] at hi
  obtain ⟨p, hp, he⟩ := hi
  simp only [Prod.mk.injEq] at he
  obtain ⟨rfl, rfl⟩ := he
  have hpp := hd.each i p hp
  exact ⟨p.iv, p.s, p.rv, hpp.inA, hpp.fit.held, by rw [hev i p hp]; exact hpp.inB⟩
theorem DV.mono {w W : World} {Db N Q M T Q' M' T' : Nat} {va vb : Value} {ps : List (Nat × Nat)} (h : DV w Db N Q M T va vb ps W) (hQ : Q ≤ Q') (hM : M ≤ M') (hT : T ≤ T') : DV w Db N Q' M' T' va vb ps W := by
  obtain ⟨lab, f, es, L, vl, R, hd, h1, h2, h3, h4⟩ := h
  refine ⟨lab, f, es, L, vl, R, ⟨hd.held, hd.below, hd.low, hd.rowA, hd.rowB, hd.lent, fun i p hp => ?_, hd.fle, fun j e he => Nat.le_trans (hd.small j e he) hM⟩, h1, h2, Nat.le_trans h3 hQ, h4⟩
  have g := hd.each i p hp
  exact ⟨g.inA, g.fit, g.most, g.mineA, g.inB, g.mineB, Nat.le_trans g.len hT⟩
/-- The desk has some pair: its lists are in memory. -/
theorem DV.lists {w W : World} {Db N Q M T : Nat} {va vb : Value} {ps : List (Nat × Nat)} (h : DV w Db N Q M T va vb ps W) (hN : 0 < N) : ∃ ga ca gb cb, va = .slice (some ⟨ga, 0, none⟩) N ca ∧ vb = .slice (some ⟨gb, 0, none⟩) N cb ∧ ps.length = N := by
  obtain ⟨lab, f, es, L, vl, R, hd, _, hlen, _, rfl⟩ := h
  obtain ⟨p, hp⟩ : ∃ p, L[0]? = some p := ⟨_, List.getElem?_eq_getElem (by omega)⟩
  obtain ⟨ga, ca, e1, _⟩ := hd.ptrA hp
  obtain ⟨gb, cb, e2, _⟩ := hd.ptrB hp
  rw [hlen] at e1 e2
  exact ⟨ga, ca, gb, cb, e1, e2, by simp [hlen]⟩
theorem DK.lenA {w W : World} {Db N Q M T : Nat} (h : DK w Db N Q M T W) : ∃ a c, W.cell? ⟨Db, 0, none⟩ = some (.slice a N c) := by
  obtain ⟨lab, f, es, L, va, vb, vl, R, hd, hev, hlen, hq⟩ := h
  obtain ⟨aa, ca, hva, _⟩ := row_shape hd.rowA.1
  obtain ⟨c0, _⟩ := hd.cells
  rw [hva, hlen] at c0
  exact ⟨aa, ca, c0⟩
namespace intakeScript
set_option maxHeartbeats 8000000 in
set_option maxRecDepth 1000000 in
theorem walk (m1 m2 : Int) (a : Option Addr) (c : Nat) (l : List ActI) (w : World) (h : IsActs w a c l ∧ (a = none → c = 0)) (hb : tot l ≤ 1048576) (hm : MaxAt w) :
    Calls Try.prog 3 #[.int .i64 m1, .int .i64 m2, .slice a l.length c] w fun e w' => e = .returned (.bool true) ∧ Below w.heap.size w w' := by
  have HM := hide hm
  have HA : Hid (IsActs w a c l) := h.1
  have HT : Hid (tot l ≤ 1048576) := hb
  have hlc : l.length ≤ c := h.1.1
  have hll : l.length ≤ 1048576 := by have := tot_bulk l; omega
  clear h hm hb
  go_enter Try.func3, Try.ntmps3
  go_wp2_with fail
  refine (beyond_any a c l w HA.out HT.out).mono ?_
  rintro e w1 ⟨rfl, hW⟩
  have hW := hW.symm
  subst hW
  go_upto_region 4 with fail
  obtain ⟨W1, hW1⟩ : ∃ W1, W1 = w.alloc (.cells #[.slice none 0 0, .slice none 0 0, .slice none 0 0, .slice none 0 0, .int .i64 0, .slice none 0 0] 32) := ⟨_, rfl⟩
  rw [← hW1]
  obtain ⟨Db, hDb⟩ : ∃ Db, Db = w.heap.size := ⟨_, rfl⟩
  rw [← hDb]
  have BW : Below w.heap.size w W1 := by rw [hW1]; exact (Below.refl _ w).alloc (Nat.le_refl _) _
  have D1 : Hid (DK w Db 0 0 1048576 0 W1) := DK.start (by rw [hW1, hDb]; exact heap_alloc_last _ _) BW (by omega)
  have SH := hide (shown_any W1 (HM.out.below BW HM.out.lt))
  clear hW1 hDb BW
  go_wp2_with fail
  refine SH.out.mono ?_
  rintro e w2 ⟨rfl, b2⟩
  have D2 := hide (D1.out.later b2)
  clear b2 D1 SH
  go_wp2_with fail
  refine (dmade_any w w2 Db 0 0 1048576 0 m1 D2.out (by omega)).mono ?_
  rintro e w3 ⟨rfl, N1, hN1, d3⟩
  have D3 := hide d3
  clear d3 D2
  go_wp2_with fail
  refine (dmade_any w w3 Db N1 0 1048576 0 m2 D3.out (by omega)).mono ?_
  rintro e w4 ⟨rfl, N2, hN2, d4⟩
  have D4 := hide d4
  obtain ⟨a4, c4, k4⟩ := d4.lenA
  have hlt4 := cell_lt k4
  clear d4 D3
  by_cases hz : N2 = 0
  · subst hz
    go_wp2_with fail
    go_ret
    exact ⟨rfl, D4.out.below⟩
  have hN4 : N2 ≤ 4 := by omega
  have hNz : ¬ (N2 : Int) = 0 := by omega
  have hN0 : 0 < N2 := by omega
  have hNb : ((N2 : Int) == 0) = false := by simp; omega
  clear hN1 hN2
  go_wp2_with fail
  clear k4 hlt4 hNz hNb hz
  go_loopw [37] (fun q wr => ∃ (k N : Nat), q = .int .i64 k ∧ k ≤ l.length ∧ 0 < N ∧ N ≤ 4 ∧ Hid (DK w Db N (2 * k) (1048576 + 40 * k) (bulk (l.take k)) wr)) (fun q _ => l.length - (intOf q).toNat)
  case atStart => exact ⟨0, N2, rfl, Nat.zero_le _, hN0, hN4, (show DK w Db N2 (2 * 0) (1048576 + 40 * 0) (bulk (l.take 0)) w4 from D4.out.mono (by omega) (by omega) (by simp [bulk]))⟩
  case round =>
    clear D4 hN0 hN4
    obtain ⟨k, N, rfl, hk, hN0, hN4, D⟩ := hrel
    by_cases hp : k < l.length
    · have hpi : (k : Int) < (l.length : Int) := by omega
      obtain ⟨x, hxk⟩ : ∃ x, l[k]? = some x := ⟨_, List.getElem?_eq_getElem hp⟩
      rcases HA.out.2.2.2 with rfl | ⟨b, o, rfl, hbl, hc⟩
      · simp at hp
      obtain ⟨c0, c1, c2, a3, cp3, c3, hi3, hn3⟩ := hc k x hxk
      have hB := D.out.below
      have k0 := (hB.cell (p := ⟨b, o + k * 4, none⟩) hbl).trans c0
      have k1 := (hB.cell (p := ⟨b, o + k * 4 + 1, none⟩) hbl).trans c1
      have k2 := (hB.cell (p := ⟨b, o + k * 4 + 2, none⟩) hbl).trans c2
      have k3 := (hB.cell (p := ⟨b, o + k * 4 + 3, none⟩) hbl).trans c3
      have hbt := bulk_take l k x hxk
      have hbl2 : bulk (l.take (k + 1)) ≤ 1048576 := by have := bulk_le l (k + 1); have := tot_bulk l; have := HT.out; omega
      obtain ⟨x0, x1, x2, x3⟩ := x
      simp only [] at k0 k1 k2 k3 hbt hi3
      obtain ⟨L, hL⟩ : ∃ L, L = x3.length := ⟨_, rfl⟩
      rw [← hL] at k3
      obtain ⟨w3, hw3⟩ : ∃ w3, w3 = wr.alloc (.cells #[.int .i64 x0, .int .i64 x1, .int .i64 x2, .slice a3 L cp3] 36) := ⟨_, rfl⟩
      have B3 : Below wr.heap.size wr w3 := by rw [hw3]; exact (Below.refl _ wr).alloc (Nat.le_refl _) _
      have r3 : w3.heap[wr.heap.size]? = some (.cells #[.int .i64 x0, .int .i64 x1, .int .i64 x2, .slice a3 L cp3] 36 (0, 0)) := by rw [hw3]; exact heap_alloc_last _ _
      obtain ⟨j0, j1, j2, j3⟩ := act_at r3
      have hl3 := cell_lt j0
      have HW3 := hide hw3
      have CA0 := dact_any w w3 Db N (2 * k) (1048576 + 40 * k) (bulk (l.take k)) x0 x1 x2 a3 cp3 x3 (D.out.later B3) HM.out hN0 hN4 hi3 (by omega) (by omega) (by omega) (by omega)
      rw [← hL] at CA0
      have CA := hide CA0
      have HBT : Hid (bulk (l.take (k + 1)) = bulk (l.take k) + L) := by rw [hL]; exact hbt
      clear CA0 hB c0 c1 c2 c3 hi3 hn3 hc hxk hw3 B3 r3 hL hbt hbl2 D
      go_upto_region 11 with fail
      rw [← HW3.out]
      clear k0 k1 k2 k3
      obtain ⟨xb, hxb⟩ : ∃ xb, xb = wr.heap.size := ⟨_, rfl⟩
      rw [← hxb] at j0 j1 j2 j3 hl3 ⊢
      clear hxb
      by_cases h3 : k < 300
      · have h3i : (k : Int) < 300 := by omega
        go_wp2_with (first
          | (go_at_call 11; refine CA.out.mono ?_; rintro e w5 ⟨rfl, N5, hn1, hn2, d5⟩; have D5 := hide d5; clear d5)
          | (go_at_call 12; refine D5.out.holds.mono ?_; rintro e w6 ⟨rfl, d6⟩; have D6 := hide d6; clear d6))
        go_roundw
        case rel => exact ⟨k + 1, N5, by go_num, by omega, by omega, hn2, (show DK w Db N5 (2 * (k + 1)) (1048576 + 40 * (k + 1)) (bulk (l.take (k + 1))) w6 from D6.out.mono (by omega) (by omega) (by have := HBT.out; omega))⟩
        case measure => simp [intOf]; omega
      · have h3i : ¬ (k : Int) < 300 := by omega
        go_wp2_with (go_at_call 11; refine CA.out.mono ?_; rintro e w5 ⟨rfl, N5, hn1, hn2, d5⟩; have D5 := hide d5; clear d5)
        go_roundw
        case rel => exact ⟨k + 1, N5, by go_num, by omega, by omega, hn2, (show DK w Db N5 (2 * (k + 1)) (1048576 + 40 * (k + 1)) (bulk (l.take (k + 1))) w5 from D5.out.mono (by omega) (by omega) (by have := HBT.out; omega))⟩
        case measure => simp [intOf]; omega
    · have hpi : ¬ (k : Int) < (l.length : Int) := by omega
      obtain ⟨va, vb, ps, V⟩ := D.out.dv
      obtain ⟨ga, ca, gb, cb, hva, hvb, hpl⟩ := V.lists hN0
      subst hva
      subst hvb
      obtain ⟨a5, c5, k5⟩ := V.dk.lenA
      have hlt5 := cell_lt k5
      have HV0 : Hid (DV w Db N (2097152 + 4 * 0) 44040192 1048576 (.slice (some ⟨ga, 0, none⟩) N ca) (.slice (some ⟨gb, 0, none⟩) N cb) ps wr) := V.mono (by omega) (by omega) (by have := bulk_le l k; have := tot_bulk l; have := HT.out; omega)
      have HPL := hide hpl
      clear V D hpl hp hk hll
      go_wp2_with fail
      clear k5 hlt5
      go_loopw [63] (fun q wr => ∃ k : Nat, q = .int .i64 k ∧ k ≤ N ∧ Hid (DV w Db N (2097152 + 4 * k) 44040192 1048576 (.slice (some ⟨ga, 0, none⟩) N ca) (.slice (some ⟨gb, 0, none⟩) N cb) ps wr)) (fun q _ => N - (intOf q).toNat)
      case atStart => exact ⟨0, rfl, Nat.zero_le _, HV0⟩
      case round =>
        clear HV0 hpi
        obtain ⟨k, rfl, hk, V⟩ := hrel
        by_cases hp : k < N
        · have hkN : (k : Int) < (N : Int) := by omega
          obtain ⟨pr, hpr⟩ : ∃ pr, ps[k]? = some pr := ⟨_, List.getElem?_eq_getElem (by rw [HPL.out]; exact hp)⟩
          obtain ⟨ib, rb⟩ := pr
          have HPK := hide hpr
          go_upto_region 17 with fail
          have VD := V.out.later (Below.refl _ _).drew
          have sq := VD.sees HPK.out
          have CN := fun (X : World) (Q : Nat) (hq : Q ≤ 16000000) (h : DV w Db N Q 44040192 1048576 (.slice (some ⟨ga, 0, none⟩) N ca) (.slice (some ⟨gb, 0, none⟩) N cb) ps X) => dnext_dv w X Db N Q 44040192 1048576 k _ _ ps h HM.out hp (by omega) (by omega) hq
          clear hpr V
          refine wp_region_held_drew (S := fun X => Sees Db ga gb k (.slice (some ⟨ga, 0, none⟩) N ca) (.slice (some ⟨gb, 0, none⟩) N cb) ib rb X) (by kernel_rfl) sq (fun _ => ?_)
          refine H_take (i := 0) (v := .pointer (some ⟨Db, 0, none⟩)) (some 66) rfl rfl (by kernel_rfl) (by kernel_rfl) (by kernel_rfl) (fun _ _ _ h => h) rfl (fun X hX => ?_) sq ?_
          · simp [go_sem]
          simp only [Act.put, List.setIfInBounds_toArray, List.set_cons_zero, List.set_cons_succ]
          refine H_take (i := 1) (v := .int .i64 (k : Int)) (some 67) rfl rfl (by kernel_rfl) (by kernel_rfl) (by kernel_rfl) (fun _ _ _ h => h) rfl (fun X hX => ?_) sq ?_
          · simp [go_sem]
          simp only [Act.put, List.setIfInBounds_toArray, List.set_cons_zero, List.set_cons_succ]
          refine H_call (i := 2) (f := 13) (args := #[.pointer (some ⟨Db, 0, none⟩), .int .i64 (k : Int)]) (some 68) rfl rfl (by kernel_rfl) rfl (by simp [go_sem]) ((CN _ _ (by omega) VD).mono ?_)
          rintro e w4 ⟨rfl, V4⟩
          have sq4 := V4.sees HPK.out
          refine ⟨_, rfl, sq4, ?_⟩
          simp only [Act.put, List.setIfInBounds_toArray, List.set_cons_zero, List.set_cons_succ]
          refine H_take (i := 3) (v := .bool false) (some 69) rfl rfl (by kernel_rfl) (by kernel_rfl) (by kernel_rfl) (fun _ _ _ h => h) rfl (fun X hX => ?_) sq4 ?_
          · simp [go_sem]
          simp only [Act.put, List.setIfInBounds_toArray, List.set_cons_zero, List.set_cons_succ]
          refine H_take (i := 4) (v := .bool false) (some 70) rfl rfl (by kernel_rfl) (by kernel_rfl) (by kernel_rfl) (fun _ _ _ h => h) rfl (fun X hX => ?_) sq4 ?_
          · simp [go_sem]
          simp only [Act.put, List.setIfInBounds_toArray, List.set_cons_zero, List.set_cons_succ]
          refine H_take (i := 5) (v := .pointer (some ⟨Db, 0, none⟩)) (some 71) rfl rfl (by kernel_rfl) (by kernel_rfl) (by kernel_rfl) (fun _ _ _ h => h) rfl (fun X hX => ?_) sq4 ?_
          · simp [go_sem]
          simp only [Act.put, List.setIfInBounds_toArray, List.set_cons_zero, List.set_cons_succ]
          refine H_take (i := 6) (v := .int .i64 (k : Int)) (some 72) rfl rfl (by kernel_rfl) (by kernel_rfl) (by kernel_rfl) (fun _ _ _ h => h) rfl (fun X hX => ?_) sq4 ?_
          · simp [go_sem]
          simp only [Act.put, List.setIfInBounds_toArray, List.set_cons_zero, List.set_cons_succ]
          refine H_call (i := 7) (f := 13) (args := #[.pointer (some ⟨Db, 0, none⟩), .int .i64 (k : Int)]) (some 73) rfl rfl (by kernel_rfl) rfl (by simp [go_sem]) ((CN _ _ (by omega) V4).mono ?_)
          rintro e w5 ⟨rfl, V5⟩
          have sq5 := V5.sees HPK.out
          refine ⟨_, rfl, sq5, ?_⟩
          simp only [Act.put, List.setIfInBounds_toArray, List.set_cons_zero, List.set_cons_succ]
          refine H_take (i := 8) (v := .bool false) (some 74) rfl rfl (by kernel_rfl) (by kernel_rfl) (by kernel_rfl) (fun _ _ _ h => h) rfl (fun X hX => ?_) sq5 ?_
          · simp [go_sem]
          simp only [Act.put, List.setIfInBounds_toArray, List.set_cons_zero, List.set_cons_succ]
          refine H_take (i := 9) (v := .bool false) (some 75) rfl rfl (by kernel_rfl) (by kernel_rfl) (by kernel_rfl) (fun _ _ _ h => h) rfl (fun X hX => ?_) sq5 ?_
          · simp [go_sem]
          simp only [Act.put, List.setIfInBounds_toArray, List.set_cons_zero, List.set_cons_succ]
          refine H_take (i := 10) (v := .bool false) (some 76) rfl rfl (by kernel_rfl) (by kernel_rfl) (by kernel_rfl) (fun _ _ _ h => h) rfl (fun X hX => ?_) sq5 ?_
          · simp [go_sem]
          simp only [Act.put, List.setIfInBounds_toArray, List.set_cons_zero, List.set_cons_succ]
          refine H_take (i := 11) (v := .pointer (some ⟨Db, 0, none⟩)) (some 77) rfl rfl (by kernel_rfl) (by kernel_rfl) (by kernel_rfl) (fun _ _ _ h => h) rfl (fun X hX => ?_) sq5 ?_
          · simp [go_sem]
          simp only [Act.put, List.setIfInBounds_toArray, List.set_cons_zero, List.set_cons_succ]
          refine H_take (i := 12) (v := .pointer (some ⟨Db, 0, none⟩)) (some 78) rfl rfl (by kernel_rfl) (by kernel_rfl) (by kernel_rfl) (fun _ _ _ h => h) rfl (fun X hX => ?_) sq5 ?_
          · simp [go_sem]
          simp only [Act.put, List.setIfInBounds_toArray, List.set_cons_zero, List.set_cons_succ]
          refine H_take (i := 13) (v := .pointer (some ⟨Db, 0, none⟩)) (some 79) rfl rfl (by kernel_rfl) (by kernel_rfl) (by kernel_rfl) (fun _ _ _ h => h) rfl (fun X hX => ?_) sq5 ?_
          · simp [go_sem]
          simp only [Act.put, List.setIfInBounds_toArray, List.set_cons_zero, List.set_cons_succ]
          refine H_take (i := 14) (v := .slice (some ⟨ga, 0, none⟩) N ca) (some 80) rfl rfl (by kernel_rfl) (by kernel_rfl) (by kernel_rfl) (fun _ _ _ h => h) rfl (fun X hX => ?_) sq5 ?_
          · exact run_load1 rfl rfl Try.isAgg25 hX.1
          simp only [Act.put, List.setIfInBounds_toArray, List.set_cons_zero, List.set_cons_succ]
          refine H_take (i := 15) (v := .int .i64 (k : Int)) (some 81) rfl rfl (by kernel_rfl) (by kernel_rfl) (by kernel_rfl) (fun _ _ _ h => h) rfl (fun X hX => ?_) sq5 ?_
          · simp [go_sem]
          simp only [Act.put, List.setIfInBounds_toArray, List.set_cons_zero, List.set_cons_succ]
          refine H_take (i := 16) (v := .pointer (some ⟨ga, k, none⟩)) (some 82) rfl rfl (by kernel_rfl) (by kernel_rfl) (by kernel_rfl) (fun _ _ _ h => h) rfl (fun X hX => ?_) sq5 ?_
          · simp [go_sem, hkN]
          simp only [Act.put, List.setIfInBounds_toArray, List.set_cons_zero, List.set_cons_succ]
          refine H_take (i := 17) (v := .pointer (some ⟨ib, 0, none⟩)) (some 83) rfl rfl (by kernel_rfl) (by kernel_rfl) (by kernel_rfl) (fun _ _ _ h => h) rfl (fun X hX => ?_) sq5 ?_
          · exact run_load1 rfl rfl Try.isAgg38 hX.2.2.1
          simp only [Act.put, List.setIfInBounds_toArray, List.set_cons_zero, List.set_cons_succ]
          refine H_take (i := 19) (v := .pointer (some ⟨Db, 0, none⟩)) (some 85) rfl rfl (by kernel_rfl) (by kernel_rfl) (by kernel_rfl) (fun _ _ _ h => h) rfl (fun X hX => ?_) sq5 ?_
          · simp [go_sem]
          simp only [Act.put, List.setIfInBounds_toArray, List.set_cons_zero, List.set_cons_succ]
          refine H_take (i := 20) (v := .pointer (some ⟨Db, 0, none⟩)) (some 86) rfl rfl (by kernel_rfl) (by kernel_rfl) (by kernel_rfl) (fun _ _ _ h => h) rfl (fun X hX => ?_) sq5 ?_
          · simp [go_sem]
          simp only [Act.put, List.setIfInBounds_toArray, List.set_cons_zero, List.set_cons_succ]
          refine H_take (i := 21) (v := .pointer (some ⟨Db, 1, none⟩)) (some 87) rfl rfl (by kernel_rfl) (by kernel_rfl) (by kernel_rfl) (fun _ _ _ h => h) rfl (fun X hX => ?_) sq5 ?_
          · simp [go_sem]
          simp only [Act.put, List.setIfInBounds_toArray, List.set_cons_zero, List.set_cons_succ]
          refine H_take (i := 22) (v := .slice (some ⟨gb, 0, none⟩) N cb) (some 88) rfl rfl (by kernel_rfl) (by kernel_rfl) (by kernel_rfl) (fun _ _ _ h => h) rfl (fun X hX => ?_) sq5 ?_
          · exact run_load1 rfl rfl Try.isAgg26 hX.2.1
          simp only [Act.put, List.setIfInBounds_toArray, List.set_cons_zero, List.set_cons_succ]
          refine H_take (i := 23) (v := .int .i64 (k : Int)) (some 89) rfl rfl (by kernel_rfl) (by kernel_rfl) (by kernel_rfl) (fun _ _ _ h => h) rfl (fun X hX => ?_) sq5 ?_
          · simp [go_sem]
          simp only [Act.put, List.setIfInBounds_toArray, List.set_cons_zero, List.set_cons_succ]
          refine H_take (i := 24) (v := .pointer (some ⟨gb, k, none⟩)) (some 90) rfl rfl (by kernel_rfl) (by kernel_rfl) (by kernel_rfl) (fun _ _ _ h => h) rfl (fun X hX => ?_) sq5 ?_
          · simp [go_sem, hkN]
          simp only [Act.put, List.setIfInBounds_toArray, List.set_cons_zero, List.set_cons_succ]
          refine H_take (i := 25) (v := .pointer (some ⟨rb, 0, none⟩)) (some 91) rfl rfl (by kernel_rfl) (by kernel_rfl) (by kernel_rfl) (fun _ _ _ h => h) rfl (fun X hX => ?_) sq5 ?_
          · exact run_load1 rfl rfl Try.isAgg40 hX.2.2.2
          simp only [Act.put, List.setIfInBounds_toArray, List.set_cons_zero, List.set_cons_succ]
          obtain ⟨iv, s, rv, inA, hsl, inB⟩ := V5.pair HPK.out
          refine H_call (i := 18) (f := 14) (args := #[.pointer (some ⟨ib, 0, none⟩)]) (some 84) rfl rfl (by kernel_rfl) rfl (by simp [go_sem]) ((Held_in w5 ib iv s inA hsl).mono ?_)
          rintro e w6 ⟨rfl, n6, hw6⟩
          have b6 : Below w5.heap.size w5 w6 := by rw [hw6]; exact below_drewN (Below.refl _ _) n6
          clear hw6
          have V6 := V5.later b6
          have sq6 := V6.sees HPK.out
          refine ⟨_, rfl, sq6, ?_⟩
          simp only [Act.put, List.setIfInBounds_toArray, List.set_cons_zero, List.set_cons_succ]
          refine H_call (i := 26) (f := 15) (args := #[.pointer (some ⟨rb, 0, none⟩)]) (some 92) rfl rfl (by kernel_rfl) rfl (by simp [go_sem]) ((refHeld_any w6 rb rv s (inB.below b6)).mono ?_)
          rintro e w7 ⟨rfl, hw7⟩
          rw [hw7]
          clear hw7 w7
          refine ⟨_, rfl, sq6, ?_⟩
          simp only [Act.put, List.setIfInBounds_toArray, List.set_cons_zero, List.set_cons_succ]
          refine H_take (i := 27) (v := .bool false) (some 93) rfl rfl (by kernel_rfl) (by kernel_rfl) (by kernel_rfl) (fun _ _ _ h => h) rfl (fun X hX => ?_) sq6 ?_
          · simp [go_sem]
          simp only [Act.put, List.setIfInBounds_toArray, List.set_cons_zero, List.set_cons_succ]
          refine H_take (i := 28) (v := .bool false) (some 94) rfl rfl (by kernel_rfl) (by kernel_rfl) (by kernel_rfl) (fun _ _ _ h => h) rfl (fun X hX => ?_) sq6 ?_
          · simp [go_sem]
          simp only [Act.put, List.setIfInBounds_toArray, List.set_cons_zero, List.set_cons_succ]
          refine wpAnyH_done (by kernel_rfl) ?_ _
          have HV6 := hide V6
          clear V6 V5 V4 VD sq sq4 sq5 sq6 CN inA inB hsl b6
          go_wp2_with fail
          go_roundw
          case rel => exact ⟨k + 1, by go_num, by omega, (show DV w Db N (2097152 + 4 * (k + 1)) 44040192 1048576 (.slice (some ⟨ga, 0, none⟩) N ca) (.slice (some ⟨gb, 0, none⟩) N cb) ps w6 from HV6.out.mono (by omega) (by omega) (by omega))⟩
          case measure => simp [intOf]; omega
        · have hkN : ¬ (k : Int) < (N : Int) := by omega
          obtain ⟨_, _, k5⟩ := V.out.dk.lenA
          have hlt5 := cell_lt k5
          have CW := hide (V.out.dk.write (by omega) (by omega))
          clear k5
          go_wp2_with (go_at_call 16; refine CW.out.mono ?_; rintro e w4 ⟨rfl, d4⟩; have D4 := hide d4; clear d4)
          go_ret
          exact ⟨rfl, D4.out.below⟩
end intakeScript
end Go.Proofs.Ytcgpfhkndbggiaa
