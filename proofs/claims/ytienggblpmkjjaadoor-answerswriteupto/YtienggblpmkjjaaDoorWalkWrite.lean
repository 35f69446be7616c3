/-
  The walk of AnswersWrite.
-/
import Derived.Test.YtienggblpmkjjaaDoorXLentR
import Derived.Deep.Cut
namespace Go.Proofs.YtienggblpmkjjaaDoor.answersWrite
open Go.RowKit Go.Sort

theorem blk_lt {W : World} {k : Nat} {o : Obj} (h : W.heap[k]? = some o) : k < W.heap.size := (Array.getElem?_eq_some_iff.1 h).1
/-- A cell of a row. -/
theorem cell_of {W : World} {b i : Nat} {C : Array Value} {t : TypeId} {v : Value} (h : W.heap[b]? = some (.cells C t (0, 0))) (hv : C[i]? = some v) : W.cell? ⟨b, i, none⟩ = some v := by
  unfold World.cell?
  rw [h]
  exact hv
theorem ents_le {es : List Ent} {e0 : Ent} (h : ∀ (q : Nat) e, es[q]? = some e → e.bytes.length ≤ 4294967296) (h0 : e0.bytes.length ≤ 2000000) : ∀ (q : Nat) e, (es ++ [e0])[q]? = some e → e.bytes.length ≤ 4294967296 := by
  intro q e he
  have hm := List.mem_of_getElem? he
  rcases List.mem_append.1 hm with hm | hm
  · obtain ⟨i, hi⟩ := List.getElem?_of_mem hm
    exact h i e hi
  · have : e = e0 := by simpa using hm
    rw [this]
    omega
/-- The contracts, of a reply whose cells are C. -/
structure Cons (w : World) (r : Rp) (C : Array Value) : Prop where
  check : ∀ W, Below w.heap.size w W → Calls Tryd.prog 11 #[.agg C] W fun e w' => e = .returned (.int .i64 (checkE r)) ∧ Below W.heap.size W w'
  put : ∀ W, Below w.heap.size w W → Calls Tryd.prog 12 #[.agg C] W (PutX r W)
  ref : ∀ W, Below w.heap.size w W → Calls Tryd.prog 13 #[.agg C] W (PutX r W)
theorem Cons.of {w : World} {r : Rp} {a : Option Addr} {c : Nat} (hb : IsBytes w a c r.body) (hT : Tabs w) : Cons w r (cellsR r (.slice a r.body.length c)) where
  check := fun W hW => check_any W r a c (hT.below hW)
  put := fun W hW => (put_any W r a c (hb.below hW) (hT.below hW)).mono fun _ _ h => h.x
  ref := fun W hW => (refPut_any W r a c (hb.below hW)).mono fun _ _ h => h.x

set_option maxHeartbeats 8000000 in
set_option maxRecDepth 1000000 in
theorem walk (r : Rp) (a1 : Option Addr) (c1 : Nat) (s : Rp) (a2 : Option Addr) (c2 : Nat) (w : World) (h1 : IsBytes w a1 c1 r.body ∧ r.tube.length ≤ maxLen) (h2 : IsBytes w a2 c2 s.body ∧ s.tube.length ≤ maxLen) (T : Tabs w ∧ 5 ≤ w.heap.size) (hs1 : r.body.length ≤ 1048576) (hs2 : s.body.length ≤ 1048576) :
    Calls Tryd.prog 3 #[rpV r (.slice a1 r.body.length c1), rpV s (.slice a2 s.body.length c2)] w fun e w' => e = .returned (.bool true) ∧ Below w.heap.size w w' := by
  obtain ⟨n, hn⟩ : ∃ n, n = r.body.length := ⟨_, rfl⟩
  obtain ⟨C0, hC0⟩ : ∃ C, C = cellsR r (.slice a1 n c1) := ⟨_, rfl⟩
  obtain ⟨C1, hC1⟩ : ∃ C, C = cellsR s (.slice a2 s.body.length c2) := ⟨_, rfl⟩
  have K0 : Hid (Cons w r C0) := by rw [hC0, hn]; exact Cons.of h1.1 T.1
  have K1 : Hid (Cons w s C1) := by rw [hC1]; exact Cons.of h2.1 T.1
  have CS : Hid (∀ W, Below w.heap.size w W → Calls Tryd.prog 9 #[] W fun e w' => e = .returned (.bool true) ∧ Below W.heap.size W w') := fun W hW => shown_any W (T.1.below hW) (Nat.le_trans T.2 hW.size)
  have CL : Hid (∀ W, Below w.heap.size w W → Calls Tryd.prog 10 #[.agg C0] W fun e w' => ∃ g cap, e = .returned (.tuple #[.agg (cellsR r (.slice (some ⟨g, 0, none⟩) n cap)), .slice (some ⟨g, 0, none⟩) (n + 8) cap]) ∧ Own w' W.heap.size (.slice (some ⟨g, 0, none⟩) (n + 8) cap) (r.body ++ marks 8) ∧ Below W.heap.size W w') := fun W hW => by
    rw [hC0, hn]
    exact lentReply_any W r a1 c1 (h1.1.below hW) (by omega)
  have HC : Hid (C0.size = 5 ∧ C1.size = 5 ∧ C0[4]? = some (.slice a1 n c1)) := by rw [hC0, hC1]; exact ⟨rfl, rfl, rfl⟩
  have i0 : Hid ((Tryd.prog.info? 24).map (·.size) = some C0.size ∧ (Tryd.prog.info? 24).map (·.size) = some C1.size) := by rw [HC.out.1, HC.out.2.1]; exact ⟨by kernel_rfl, by kernel_rfl⟩
  have HT : Hid (Tabs w ∧ IsBytes w a1 c1 r.body ∧ n = r.body.length ∧ C0 = cellsR r (.slice a1 n c1)) := ⟨T.1, h1.1, hn, hC0⟩
  have HO : Hid ((outB r).length ≤ 2000000 ∧ (outB s).length ≤ 2000000) := ⟨by have := outB_le r; omega, by have := outB_le s; omega⟩
  obtain ⟨wA, hwA⟩ : ∃ wA, wA = (w.alloc (.cells C0 24)).alloc (.cells C1 24) := ⟨_, rfl⟩
  obtain ⟨b0, hb0⟩ : ∃ b0, b0 = w.heap.size := ⟨_, rfl⟩
  obtain ⟨b1, hb1⟩ : ∃ b1, b1 = w.heap.size + 1 := ⟨_, rfl⟩
  have A1 : Hid (Below w.heap.size w wA ∧ wA.heap[b0]? = some (.cells C0 24 (0, 0)) ∧ wA.heap[b1]? = some (.cells C1 24 (0, 0)) ∧ b0 ≠ b1) := by
    refine ⟨by rw [hwA]; exact ((Below.refl _ w).alloc (Nat.le_refl _) _).alloc (by simp) _, ?_, ?_, by omega⟩
    · rw [hwA, hb0, heap_alloc_old _ _ (by simp)]
      exact heap_alloc_new _ _
    · have := heap_alloc_new (w.alloc (.cells C0 24)) (.cells C1 24)
      rw [World.size_alloc, ← hwA] at this
      rw [hb1]
      exact this
  have HWA := hide (And.intro hwA (And.intro hb0 hb1))
  have e0 : rpV r (.slice a1 r.body.length c1) = .agg C0 := by rw [hC0, hn]; rfl
  have e1 : rpV s (.slice a2 s.body.length c2) = .agg C1 := by rw [hC1]; rfl
  rw [e0, e1]
  have hn20 : n ≤ 1048576 := by omega
  clear hC0 hC1 hwA hb0 hb1 h1 h2 hs1 hs2 T hn e0 e1
  go_enter Tryd.func3, Tryd.ntmps3
  go_upto_region 1 with fail
  rw [← HWA.out.2.2, ← HWA.out.2.1, ← HWA.out.1]
  clear HWA
  go_wp2_with fail
  refine (CS.out _ A1.out.1).mono ?_
  rintro e w1 ⟨rfl, B1⟩
  obtain ⟨Hb, hHb⟩ : ∃ Hb, Hb = w1.heap.size := ⟨_, rfl⟩
  obtain ⟨w2, hw2⟩ : ∃ w2, w2 = w1.alloc (.cells #[.slice none 0 0, .slice none 0 0] 28) := ⟨_, rfl⟩
  have A2 : Hid (Below w.heap.size w w2 ∧ w2.heap[b0]? = some (.cells C0 24 (0, 0)) ∧ w2.heap[b1]? = some (.cells C1 24 (0, 0)) ∧ Held w2 w.heap.size (fun k => if k = Hb then .box else .user 0) Hb 0 [] ∧ b0 < Hb ∧ b1 < Hb ∧ w.heap.size ≤ Hb ∧ Hb < w2.heap.size) := by
    have q0 := (B1.block b0 (blk_lt A1.out.2.1)).trans A1.out.2.1
    have q1 := (B1.block b1 (blk_lt A1.out.2.2.1)).trans A1.out.2.2.1
    have bb := A1.out.1.trans (B1.mono A1.out.1.size)
    have hs := bb.size
    rw [hw2, hHb]
    refine ⟨bb.alloc hs _, (heap_alloc_old _ _ (blk_lt q0)).trans q0, (heap_alloc_old _ _ (blk_lt q1)).trans q1, ?_, blk_lt q0, blk_lt q1, hs, by simp⟩
    exact Held.start w1 w.heap.size (fun k => if k = w1.heap.size then .box else .user 0) hs (by simp)
  have HW2 := hide (And.intro hHb hw2)
  clear hHb hw2 B1 CS
  go_upto_region 4 with fail
  rw [← HW2.out.1, ← HW2.out.2]
  clear HW2
  go_upto_region 5 with (first
    | (refine wpList_load_row rfl 24 (.tmp 2) rfl b0 rfl 24 C0 (0, 0) _ A2.out.2.1 Tryd.underlying24 rfl i0.out.1 ?_)
    | (go_at_call 10; refine (CL.out _ A2.out.1).mono ?_; rintro e w3 ⟨g, cap, rfl, o3, b3⟩; unfold cellsR; have O3 := hide o3; have B3 := hide b3; clear o3 b3))
  obtain ⟨CI, hCI⟩ : ∃ C, C = cellsR r (.slice (some ⟨g, 0, none⟩) n cap) := ⟨_, rfl⟩
  obtain ⟨Ib, hIb⟩ : ∃ Ib, Ib = w3.heap.size := ⟨_, rfl⟩
  obtain ⟨w4, hw4⟩ : ∃ w4, w4 = w3.alloc (.cells CI 24) := ⟨_, rfl⟩
  obtain ⟨us, hus⟩ : ∃ us : List (Nat × Obj), us = [(b0, .cells C0 24 (0, 0)), (b1, .cells C1 24 (0, 0)), (Ib, .cells CI 24 (0, 0))] := ⟨_, rfl⟩
  have hRl : (r.body ++ marks 8).length = n + 8 := by rw [List.length_append, ← HT.out.2.2.1]; rfl
  obtain ⟨R, hR⟩ : ∃ R, R = r.body ++ marks 8 := ⟨_, rfl⟩
  have hgB := O3.out.lt g rfl
  have K4 : Hid (Bk w us g cap R (fun k => if k = Hb then .box else .user 0) Hb [] w4) := by
    obtain ⟨q0, q1, q2, q3, q4, q5, q6, q7⟩ := A2.out
    have b34 : Below w3.heap.size w3 w4 := by rw [hw4]; exact (Below.refl _ w3).alloc (Nat.le_refl _) _
    have b24 : Below w2.heap.size w2 w4 := B3.out.trans (b34.mono B3.out.size)
    have s3 := B3.out.size
    refine ⟨q3.below b24, q0.trans (b24.mono q0.size), fun k hk => if_neg (by omega), fun p hp => ?_, ?_, if_neg (by omega)⟩
    · rw [hus] at hp
      have hp2 : p = (b0, .cells C0 24 (0, 0)) ∨ p = (b1, .cells C1 24 (0, 0)) ∨ p = (Ib, .cells CI 24 (0, 0)) := by simpa using hp
      rcases hp2 with rfl | rfl | rfl
      · exact ⟨(b24.block b0 (blk_lt q1)).trans q1, if_neg (by omega)⟩
      · exact ⟨(b24.block b1 (blk_lt q2)).trans q2, if_neg (by omega)⟩
      · refine ⟨?_, if_neg (by omega)⟩
        rw [hw4, hIb]
        exact heap_alloc_new _ _
    · rw [hR, hRl]
      exact (O3.out.below b34).mono q0.size
  have M : Hid (((b0, .cells C0 24 (0, 0)) : Nat × Obj) ∈ us ∧ ((b1, .cells C1 24 (0, 0)) : Nat × Obj) ∈ us ∧ ((Ib, .cells CI 24 (0, 0)) : Nat × Obj) ∈ us) := by show _ ∧ _; rw [hus]; simp
  have NG : Hid (∀ p ∈ us, p.1 ≠ g) := by
    intro p hp
    rw [hus] at hp
    have hp2 : p = (b0, .cells C0 24 (0, 0)) ∨ p = (b1, .cells C1 24 (0, 0)) ∨ p = (Ib, .cells CI 24 (0, 0)) := by simpa using hp
    have := A2.out.2.2.2.2
    rcases hp2 with rfl | rfl | rfl
    · show b0 ≠ g; omega
    · show b1 ≠ g; omega
    · show Ib ≠ g; omega
  have i1 : Hid ((Tryd.prog.info? 24).map (·.size) = some CI.size) := by rw [hCI]; exact (by kernel_rfl : (Tryd.prog.info? 24).map (·.size) = some 5)
  have HI : Hid (CI[4]? = some (.slice (some ⟨g, 0, none⟩) n cap) ∧ CI = cellsR r (.slice (some ⟨g, 0, none⟩) n cap) ∧ R = r.body ++ marks 8) := by rw [hCI]; exact ⟨rfl, rfl, hR⟩
  have KI : Hid (∀ W, Below w.heap.size w W → IsBytes W (some ⟨g, 0, none⟩) cap r.body → (Calls Tryd.prog 11 #[.agg CI] W fun e w' => e = .returned (.int .i64 (checkE r)) ∧ Below W.heap.size W w') ∧ Calls Tryd.prog 12 #[.agg CI] W (PutX r W)) := by
    intro W hW hB
    rw [hCI, HT.out.2.2.1]
    exact ⟨check_any W r _ _ (HT.out.1.below hW), (put_any W r _ _ hB (HT.out.1.below hW)).mono fun _ _ h => h.x⟩
  have LB : Hid (∀ {lab es W}, Bk w us g cap R lab Hb es W → IsBytes W (some ⟨g, 0, none⟩) cap r.body ∧ IsBytes W (some ⟨g, 0, none⟩) cap (r.body ++ marks 8)) := by
    intro lab es W h
    have h2 := h.lent.is.1
    rw [hR] at h2
    exact ⟨h2.head, h2⟩
  have CST : Hid (∀ W, IsBytes W (some ⟨g, 0, none⟩) cap (r.body ++ marks 8) → IsBytes W a1 c1 r.body → Calls Tryd.prog 15 #[.slice (some ⟨g, 0, none⟩) (n + 8) cap, .slice a1 n c1] W fun e w' => e = .returned (.bool true) ∧ ∃ m, w' = W.drewN m) := by
    intro W hA hB
    rw [HT.out.2.2.1]
    exact still_any (some ⟨g, 0, none⟩) cap a1 c1 r.body W hA hB
  have hcc : (checkE r != checkE r) = false := by simp
  have hcs : (checkE s != checkE s) = false := by simp
  have HW4 := hide (And.intro hIb (And.intro hw4 hCI))
  clear hCI hIb hw4 hus hRl hR hgB A2 O3 B3 A1 CL
  have hHW : (w3.alloc (.cells #[.int .i64 r.kind, .int .i64 r.id, .int .i64 r.num, .string ⟨r.tube.toArray⟩, .slice (some ⟨g, 0, none⟩) n cap] 24)) = w4 := by rw [HW4.out.2.1, HW4.out.2.2]; rfl
  rw [hHW, ← HW4.out.1]
  clear hHW HW4
  go_wp2_with fail
  go_loopw [8] (fun i wr => ∃ (j : Nat) (lab : Nat → Tag) (es : List Ent), j ≤ 3 ∧ i = .int .i64 j ∧ es.length = j ∧ Hid (∀ (q : Nat) e, es[q]? = some e → e.bytes.length ≤ 4294967296) ∧ Hid (Bk w us g cap R lab Hb es wr)) (fun i _ => 3 - (intOf i).toNat)
  case atStart => exact ⟨0, _, [], by omega, rfl, rfl, fun q e he => by simp at he, K4⟩
  case round =>
    obtain ⟨j, lab, es, hj, rfl, hel, LE, K⟩ := hrel
    clear K4
    by_cases hp : j < 3
    · by_cases hj1 : j = 1
      · subst hj1
        go_upto_region 9 with (first
          | (refine wpList_load_row rfl 24 (.tmp 6) rfl Ib rfl 24 CI (0, 0) _ (K.out.usr _ M.out.2.2).1 Tryd.underlying24 rfl i1.out ?_)
          | (go_at_call 11; refine ((KI.out _ K.out.below (LB.out K.out).1).1).mono ?_; rintro e x1 ⟨rfl, y1⟩; have Y1 := hide y1; have K1a := hide (K.out.later y1); clear y1))
        go_upto_region 10 with (first
          | (refine wpList_load_row rfl 24 (.tmp 6) rfl Ib rfl 24 CI (0, 0) _ (K1a.out.usr _ M.out.2.2).1 Tryd.underlying24 rfl i1.out ?_)
          | (go_at_call 12; refine ((KI.out _ K1a.out.below (LB.out K1a.out).1).2).mono ?_; rintro e x2 ⟨a3, c3, rfl, o3, y2⟩; have O3 := hide o3; have Y2 := hide y2; have K2a := hide (K1a.out.later y2); clear o3 y2))
        go_upto_region 11 with (first
          | (refine wpList_load_row rfl 24 (.tmp 2) rfl b0 rfl 24 C0 (0, 0) _ (K2a.out.usr _ M.out.1).1 Tryd.underlying24 rfl i0.out.1 ?_)
          | (go_at_call 13; refine (K0.out.ref _ K2a.out.below).mono ?_; rintro e x3 ⟨a5, c5, rfl, o5, y3⟩; have O5 := hide o5; have Y3 := hide y3; have K3a := hide (K2a.out.later y3); clear o5 y3))
        go_upto_region 13 with (first
          | (refine wpList_load_row rfl 24 (.tmp 3) rfl b1 rfl 24 C1 (0, 0) _ (K3a.out.usr _ M.out.2.1).1 Tryd.underlying24 rfl i0.out.2 ?_)
          | (go_at_call 11; refine (K1.out.check _ K3a.out.below).mono ?_; rintro e x4 ⟨rfl, y4⟩; have Y4 := hide y4; have K4a := hide (K3a.out.later y4); clear y4))
        go_upto_region 14 with (first
          | (refine wpList_load_row rfl 24 (.tmp 3) rfl b1 rfl 24 C1 (0, 0) _ (K4a.out.usr _ M.out.2.1).1 Tryd.underlying24 rfl i0.out.2 ?_)
          | (go_at_call 12; refine (K1.out.put _ K4a.out.below).mono ?_; rintro e x5 ⟨a6, c6, rfl, o6, y5⟩; have O6 := hide o6; have Y5 := hide y5; have K5a := hide (K4a.out.later y5); clear o6 y5))
        go_upto_region 15 with (first
          | (refine wpList_load_row rfl 24 (.tmp 3) rfl b1 rfl 24 C1 (0, 0) _ (K5a.out.usr _ M.out.2.1).1 Tryd.underlying24 rfl i0.out.2 ?_)
          | (go_at_call 13; refine (K1.out.ref _ K5a.out.below).mono ?_; rintro e x6 ⟨a7, c7, rfl, o7, y6⟩; have O7 := hide o7; have Y6 := hide y6; have K6a := hide (K5a.out.later y6); clear o7 y6))
        have O6b : Hid (OwnX x6 wr.heap.size (.slice a6 (outB s).length c6) (outB s)) := (O6.out.below Y6.out).mono (by have := Y1.out.size; have := Y2.out.size; have := Y3.out.size; have := Y4.out.size; omega)
        have YW : Hid (Below wr.heap.size wr x6) := (((((Y1.out.trans (Y2.out.mono Y1.out.size)).trans (Y3.out.mono (by have := Y1.out.size; have := Y2.out.size; omega))).trans (Y4.out.mono (by have := Y1.out.size; have := Y2.out.size; have := Y3.out.size; omega))).trans (Y5.out.mono (by have := Y1.out.size; have := Y2.out.size; have := Y3.out.size; have := Y4.out.size; omega))).trans (Y6.out.mono (by have := Y1.out.size; have := Y2.out.size; have := Y3.out.size; have := Y4.out.size; have := Y5.out.size; omega)))
        clear O3 O5 K1a K2a K3a K4a K5a Y1 Y2 Y3 Y4 Y5 Y6
        have rc4 := cell_of (K6a.out.usr _ M.out.1).1 HC.out.2.2
        have hltc := cell_lt rc4
        have IS1 : Hid (IsBytes x6 a6 c6 (outB s) ∧ IsBytes x6 a7 c7 (outB s)) := ⟨O6b.out.is.1, O7.out.is.1⟩
        go_upto_region 17 with (first
          | (go_at_call 14; refine (same_yes _ _ _ _ (outB s) _ IS1.out.1 IS1.out.2).mono ?_; rintro e z1 ⟨rfl, m1, hz1⟩; have BZ1 : Hid (Below x6.heap.size x6 z1) := (by rw [hz1]; exact below_drewN (Below.refl _ _) m1); have KZ1 := hide (K6a.out.later BZ1.out); have rd4 := (BZ1.out.cell (p := ⟨b0, 4, none⟩) hltc).trans rc4; have hltd := cell_lt rd4; clear hz1)
          | (go_at_call 15; refine (CST.out _ (LB.out KZ1.out).2 (HT.out.2.1.below KZ1.out.below)).mono ?_; rintro e z2 ⟨rfl, m2, hz2⟩; have BZ2 : Hid (Below z1.heap.size z1 z2) := (by rw [hz2]; exact below_drewN (Below.refl _ _) m2); have KZ2 := hide (KZ1.out.later BZ2.out); clear hz2)
          | (go_at_call 16; refine KZ2.out.holds.mono ?_; rintro e z ⟨rfl, m3, hz3⟩; have BZ3 : Hid (Below z2.heap.size z2 z) := (by rw [hz3]; exact below_drewN (Below.refl _ _) m3); clear hz3))
        have BZ : Hid (Below x6.heap.size x6 z) := (BZ1.out.trans (BZ2.out.mono BZ1.out.size)).trans (BZ3.out.mono (by have := BZ1.out.size; have := BZ2.out.size; omega))
        have YZ : Hid (Below wr.heap.size wr z) := YW.out.trans (BZ.out.mono YW.out.size)
        have OZ : Hid (OwnX z wr.heap.size (.slice a6 (outB s).length c6) (outB s)) := O6b.out.below BZ.out
        clear BZ BZ1 BZ2 BZ3 KZ1 KZ2 rd4 hltd
        clear IS1 O6b O7 YW K6a rc4 hltc
        go_wp2_with (go_at_call 17; refine (K.out.keep YZ.out OZ.out (by have := HO.out.2; omega) (by omega)).mono ?_; rintro e z4 ⟨rfl, lab4, cw4, k4⟩; have K9 := hide k4; clear k4)
        go_roundw
        case rel => exact ⟨2, lab4, _, by omega, by go_num, by simp [hel], ents_le LE.out HO.out.2, K9⟩
        case measure => simp [intOf]
      · have hj1b : ((j : Int) == 1) = false := by rw [beq_eq_false_iff_ne]; omega
        clear hj1
        go_upto_region 9 with (first
          | (refine wpList_load_row rfl 24 (.tmp 6) rfl Ib rfl 24 CI (0, 0) _ (K.out.usr _ M.out.2.2).1 Tryd.underlying24 rfl i1.out ?_)
          | (go_at_call 11; refine ((KI.out _ K.out.below (LB.out K.out).1).1).mono ?_; rintro e x1 ⟨rfl, y1⟩; have Y1 := hide y1; have K1a := hide (K.out.later y1); clear y1))
        go_upto_region 10 with (first
          | (refine wpList_load_row rfl 24 (.tmp 6) rfl Ib rfl 24 CI (0, 0) _ (K1a.out.usr _ M.out.2.2).1 Tryd.underlying24 rfl i1.out ?_)
          | (go_at_call 12; refine ((KI.out _ K1a.out.below (LB.out K1a.out).1).2).mono ?_; rintro e x2 ⟨a3, c3, rfl, o3, y2⟩; have O3 := hide o3; have Y2 := hide y2; have K2a := hide (K1a.out.later y2); clear o3 y2))
        go_upto_region 11 with (first
          | (refine wpList_load_row rfl 24 (.tmp 2) rfl b0 rfl 24 C0 (0, 0) _ (K2a.out.usr _ M.out.1).1 Tryd.underlying24 rfl i0.out.1 ?_)
          | (go_at_call 13; refine (K0.out.ref _ K2a.out.below).mono ?_; rintro e x3 ⟨a5, c5, rfl, o5, y3⟩; have O5 := hide o5; have Y3 := hide y3; have K3a := hide (K2a.out.later y3); clear o5 y3))
        have O3b : Hid (OwnX x3 wr.heap.size (.slice a3 (outB r).length c3) (outB r)) := (O3.out.below Y3.out).mono Y1.out.size
        have YW : Hid (Below wr.heap.size wr x3) := (Y1.out.trans (Y2.out.mono Y1.out.size)).trans (Y3.out.mono (by have := Y1.out.size; have := Y2.out.size; omega))
        clear O3 K1a K2a Y1 Y2 Y3
        have rc4 := cell_of (K3a.out.usr _ M.out.1).1 HC.out.2.2
        have hltc := cell_lt rc4
        have IS1 : Hid (IsBytes x3 a3 c3 (outB r) ∧ IsBytes x3 a5 c5 (outB r)) := ⟨O3b.out.is.1, O5.out.is.1⟩
        go_upto_region 17 with (first
          | (go_at_call 14; refine (same_yes _ _ _ _ (outB r) _ IS1.out.1 IS1.out.2).mono ?_; rintro e z1 ⟨rfl, m1, hz1⟩; have BZ1 : Hid (Below x3.heap.size x3 z1) := (by rw [hz1]; exact below_drewN (Below.refl _ _) m1); have KZ1 := hide (K3a.out.later BZ1.out); have rd4 := (BZ1.out.cell (p := ⟨b0, 4, none⟩) hltc).trans rc4; have hltd := cell_lt rd4; clear hz1)
          | (go_at_call 15; refine (CST.out _ (LB.out KZ1.out).2 (HT.out.2.1.below KZ1.out.below)).mono ?_; rintro e z2 ⟨rfl, m2, hz2⟩; have BZ2 : Hid (Below z1.heap.size z1 z2) := (by rw [hz2]; exact below_drewN (Below.refl _ _) m2); have KZ2 := hide (KZ1.out.later BZ2.out); clear hz2)
          | (go_at_call 16; refine KZ2.out.holds.mono ?_; rintro e z ⟨rfl, m3, hz3⟩; have BZ3 : Hid (Below z2.heap.size z2 z) := (by rw [hz3]; exact below_drewN (Below.refl _ _) m3); clear hz3))
        have BZ : Hid (Below x3.heap.size x3 z) := (BZ1.out.trans (BZ2.out.mono BZ1.out.size)).trans (BZ3.out.mono (by have := BZ1.out.size; have := BZ2.out.size; omega))
        have YZ : Hid (Below wr.heap.size wr z) := YW.out.trans (BZ.out.mono YW.out.size)
        have OZ : Hid (OwnX z wr.heap.size (.slice a3 (outB r).length c3) (outB r)) := O3b.out.below BZ.out
        clear BZ BZ1 BZ2 BZ3 KZ1 KZ2 rd4 hltd
        clear IS1 O3b O5 YW K3a rc4 hltc
        go_wp2_with (go_at_call 17; refine (K.out.keep YZ.out OZ.out (by have := HO.out.1; omega) (by omega)).mono ?_; rintro e z4 ⟨rfl, lab4, cw4, k4⟩; have K9 := hide k4; clear k4)
        go_roundw
        case rel => exact ⟨j + 1, lab4, _, by omega, by go_num, by simp [hel], ents_le LE.out HO.out.1, K9⟩
        case measure => simp [intOf]; omega
    · have hes3 : es.length ≤ 3 := by omega
      clear hj hel hcc hcs K1
      have KS : Hid (Bk w us g cap (turned r.body 0 ++ marks 8) lab Hb es wr) := by
        rw [turned_zero, ← HI.out.2.2]
        exact K.out
      have TG : Hid (∀ q, q < n → ∃ x, r.body[q]? = some x) := fun q hq => ⟨_, List.getElem?_eq_getElem (by have := HT.out.2.2.1; omega)⟩
      clear K KI LB CST
      go_wp2_with fail
      go_loopw [14] (fun i wr => ∃ q : Nat, q ≤ n ∧ i = .int .i64 q ∧ Hid (Bk w us g cap (turned r.body q ++ marks 8) lab Hb es wr)) (fun i _ => n - (intOf i).toNat)
      case atStart => exact ⟨0, Nat.zero_le _, rfl, KS⟩
      case round =>
        obtain ⟨q, hq, rfl, K⟩ := hrel
        clear KS
        have ci4 := cell_of (K.out.usr _ M.out.2.2).1 HI.out.1
        have hlti := cell_lt ci4
        by_cases hlt : q < n
        · obtain ⟨x, hx⟩ := TG.out q hlt
          have hl2 := K.out.lent
          have hc : wr.cell? ⟨g, q, none⟩ = some (.int .u8 (x.toNat : Int)) := hl2.cell q x (turned_get r.body _ q x hx)
          have hf : wr.frozen? ⟨g, q, none⟩ = false := hl2.frozen q
          obtain ⟨y, hy⟩ : ∃ y, y = x ^^^ 33 := ⟨_, rfl⟩
          have e33 : bits .xor .u8 (x.toNat : Int) 33 = (y.toNat : Int) := by rw [hy]; exact xor33 x
          have hset := K.out.turn NG.out q y
          rw [hy, turned_set r.body _ q x hx, ← hy] at hset
          have HSET := hide hset
          have hltg := cell_lt hc
          clear hset hy hx hl2
          go_wp2_with fail
          refine wp_tail 10 mixed (by kernel_rfl) ?_
          simp only [List.take_succ_cons, List.take_zero, List.drop_succ_cons, List.drop_zero]
          still_step
          still_step
          still_step
          still_step
          still_step
          still_step
          still_step
          still_step
          still_step
          still_step
          refine wpStill_nil ?_
          go_wp2_with fail
          go_roundw
          case rel => exact ⟨q + 1, by omega, by go_num, hide (HSET.out.later (Below.refl _ _).drew)⟩
          case measure => simp [intOf]; omega
        · obtain rfl : q = n := by omega
          obtain ⟨m, hm⟩ : ∃ m, m = turned r.body q := ⟨_, rfl⟩
          have HM : Hid (m.length = q) := by show _ = _; rw [hm, turned_length, HT.out.2.2.1]
          obtain ⟨r', hr'⟩ : ∃ r' : Rp, r' = ⟨r.kind, r.id, r.num, r.tube, m⟩ := ⟨_, rfl⟩
          rw [← hm] at K
          have BM : Hid (∀ {W lab es}, Bk w us g cap (m ++ marks 8) lab Hb es W → IsBytes W (some ⟨g, 0, none⟩) cap m) := fun h => h.lent.is.1.head
          have PI : Hid (∀ W, Below w.heap.size w W → IsBytes W (some ⟨g, 0, none⟩) cap m → Calls Tryd.prog 12 #[.agg CI] W (PutX r' W)) := fun W hW hB => by
            rw [HI.out.2.1, hr', ← HM.out]
            exact (put_any W ⟨r.kind, r.id, r.num, r.tube, m⟩ _ _ hB (HT.out.1.below hW)).mono fun _ _ h => h.x
          have PR : Hid (∀ (W : World) (ac : Option Addr) (cc : Nat), IsBytes W ac cc m → Calls Tryd.prog 13 #[.agg #[.int .i64 r.kind, .int .i64 r.id, .int .i64 r.num, .string ⟨r.tube.toArray⟩, .slice ac q cc]] W (PutX r' W)) := fun W ac cc hB => by
            rw [hr', ← HM.out]
            exact (refPut_any W ⟨r.kind, r.id, r.num, r.tube, m⟩ ac cc hB).mono fun _ _ h => h.x
          have PC : Hid (∀ (W : World), IsBytes W (some ⟨g, 0, none⟩) cap m → Calls Tryd.prog 18 #[.slice (some ⟨g, 0, none⟩) q cap] W fun e w' => ∃ ac cc, e = .returned (.slice ac q cc) ∧ Own w' W.heap.size (.slice ac q cc) m ∧ Below W.heap.size W w') := fun W hB => by
            have h := copied_any (some ⟨g, 0, none⟩) cap m W hB (by rw [HM.out]; omega)
            rw [HM.out] at h
            refine h.mono ?_
            rintro e w' ⟨v, rfl, ho, hb, _⟩
            obtain ⟨ac, cc, hv, _⟩ := ho.shape
            rw [HM.out] at hv
            subst hv
            exact ⟨ac, cc, rfl, ho, hb⟩
          have HO' : Hid ((outB r').length ≤ 2000000) := by
            have := outB_le r'
            have h2 : r'.body.length = q := by rw [hr']; exact HM.out
            show _ ≤ _
            omega
          have hc0 : (checkE r' != checkE r') = false := by simp
          obtain ⟨w6, hw6⟩ : ∃ w6, w6 = wr.alloc (.cells #[.int .i64 r.kind, .int .i64 r.id, .int .i64 r.num, .string ⟨r.tube.toArray⟩, .slice a1 q c1] 24) := ⟨_, rfl⟩
          obtain ⟨xb, hxb⟩ : ∃ xb, xb = wr.heap.size := ⟨_, rfl⟩
          have B6 : Hid (Below wr.heap.size wr w6 ∧ w6.heap[xb]? = some (.cells #[.int .i64 r.kind, .int .i64 r.id, .int .i64 r.num, .string ⟨r.tube.toArray⟩, .slice a1 q c1] 24 (0, 0)) ∧ wr.heap.size ≤ xb) := by
            rw [hw6, hxb]
            exact ⟨(Below.refl _ wr).alloc (Nat.le_refl _) _, heap_alloc_new _ _, Nat.le_refl _⟩
          have HW6 := hide (And.intro hw6 hxb)
          clear hm hr' hw6 hxb hlt hq TG
          go_upto_region 23 with (refine wpList_load_row rfl 24 (.tmp 2) rfl b0 rfl 24 C0 (0, 0) _ (K.out.usr _ M.out.1).1 Tryd.underlying24 rfl i0.out.1 ?_; rw [HT.out.2.2.2]; unfold cellsR)
          rw [← HW6.out.1, ← HW6.out.2]
          clear HW6
          have K6 := hide (K.out.later B6.out.1)
          have cj4 := cell_of (K6.out.usr _ M.out.2.2).1 HI.out.1
          have hltj := cell_lt cj4
          clear ci4 hlti
          go_upto_region 24 with (go_at_call 18; refine (PC.out _ (BM.out K6.out)).mono ?_; rintro e wc ⟨ac, cc, rfl, oc, bc⟩; have OC := hide oc; have BC := hide bc; have GC : wc.heap[xb]? = some (.cells #[.int .i64 r.kind, .int .i64 r.id, .int .i64 r.num, .string ⟨r.tube.toArray⟩, .slice a1 q c1] 24 (0, 0)) := (bc.block xb (blk_lt B6.out.2.1)).trans B6.out.2.1; have cx4 : wc.cell? ⟨xb, 4, none⟩ = some (.slice a1 q c1) := cell_of GC rfl; have fx4 : wc.frozen? ⟨xb, 4, none⟩ = false := (by simp [World.frozen?, GC]); have hltx := cell_lt cx4; have HGC := hide GC; clear oc bc GC)
          have G7 := (set_cells HGC.out 4 (.slice ac q cc)).1
          have kk : Kept (fun k => k = xb) wc (wc.setCell ⟨xb, 4, none⟩ (.slice ac q cc)) := Kept.setCell _ _ _ _ _ rfl
          have G7b : (wc.setCell ⟨xb, 4, none⟩ (.slice ac q cc)).heap[xb]? = some (.cells #[.int .i64 r.kind, .int .i64 r.id, .int .i64 r.num, .string ⟨r.tube.toArray⟩, .slice ac q cc] 24 (0, 0)) := G7
          have hxc : ∀ g', ac = some ⟨g', 0, none⟩ → g' ≠ xb := fun g' e => by
            have h1 := (OC.out.lt g' (by rw [e]; rfl)).1
            have h2 := blk_lt B6.out.2.1
            omega
          have O7 : Hid (Own (wc.setCell ⟨xb, 4, none⟩ (.slice ac q cc)) w6.heap.size (.slice ac q cc) m) := kk.own OC.out (fun g' hg' e => by
            rcases OC.out.2 with ⟨h0, _⟩ | ⟨g2, cap2, cur2, h0, _⟩
            · rw [h0] at hg'; simp [Value.ownBlock] at hg'
            · simp only [Value.slice.injEq] at h0
              rw [h0.1] at hg'
              simp only [Value.ownBlock, Option.some.injEq] at hg'
              exact hxc g2 h0.1 (by rw [hg']; exact e))
          have B7 : Hid (Below wr.heap.size wr (wc.setCell ⟨xb, 4, none⟩ (.slice ac q cc))) := (B6.out.1.trans (BC.out.mono B6.out.1.size)).trans (kk.below (by have := B6.out.1.size; have := BC.out.size; omega) (fun k hk e => by have := B6.out.2.2; omega))
          have H7 := hide G7b
          generalize wc.setCell ⟨xb, 4, none⟩ (.slice ac q cc) = w7 at *
          have K7 := hide (K.out.later B7.out)
          have I7 : Hid (IsBytes w7 ac cc m) := by
            obtain ⟨a', c', hv, his⟩ := O7.out.shape
            simp only [Value.slice.injEq] at hv
            obtain ⟨rfl, _, rfl⟩ := hv
            exact his
          clear G7 G7b kk hxc O7 OC BC HGC cx4 fx4 hltx cj4 hltj B6 K6
          go_upto_region 25 with (first
            | (refine wpList_load_row rfl 24 (.tmp 6) rfl Ib rfl 24 CI (0, 0) _ (K7.out.usr _ M.out.2.2).1 Tryd.underlying24 rfl i1.out ?_)
            | (go_at_call 12; refine (PI.out _ K7.out.below (BM.out K7.out)).mono ?_; rintro e x8 ⟨a8, c8, rfl, o8, y8⟩; have O8 := hide o8; have Y8 := hide y8; have G8 := hide ((y8.block xb (blk_lt H7.out)).trans H7.out); have I8 := hide (I7.out.below y8); clear o8 y8))
          go_upto_region 26 with (first
            | (refine wpList_load_row rfl 24 (.tmp 15) rfl xb rfl 24 _ (0, 0) _ G8.out Tryd.underlying24 rfl (by kernel_rfl) ?_)
            | (go_at_call 13; refine (PR.out _ _ _ I8.out).mono ?_; rintro e x9 ⟨a9, c9, rfl, o9, y9⟩; have O9 := hide o9; have Y9 := hide y9; clear o9 y9))
          have IS1 : Hid (IsBytes x9 a8 c8 (outB r') ∧ IsBytes x9 a9 c9 (outB r')) := ⟨(O8.out.below Y9.out).is.1, O9.out.is.1⟩
          go_upto_region 28 with (go_at_call 14; refine (same_yes _ _ _ _ (outB r') _ IS1.out.1 IS1.out.2).mono ?_; rintro e z1 ⟨rfl, m1, hz1⟩; have BZ1 : Hid (Below x9.heap.size x9 z1) := (by rw [hz1]; exact below_drewN (Below.refl _ _) m1); clear hz1)
          have YZ : Hid (Below w7.heap.size w7 z1) := (Y8.out.trans (Y9.out.mono Y8.out.size)).trans (BZ1.out.mono (by have := Y8.out.size; have := Y9.out.size; omega))
          have OZ : Hid (OwnX z1 w7.heap.size (.slice a8 (outB r').length c8) (outB r')) := (O8.out.below Y9.out).below BZ1.out
          clear IS1 O8 O9 Y8 Y9 BZ1 G8 I8 H7 I7 B7
          go_upto_region 29 with (go_at_call 17; refine (K7.out.keep YZ.out OZ.out (by have := HO'.out; omega) (by omega)).mono ?_; rintro e z4 ⟨rfl, lab4, cw4, k4⟩; have K9 := hide k4; clear k4)
          go_wp2_with (go_at_call 19; refine (K9.out.spoil (by simp; omega) (ents_le LE.out HO'.out)).mono ?_; rintro e z5 ⟨rfl, b5⟩; have B5 := hide b5; clear b5)
          go_ret
          exact ⟨rfl, B5.out⟩
end Go.Proofs.YtienggblpmkjjaaDoor.answersWrite
