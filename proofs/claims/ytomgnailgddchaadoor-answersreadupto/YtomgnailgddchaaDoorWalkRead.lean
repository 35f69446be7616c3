/-
  The walk of AnswersRead. (Written by genread8.py.)
-/
import Derived.Test.YtomgnailgddchaaDoorRkB
import Derived.Test.YtomgnailgddchaaDoorJK
import Derived.Test.YtomgnailgddchaaDoorHand
namespace Go.Proofs.YtomgnailgddchaaDoor
open Go.RowKit Go.Sort
namespace answersRead

set_option maxHeartbeats 16000000 in
set_option maxRecDepth 1000000 in
theorem walk (a : Option Addr) (c : Nat) (zs : List ActI) (w : World) (hz : IsActs w a c zs) (hT : Tabs w ∧ 5 ≤ w.heap.size) (hm : tot zs ≤ 1048576) :
    Calls Tryd.prog 3 #[.slice a zs.length c] w fun e w' => e = .returned (.bool true) ∧ Below w.heap.size w w' := by
  have HZ := hide hz
  have HT := hide hT
  have hzc : zs.length ≤ c := hz.1
  have hcm : c ≤ 9223372036854775807 := by have := hz.2.1; unfold maxLen at this; omega
  have CB := hide (beyondScript_any a c zs w hz hm)
  have htb := tot_bulk zs
  clear hz hT
  go_enter Tryd.func3, Tryd.ntmps3
  go_wp2_with fail
  refine CB.out.mono ?_
  rintro e w9 ⟨rfl, hw9⟩
  subst hw9
  clear CB
  go_wp2_with fail
  refine (shown_any w9 HT.out.1 HT.out.2).mono ?_
  rintro e w1 ⟨rfl, b1⟩
  have B1 := hide b1
  have C1 := hide (new_rd w1 (Nat.le_trans HT.out.2 b1.size))
  clear b1
  go_wp2_with fail
  refine C1.out.mono ?_
  rintro e w2 ⟨rfl, r2, b2⟩
  have K2 := hide (And.intro r2 b2)
  clear r2 b2 C1
  go_wp2_with fail
  refine (refNew8_any w2).mono ?_
  rintro e w3 ⟨rfl, r3, b3⟩
  have PN := hide (Pq.new B1.out K2.out.1 K2.out.2 r3 b3)
  have B13 := hide (K2.out.2.trans (b3.mono K2.out.2.size))
  clear r3 b3 K2
  obtain ⟨bp, hbp⟩ : ∃ x, x = w1.heap.size := ⟨_, rfl⟩
  obtain ⟨dp, hdp⟩ : ∃ x, x = w2.heap.size := ⟨_, rfl⟩
  rw [← hbp, ← hdp] at PN
  rw [← hbp, ← hdp]
  have HBP := hide hbp
  clear hbp hdp
  go_upto_region 6 with fail
  obtain ⟨W4, hW4⟩ : ∃ W4, W4 = w3.alloc (.cells #[.pointer (some ⟨bp, 0, none⟩), .pointer (some ⟨dp, 0, none⟩)] 30) := ⟨_, rfl⟩
  obtain ⟨B3, hB3⟩ : ∃ B3, B3 = w3.heap.size := ⟨_, rfl⟩
  rw [← hW4, ← hB3]
  have B34 : Below w3.heap.size w3 W4 := by rw [hW4]; exact (Below.refl _ w3).alloc (Nat.le_refl _) _
  have q3 : PairB W4 B3 (pq0 bp dp) := by rw [hW4, hB3]; exact heap_alloc_new _ _
  have hz4 : W4.heap.size = B3 + 1 := by rw [hW4, hB3]; simp
  have B04 := hide (B1.out.trans ((B13.out.trans (B34.mono B13.out.size)).mono B1.out.size))
  have H4 := hide (And.intro q3 (And.intro hz4 (And.intro B34 hB3)))
  clear hW4 hB3 B34 q3 hz4
  have C1 := hide (new_rd W4 (Nat.le_trans HT.out.2 B04.out.size))
  go_wp2_with fail
  refine C1.out.mono ?_
  rintro e w5 ⟨rfl, r5, b5⟩
  have K5 := hide (And.intro r5 b5)
  clear r5 b5 C1
  go_wp2_with fail
  refine (refNew8_any w5).mono ?_
  rintro e w6 ⟨rfl, r6, b6⟩
  have QN := hide (Pq.new B04.out K5.out.1 K5.out.2 r6 b6)
  have B46 := hide (K5.out.2.trans (b6.mono K5.out.2.size))
  clear r6 b6 K5
  obtain ⟨bq, hbq⟩ : ∃ x, x = W4.heap.size := ⟨_, rfl⟩
  obtain ⟨dq, hdq⟩ : ∃ x, x = w5.heap.size := ⟨_, rfl⟩
  rw [← hbq, ← hdq] at QN
  rw [← hbq, ← hdq]
  have HBQ := hide hbq
  clear hbq hdq
  go_upto_region 7 with fail
  obtain ⟨W7, hW7⟩ : ∃ W7, W7 = w6.alloc (.cells #[.pointer (some ⟨bq, 0, none⟩), .pointer (some ⟨dq, 0, none⟩)] 30) := ⟨_, rfl⟩
  obtain ⟨B4, hB4⟩ : ∃ B4, B4 = w6.heap.size := ⟨_, rfl⟩
  rw [← hW7, ← hB4]
  have B67 : Below w6.heap.size w6 W7 := by rw [hW7]; exact (Below.refl _ w6).alloc (Nat.le_refl _) _
  have q4 : PairB W7 B4 (pq0 bq dq) := by rw [hW7, hB4]; exact heap_alloc_new _ _
  have hz7 : W7.heap.size = B4 + 1 := by rw [hW7, hB4]; simp
  have B47 := B46.out.trans (B67.mono B46.out.size)
  have q37 : PairB W7 B3 (pq0 bp dp) := H4.out.1.below B47
  obtain ⟨c3, _, hl3⟩ := q37.cell
  obtain ⟨c4, _, hl4⟩ := q4.cell
  obtain ⟨W8, hW8⟩ : ∃ W8, W8 = W7.alloc (.cells #[.slice none 0 0, .slice none 0 0] 33) := ⟨_, rfl⟩
  obtain ⟨Hb, hHb⟩ : ∃ Hb, Hb = W7.heap.size := ⟨_, rfl⟩
  have B78 : Below W7.heap.size W7 W8 := by rw [hW8]; exact (Below.refl _ W7).alloc (Nat.le_refl _) _
  have START : Hid (∃ lab, Bx2 w9 W8 lab Hb [] (pq0 bp dp) (pq0 bq dq) 1 2 B3 B4 0 0) := by
    have B48 := B47.trans (B78.mono B47.size)
    have h46 := B46.out.size
    have h04 := B04.out.size
    have hz4 := H4.out.2.1
    have h34 := H4.out.2.2.2
    have h1 := B1.out.size
    have h13 := B13.out.size
    have hbp := HBP.out
    have hbq := HBQ.out
    refine Bx2.start (B04.out.trans (B48.mono B04.out.size)) (PN.out.1.later (H4.out.2.2.1.trans (B48.mono H4.out.2.2.1.size))) (QN.out.1.later (B67.trans (B78.mono B67.size))) (fun j hj => ?_) (fun j hj => ?_) ⟨by omega, by omega, by omega⟩ (by rw [hW8, hHb]; exact heap_alloc_new _ _) (q37.below B78) (q4.below B78) ⟨rfl, rfl⟩
    · have := PN.out.1.lt hj
      omega
    · have h1 := QN.out.2 j hj
      have h2 := QN.out.1.lt hj
      omega
  have HW8 := hide (And.intro hW8 hHb)
  clear hW7 hB4 B67 q4 hz7 B47 q37 hW8 hHb B78 PN QN B13 B46 H4 B04 B1 HBP HBQ
  go_upto_region 10 with fail
  rw [← HW8.out.2, ← HW8.out.1]
  clear c3 c4 hl3 hl4 HW8
  go_wp2_with fail
  go_loopw [6] (fun q wr => ∃ (i : Nat), q = .int .i64 i ∧ i ≤ zs.length ∧ Hid (∃ lab es P Q, Bx2 w9 wr lab Hb es P Q 1 2 B3 B4 i (bulk (zs.take i)))) (fun q _ => zs.length - (intOf q).toNat)
  case atStart =>
    refine ⟨0, rfl, Nat.zero_le _, ?_⟩
    obtain ⟨lab, h⟩ := START.out
    exact ⟨lab, [], _, _, h⟩
  case round =>
    clear START
    obtain ⟨i, rfl, hi, HI⟩ := hrel
    obtain ⟨lab, es, P, Q, hB⟩ := HI.out
    have HBX0 := hide hB
    have hbk : bulk (zs.take i) ≤ bulk zs := bulk_le zs i
    clear HI hB
    by_cases hlt : i < zs.length
    · have t1 : (i : Int) < (zs.length : Int) := by omega
      obtain ⟨x, hx⟩ : ∃ x, zs[i]? = some x := ⟨_, List.getElem?_eq_getElem hlt⟩
      obtain ⟨-, -, hfit, hcell⟩ := HZ.out
      rcases hcell with rfl | ⟨bz, oz, rfl, hbz, hcell⟩
      · simp at hlt
      obtain ⟨x0, x1, a3, c3, x2, ib, _⟩ := hcell i x hx
      have hbt := bulk_take zs i x hx
      have hbk2 := bulk_le zs (i + 1)
      obtain ⟨xs, xk, b⟩ := x
      have hbw := HBX0.out.bs.bel
      have y0 : wr.cell? ⟨bz, oz + i * 3, none⟩ = some (.bool xs) := (hbw.cell (p := ⟨bz, oz + i * 3, none⟩) hbz).trans x0
      have y1 : wr.cell? ⟨bz, oz + i * 3 + 1, none⟩ = some (.int .i64 xk) := (hbw.cell (p := ⟨bz, oz + i * 3 + 1, none⟩) hbz).trans x1
      have y2 : wr.cell? ⟨bz, oz + i * 3 + 2, none⟩ = some (.slice a3 b.length c3) := (hbw.cell (p := ⟨bz, oz + i * 3 + 2, none⟩) hbz).trans x2
      have HIB := hide ib
      have hbt2 : bulk (zs.take (i + 1)) = bulk (zs.take i) + b.length := hbt
      have HBT := hide hbt2
      clear x0 x1 x2 ib hcell hfit hbw hbt hx
      go_upto_region 14 with fail
      obtain ⟨wo, hwo⟩ : ∃ wo, wo = wr.alloc (.cells #[.bool xs, .int .i64 xk, .slice a3 b.length c3] 36) := ⟨_, rfl⟩
      obtain ⟨B7, hB7⟩ : ∃ B7, B7 = wr.heap.size := ⟨_, rfl⟩
      rw [← hwo, ← hB7]
      have o7 : wo.heap[B7]? = some (.cells #[.bool xs, .int .i64 xk, .slice a3 b.length c3] 36 (0, 0)) := by rw [hwo, hB7]; exact heap_alloc_new _ _
      have bo : Below wr.heap.size wr wo := by rw [hwo]; exact (Below.refl _ wr).alloc (Nat.le_refl _) _
      have hso : wo.heap.size = B7 + 1 := by rw [hwo, hB7]; simp
      obtain ⟨m0, m1, l3⟩ := (HBX0.out.pX.below bo).cell
      obtain ⟨n0, n1, l4⟩ := (HBX0.out.pY.below bo).cell
      have HO := hide (And.intro o7 (And.intro bo (And.intro hso hB7)))
      clear o7 bo hso hB7 hwo y0 y1 y2
      go_upto_region 16 with fail
      obtain ⟨W2, hW2⟩ : ∃ W2, W2 = (wo.alloc (.cells #[.pointer (some ⟨P.rb, 0, none⟩), .pointer (some ⟨P.db, 0, none⟩)] 30)).alloc (.cells #[.pointer (some ⟨Q.rb, 0, none⟩), .pointer (some ⟨Q.db, 0, none⟩)] 30) := ⟨_, rfl⟩
      obtain ⟨B8, hB8⟩ : ∃ B8, B8 = wo.heap.size := ⟨_, rfl⟩
      rw [← hW2, ← hB8]
      obtain ⟨B9, hB9⟩ : ∃ B9, B9 = B8 + 1 := ⟨_, rfl⟩
      rw [← hB9]
      have p8 : PairB W2 B8 P := by
        rw [hW2, hB8]
        exact (heap_alloc_old _ _ (by simp)).trans (heap_alloc_new _ _)
      have p9 : PairB W2 B9 Q := by
        have := heap_alloc_new (wo.alloc (.cells #[.pointer (some ⟨P.rb, 0, none⟩), .pointer (some ⟨P.db, 0, none⟩)] 30)) (.cells #[.pointer (some ⟨Q.rb, 0, none⟩), .pointer (some ⟨Q.db, 0, none⟩)] 30)
        rw [World.size_alloc, ← hB8, ← hB9, ← hW2] at this
        exact this
      have b2 : Below wo.heap.size wo W2 := by rw [hW2]; exact ((Below.refl _ wo).alloc (Nat.le_refl _) _).alloc (by simp) _
      have o7 := (b2.block B7 (by have := HO.out.2.2.1; omega)).trans HO.out.1
      have bb := HO.out.2.1.trans (b2.mono HO.out.2.1.size)
      have h78 : B7 < B8 := by have := HO.out.2.2.1; omega
      have h89 : B8 < B9 := by omega
      have h7w : wr.heap.size ≤ B7 := by have := HO.out.2.2.2; omega
      have y0 : W2.cell? ⟨B7, 0, none⟩ = some (.bool xs) := cells_at o7 rfl
      have HW2 := hide (And.intro p8 (And.intro p9 (And.intro o7 (And.intro bb (And.intro h7w (And.intro h78 h89))))))
      clear hW2 hB8 hB9 b2 bb h7w h78 h89 HO m0 m1 n0 n1 l3 l4
      cases xs
      · obtain ⟨lab2, rd2⟩ := HBX0.out.begin HW2.out.2.2.2.1 HW2.out.2.2.1 HW2.out.1 HW2.out.2.1 HW2.out.2.2.2.2.1 HW2.out.2.2.2.2.2.1 HW2.out.2.2.2.2.2.2
        have y1 : W2.cell? ⟨B7, 1, none⟩ = some (.int .i64 xk) := cells_at rd2.o7 rfl
        have RD := hide rd2
        clear rd2 o7 p8 p9
        go_upto_region 21 with fail
        have hx8 := RD.out.few
        have hes : es.length ≤ 1048576 := by omega
        have p8 := RD.out.p8
        have HP8 := hide p8
        clear p8
        have y2 : W2.cell? ⟨B7, 2, none⟩ = some (.slice a3 b.length c3) := cells_at RD.out.o7 rfl
        by_cases h0 : xk = 0
        · subst h0
          have CT := hide (feeds_any w9 W2 lab2 Hb es P Q 1 2 RD.out.bs HT.out.1 a3 c3 b HIB.out (by have := HBT.out; omega))
          go_upto_region 31 with (first
            | (refine wpList_load_row rfl 30 (.tmp 8) rfl B8 rfl 30 (pairA P) (0, 0) _ HP8.out Tryd.underlying30 rfl (by kernel_rfl) ?_)
            | (go_at_call 8; refine CT.out.mono ?_; rintro e wz ⟨rfl, lab9, X9, bs9, mv9, q1, q2, q3⟩; have RD9 := hide (RD.out.step (k' := i + 1) (z' := bulk (zs.take (i + 1))) bs9 mv9 q1 q2 (by omega) (by rw [q3, List.length_append, HBT.out]; omega) (by rw [HBT.out]; omega)); have Q12 := hide (And.intro q1 q2); clear bs9 mv9 q1 q2 q3))
          clear CT
          have CH := hide RD9.out.bs.holds
          go_upto_region 33 with (go_at_call 13; refine CH.out.mono ?_; rintro e wq ⟨rfl, mq, hq⟩; have BQ : Hid (Below wz.heap.size wz wq) := (by show Below _ _ _; rw [hq]; exact below_qq _ _); clear hq)
          have RDQ := hide (RD9.out.later BQ.out)
          have z0 : wq.cell? ⟨B7, 0, none⟩ = some (.bool false) := cells_at RDQ.out.o7 rfl
          have BK := hide RDQ.out.back
          clear CH RD9 BQ
          go_wp2_with (first
            | (refine wpList_load_row rfl 30 (.tmp 8) rfl B8 rfl 30 (pairA X9) (0, 0) _ RDQ.out.p8 Tryd.underlying30 rfl (by kernel_rfl) ?_)
            | (refine wpList_store_row rfl 30 (.tmp 3) (.tmp 83) rfl B3 (pairA X9) rfl rfl 30 (pairA P) RDQ.out.pX (by kernel_rfl) rfl (by simp [pairA, Value.oneCell']) ?_))
          go_roundw
          case rel => exact ⟨i + 1, by go_num, by omega, lab9, es, _, _, BK.out⟩
          case measure => simp [intOf]; omega
        have t0 : (xk == 0) = false := by simpa using h0
        by_cases h1 : xk = 1
        · subst h1
          have CT := hide (nextR_any w9 W2 lab2 Hb es P Q 1 2 RD.out.bs HT.out.1 (by omega) (by omega))
          go_upto_region 31 with (first
            | (refine wpList_load_row rfl 30 (.tmp 8) rfl B8 rfl 30 (pairA P) (0, 0) _ HP8.out Tryd.underlying30 rfl (by kernel_rfl) ?_)
            | (go_at_call 9; refine CT.out.mono ?_; rintro e wz ⟨rfl, lab9, es9, X9, bs9, el9, mv9, q1, q2, q3, _⟩; have RD9 := hide (RD.out.step (k' := i + 1) (z' := bulk (zs.take (i + 1))) bs9 mv9 q1 q2 (by omega) (by rw [q3, HBT.out]; omega) (by rw [HBT.out]; omega)); clear bs9 mv9 el9 q1 q2 q3))
          clear CT
          have CH := hide RD9.out.bs.holds
          go_upto_region 33 with (go_at_call 13; refine CH.out.mono ?_; rintro e wq ⟨rfl, mq, hq⟩; have BQ : Hid (Below wz.heap.size wz wq) := (by show Below _ _ _; rw [hq]; exact below_qq _ _); clear hq)
          have RDQ := hide (RD9.out.later BQ.out)
          have z0 : wq.cell? ⟨B7, 0, none⟩ = some (.bool false) := cells_at RDQ.out.o7 rfl
          have BK := hide RDQ.out.back
          clear CH RD9 BQ
          go_wp2_with (first
            | (refine wpList_load_row rfl 30 (.tmp 8) rfl B8 rfl 30 (pairA X9) (0, 0) _ RDQ.out.p8 Tryd.underlying30 rfl (by kernel_rfl) ?_)
            | (refine wpList_store_row rfl 30 (.tmp 3) (.tmp 83) rfl B3 (pairA X9) rfl rfl 30 (pairA P) RDQ.out.pX (by kernel_rfl) rfl (by simp [pairA, Value.oneCell']) ?_))
          go_roundw
          case rel => exact ⟨i + 1, by go_num, by omega, lab9, es9, _, _, BK.out⟩
          case measure => simp [intOf]; omega
        have t1' : (xk == 1) = false := by simpa using h1
        by_cases h2 : xk = 2
        · subst h2
          go_upto_region 26 with fail
          have B0 : Below W2.heap.size W2 W2.drew := (Below.refl _ _).drew
          have sq : (fun X => PairB X B9 Q) W2.drew := RD.out.p9.below B0
          refine wp_region_held_drew (S := fun X => PairB X B9 Q) (by kernel_rfl) sq (fun _ => ?_)
          refine H_take (i := 0) (v := .pointer (some ⟨B9, 0, none⟩)) (some 60) rfl rfl (by kernel_rfl) (by kernel_rfl) (by kernel_rfl) (fun _ _ _ h => h) rfl (fun X hX => ?_) sq ?_
          · simp [go_sem]
          simp only [Act.put, List.setIfInBounds_toArray, List.set_cons_zero, List.set_cons_succ]
          refine H_take (i := 1) (v := .pointer (some ⟨Q.rb, 0, none⟩)) (some 61) rfl rfl (by kernel_rfl) (by kernel_rfl) (by kernel_rfl) (fun _ _ _ h => h) rfl (fun X hX => ?_) sq ?_
          · exact run_load1 rfl rfl Tryd.isAgg25 (PairB.cell hX).1
          simp only [Act.put, List.setIfInBounds_toArray, List.set_cons_zero, List.set_cons_succ]
          refine H_take (i := 3) (v := .pointer (some ⟨B9, 1, none⟩)) (some 63) rfl rfl (by kernel_rfl) (by kernel_rfl) (by kernel_rfl) (fun _ _ _ h => h) rfl (fun X hX => ?_) sq ?_
          · simp [go_sem]
          simp only [Act.put, List.setIfInBounds_toArray, List.set_cons_zero, List.set_cons_succ]
          refine H_take (i := 4) (v := .pointer (some ⟨Q.db, 0, none⟩)) (some 64) rfl rfl (by kernel_rfl) (by kernel_rfl) (by kernel_rfl) (fun _ _ _ h => h) rfl (fun X hX => ?_) sq ?_
          · exact run_load1 rfl rfl Tryd.isAgg27 (PairB.cell hX).2.1
          simp only [Act.put, List.setIfInBounds_toArray, List.set_cons_zero, List.set_cons_succ]
          refine H_call (i := 2) (f := 10) (args := #[.pointer (some ⟨Q.rb, 0, none⟩)]) (some 62) rfl rfl (by kernel_rfl) rfl (by simp [go_sem]) ((clone_rd W2.drew Q.rb Q.v Q.A Q.g (RD.out.bs.pQ.r.below B0) (by omega)).mono ?_)
          rintro e x1 ⟨rfl, bx1, v1, r1, n1⟩
          have sq1 : (fun X => PairB X B9 Q) x1 := PairB.below sq bx1
          refine ⟨_, rfl, sq1, ?_⟩
          simp only [Act.put, List.setIfInBounds_toArray, List.set_cons_zero, List.set_cons_succ]
          refine H_call (i := 5) (f := 11) (args := #[.pointer (some ⟨Q.db, 0, none⟩)]) (some 65) rfl rfl (by kernel_rfl) rfl (by simp [go_sem]) ((refClone8_any x1 Q.db Q.vl Q.vn Q.vb Q.P Q.d ((RD.out.bs.pQ.c.below B0).below bx1) (by have := RD.out.bs.pQ.sizes; omega) (by have := RD.out.bs.pQ.sizes; omega) (by have := RD.out.bs.pQ.sizes; omega) (fun p hp => by have := RD.out.bs.pQ.sizes.2.2.2 p hp; omega)).mono ?_)
          rintro e x2 ⟨xb, rfl, bx2, vl2, vn2, vb2, P2, c2, n2⟩
          have sq2 : (fun X => PairB X B9 Q) x2 := PairB.below sq1 bx2
          refine ⟨_, rfl, sq2, ?_⟩
          simp only [Act.put, List.setIfInBounds_toArray, List.set_cons_zero, List.set_cons_succ]
          refine H_take (i := 6) (v := .agg #[.pointer (some ⟨W2.drew.heap.size, 0, none⟩), .pointer (some ⟨xb, 0, none⟩)]) (some 66) rfl rfl (by kernel_rfl) (by kernel_rfl) (by kernel_rfl) (fun _ _ _ h => h) rfl (fun X hX => ?_) sq2 ?_
          · exact run_build1 rfl (by kernel_rfl)
          simp only [Act.put, List.setIfInBounds_toArray, List.set_cons_zero, List.set_cons_succ]
          have OKC := (RD.out.bs.pQ.later B0).cloned (Nat.le_trans RD.out.bs.bel.size B0.size) bx1 r1 n1 bx2 c2 n2
          have BX := B0.trans ((bx1.trans (bx2.mono bx1.size)).mono B0.size)
          obtain ⟨lab9, rd9⟩ := RD.out.cloned OKC.1 BX (fun j hj => by have := OKC.2 j hj; exact Nat.le_trans B0.size this) rfl
          have p8x : PairB x2 B8 P := RD.out.p8.below BX
          have sq3 : (fun X => PairB X B9 Q) (x2.setRow B8 #[.pointer (some ⟨W2.drew.heap.size, 0, none⟩), .pointer (some ⟨xb, 0, none⟩)]) := rd9.p9
          refine H_skip8 (i := 7) (w' := x2.setRow B8 #[.pointer (some ⟨W2.drew.heap.size, 0, none⟩), .pointer (some ⟨xb, 0, none⟩)]) rfl rfl (by kernel_rfl) rfl (run_storeRow8 rfl B8 #[.pointer (some ⟨W2.drew.heap.size, 0, none⟩), .pointer (some ⟨xb, 0, none⟩)] rfl rfl 30 _ p8x (by kernel_rfl) rfl (by simp [Value.oneCell'])) sq3 ?_
          refine wpAnyH_done (by kernel_rfl) ?_ _
          obtain ⟨X9, hX9⟩ : ∃ X9 : Pq, X9 = ⟨W2.drew.heap.size, v1, Q.A, Q.g, xb, vl2, vn2, vb2, P2, Q.d⟩ := ⟨_, rfl⟩
          rw [← hX9] at rd9
          have e9 : x2.setRow B8 #[.pointer (some ⟨W2.drew.heap.size, 0, none⟩), .pointer (some ⟨xb, 0, none⟩)] = x2.setRow B8 (pairA X9) := by rw [hX9]; rfl
          rw [e9]
          have RD9 := hide (rd9.weak (k' := i + 1) (z' := bulk (zs.take (i + 1))) (by omega) (by rw [HBT.out]; omega))
          clear sq sq1 sq2 sq3 p8x OKC BX rd9 e9 hX9 c2 n2 bx2 r1 n1 bx1 B0
          generalize x2.setRow B8 (pairA X9) = wz at RD9 ⊢
          obtain ⟨m0, m1, l3⟩ := RD9.out.p8.cell
          go_upto_region 31 with fail
          clear m0 m1 l3
          have CH := hide RD9.out.bs.holds
          go_upto_region 33 with (go_at_call 13; refine CH.out.mono ?_; rintro e wq ⟨rfl, mq, hq⟩; have BQ : Hid (Below wz.heap.size wz wq) := (by show Below _ _ _; rw [hq]; exact below_qq _ _); clear hq)
          have RDQ := hide (RD9.out.later BQ.out)
          have z0 : wq.cell? ⟨B7, 0, none⟩ = some (.bool false) := cells_at RDQ.out.o7 rfl
          have BK := hide RDQ.out.back
          clear CH RD9 BQ
          go_wp2_with (first
            | (refine wpList_load_row rfl 30 (.tmp 8) rfl B8 rfl 30 (pairA X9) (0, 0) _ RDQ.out.p8 Tryd.underlying30 rfl (by kernel_rfl) ?_)
            | (refine wpList_store_row rfl 30 (.tmp 3) (.tmp 83) rfl B3 (pairA X9) rfl rfl 30 (pairA P) RDQ.out.pX (by kernel_rfl) rfl (by simp [pairA, Value.oneCell']) ?_))
          go_roundw
          case rel => exact ⟨i + 1, by go_num, by omega, lab9, es, _, _, BK.out⟩
          case measure => simp [intOf]; omega
        have t2 : (xk == 2) = false := by simpa using h2
        by_cases h3 : xk = 3
        · subst h3
          have CT := hide (RD.out.bs.spoil (by omega))
          go_upto_region 30 with (go_at_call 12; refine CT.out.mono ?_; rintro e wy ⟨rfl, _, vo, vw, hb, hnx⟩; have HBH := hide hb; have HNX := hide hnx; clear hb hnx)
          have WZ : Hid (BS w9 (wy.setRow Hb #[.slice none 0 0, .slice none 0 0]) lab2 Hb [] P Q 1 2 ∧ Mv lab2 W2 lab2 (wy.setRow Hb #[.slice none 0 0, .slice none 0 0])) := HNX.out _ (setRow_heap _ _ _ _ _ _ HBH.out) (keptRow _ _ _)
          go_upto_region 31 with (refine wpList_store_row rfl 33 (.tmp 5) (.tmp 73) rfl Hb #[.slice none 0 0, .slice none 0 0] rfl rfl 33 #[vo, vw] HBH.out (by kernel_rfl) rfl (by simp [Value.oneCell']) ?_)
          generalize wy.setRow Hb #[.slice none 0 0, .slice none 0 0] = wz at WZ ⊢
          have RD9 := hide (RD.out.step (k' := i + 1) (z' := bulk (zs.take (i + 1))) WZ.out.1 WZ.out.2 rfl rfl (by simp) (by rw [HBT.out]; omega) (by rw [HBT.out]; omega))
          clear CT HNX HBH WZ
          have CH := hide RD9.out.bs.holds
          go_upto_region 33 with (go_at_call 13; refine CH.out.mono ?_; rintro e wq ⟨rfl, mq, hq⟩; have BQ : Hid (Below wz.heap.size wz wq) := (by show Below _ _ _; rw [hq]; exact below_qq _ _); clear hq)
          have RDQ := hide (RD9.out.later BQ.out)
          have z0 : wq.cell? ⟨B7, 0, none⟩ = some (.bool false) := cells_at RDQ.out.o7 rfl
          have BK := hide RDQ.out.back
          clear CH RD9 BQ
          go_wp2_with (first
            | (refine wpList_load_row rfl 30 (.tmp 8) rfl B8 rfl 30 (pairA P) (0, 0) _ RDQ.out.p8 Tryd.underlying30 rfl (by kernel_rfl) ?_)
            | (refine wpList_store_row rfl 30 (.tmp 3) (.tmp 83) rfl B3 (pairA P) rfl rfl 30 (pairA P) RDQ.out.pX (by kernel_rfl) rfl (by simp [pairA, Value.oneCell']) ?_))
          go_roundw
          case rel => exact ⟨i + 1, by go_num, by omega, lab2, [], _, _, BK.out⟩
          case measure => simp [intOf]; omega
        have t3 : (xk == 3) = false := by simpa using h3
        have RD9 := hide (RD.out.weak (k' := i + 1) (z' := bulk (zs.take (i + 1))) (by omega) (by rw [HBT.out]; omega))
        go_upto_region 31 with fail
        have CH := hide RD9.out.bs.holds
        go_upto_region 33 with (go_at_call 13; refine CH.out.mono ?_; rintro e wq ⟨rfl, mq, hq⟩; have BQ : Hid (Below W2.heap.size W2 wq) := (by show Below _ _ _; rw [hq]; exact below_qq _ _); clear hq)
        have RDQ := hide (RD9.out.later BQ.out)
        have z0 : wq.cell? ⟨B7, 0, none⟩ = some (.bool false) := cells_at RDQ.out.o7 rfl
        have BK := hide RDQ.out.back
        clear CH RD9 BQ
        go_wp2_with (first
          | (refine wpList_load_row rfl 30 (.tmp 8) rfl B8 rfl 30 (pairA P) (0, 0) _ RDQ.out.p8 Tryd.underlying30 rfl (by kernel_rfl) ?_)
          | (refine wpList_store_row rfl 30 (.tmp 3) (.tmp 83) rfl B3 (pairA P) rfl rfl 30 (pairA P) RDQ.out.pX (by kernel_rfl) rfl (by simp [pairA, Value.oneCell']) ?_))
        go_roundw
        case rel => exact ⟨i + 1, by go_num, by omega, lab2, es, _, _, BK.out⟩
        case measure => simp [intOf]; omega
      · obtain ⟨m0, m1, l3⟩ := (HBX0.out.pX.below HW2.out.2.2.2.1).cell
        obtain ⟨n0, n1, l4⟩ := (HBX0.out.pY.below HW2.out.2.2.2.1).cell
        have PX3 : Hid (PairB W2 B3 P) := HBX0.out.pX.below HW2.out.2.2.2.1
        have PY4 : Hid (PairB W2 B4 Q) := HBX0.out.pY.below HW2.out.2.2.2.1
        have n38 : B3 ≠ B8 := by have := HBX0.out.pX.cell.2.2; have := HW2.out.2.2.2.2.1; have := HW2.out.2.2.2.2.2.1; omega
        have q8 := pair_set (X := Q) HW2.out.1
        have PX3b : Hid (PairB (W2.setRow B8 (pairA Q)) B3 P) := PX3.out.kept q8.2 n38
        have p9b : Hid (PairB (W2.setRow B8 (pairA Q)) B9 Q) := HW2.out.2.1.kept q8.2 (fun e => by have := HW2.out.2.2.2.2.2.2; omega)
        have q9 := pair_set (X := P) p9b.out
        have Z8 : Hid (PairB ((W2.setRow B8 (pairA Q)).setRow B9 (pairA P)) B8 Q) := q8.1.kept q9.2 (fun e => by have := HW2.out.2.2.2.2.2.2; omega)
        have Z9 : Hid (PairB ((W2.setRow B8 (pairA Q)).setRow B9 (pairA P)) B9 P) := q9.1
        have ZK : Hid (Kept (fun j => j = B8 ∨ j = B9) W2 ((W2.setRow B8 (pairA Q)).setRow B9 (pairA P))) := (q8.2.mono (fun _ _ e => .inl e)).step q9.2 (fun _ _ e => .inr e)
        clear q8 q9 o7 p8 p9
        go_upto_region 19 with (first
          | (refine wpList_load_row rfl 30 (.tmp 4) rfl B4 rfl 30 (pairA Q) (0, 0) _ PY4.out Tryd.underlying30 rfl (by kernel_rfl) ?_)
          | (refine wpList_store_row rfl 30 (.tmp 8) (.tmp 44) rfl B8 (pairA Q) rfl rfl 30 (pairA P) HW2.out.1 (by kernel_rfl) rfl (by simp [pairA, Value.oneCell']) ?_)
          | (refine wpList_load_row rfl 30 (.tmp 3) rfl B3 rfl 30 (pairA P) (0, 0) _ PX3b.out Tryd.underlying30 rfl (by kernel_rfl) ?_)
          | (refine wpList_store_row rfl 30 (.tmp 9) (.tmp 45) rfl B9 (pairA P) rfl rfl 30 (pairA Q) p9b.out (by kernel_rfl) rfl (by simp [pairA, Value.oneCell']) ?_))
        generalize (W2.setRow B8 (pairA Q)).setRow B9 (pairA P) = W3 at Z8 Z9 ZK ⊢
        have bb : Below wr.heap.size wr W3 := HW2.out.2.2.2.1.trans (ZK.out.below HW2.out.2.2.2.1.size (fun k hk e => by have := HW2.out.2.2.2.2.1; have := HW2.out.2.2.2.2.2.1; have := HW2.out.2.2.2.2.2.2; omega))
        have o7 := (ZK.out.block B7 (Array.getElem?_eq_some_iff.1 HW2.out.2.2.1).1 (fun e => by have := HW2.out.2.2.2.2.2.1; have := HW2.out.2.2.2.2.2.2; omega)).trans HW2.out.2.2.1
        obtain ⟨lab2, rd2⟩ := HBX0.out.swap.begin bb o7 Z8.out Z9.out HW2.out.2.2.2.2.1 HW2.out.2.2.2.2.2.1 HW2.out.2.2.2.2.2.2
        have y1 : W3.cell? ⟨B7, 1, none⟩ = some (.int .i64 xk) := cells_at rd2.o7 rfl
        have RD := hide rd2
        have l7 := (Array.getElem?_eq_some_iff.1 o7).1
        clear rd2 o7 bb Z8 Z9 ZK p9b PX3b n38 PX3 PY4 m0 m1 l3 n0 n1 l4 y0
        go_upto_region 21 with fail
        have hx8 := RD.out.few
        have hes : es.length ≤ 1048576 := by omega
        have p8 := RD.out.p8
        have HP8 := hide p8
        clear p8
        have y2 : W3.cell? ⟨B7, 2, none⟩ = some (.slice a3 b.length c3) := cells_at RD.out.o7 rfl
        by_cases h0 : xk = 0
        · subst h0
          have CT := hide (feeds_any w9 W3 lab2 Hb es Q P 2 1 RD.out.bs HT.out.1 a3 c3 b HIB.out (by have := HBT.out; omega))
          go_upto_region 31 with (first
            | (refine wpList_load_row rfl 30 (.tmp 8) rfl B8 rfl 30 (pairA Q) (0, 0) _ HP8.out Tryd.underlying30 rfl (by kernel_rfl) ?_)
            | (go_at_call 8; refine CT.out.mono ?_; rintro e wz ⟨rfl, lab9, X9, bs9, mv9, q1, q2, q3⟩; have RD9 := hide (RD.out.step (k' := i + 1) (z' := bulk (zs.take (i + 1))) bs9 mv9 q1 q2 (by omega) (by rw [q3, List.length_append, HBT.out]; omega) (by rw [HBT.out]; omega)); have Q12 := hide (And.intro q1 q2); clear bs9 mv9 q1 q2 q3))
          clear CT
          have CH := hide RD9.out.bs.holds
          go_upto_region 33 with (go_at_call 13; refine CH.out.mono ?_; rintro e wq ⟨rfl, mq, hq⟩; have BQ : Hid (Below wz.heap.size wz wq) := (by show Below _ _ _; rw [hq]; exact below_qq _ _); clear hq)
          have RDQ := hide (RD9.out.later BQ.out)
          have z0 : wq.cell? ⟨B7, 0, none⟩ = some (.bool true) := cells_at RDQ.out.o7 rfl
          have BK := hide RDQ.out.back
          clear CH RD9 BQ
          go_wp2_with (first
            | (refine wpList_load_row rfl 30 (.tmp 8) rfl B8 rfl 30 (pairA X9) (0, 0) _ RDQ.out.p8 Tryd.underlying30 rfl (by kernel_rfl) ?_)
            | (refine wpList_store_row rfl 30 (.tmp 4) (.tmp 82) rfl B4 (pairA X9) rfl rfl 30 (pairA Q) RDQ.out.pX (by kernel_rfl) rfl (by simp [pairA, Value.oneCell']) ?_))
          go_roundw
          case rel => exact ⟨i + 1, by go_num, by omega, lab9, es, _, _, BK.out.swap⟩
          case measure => simp [intOf]; omega
        have t0 : (xk == 0) = false := by simpa using h0
        by_cases h1 : xk = 1
        · subst h1
          have CT := hide (nextR_any w9 W3 lab2 Hb es Q P 2 1 RD.out.bs HT.out.1 (by omega) (by omega))
          go_upto_region 31 with (first
            | (refine wpList_load_row rfl 30 (.tmp 8) rfl B8 rfl 30 (pairA Q) (0, 0) _ HP8.out Tryd.underlying30 rfl (by kernel_rfl) ?_)
            | (go_at_call 9; refine CT.out.mono ?_; rintro e wz ⟨rfl, lab9, es9, X9, bs9, el9, mv9, q1, q2, q3, _⟩; have RD9 := hide (RD.out.step (k' := i + 1) (z' := bulk (zs.take (i + 1))) bs9 mv9 q1 q2 (by omega) (by rw [q3, HBT.out]; omega) (by rw [HBT.out]; omega)); clear bs9 mv9 el9 q1 q2 q3))
          clear CT
          have CH := hide RD9.out.bs.holds
          go_upto_region 33 with (go_at_call 13; refine CH.out.mono ?_; rintro e wq ⟨rfl, mq, hq⟩; have BQ : Hid (Below wz.heap.size wz wq) := (by show Below _ _ _; rw [hq]; exact below_qq _ _); clear hq)
          have RDQ := hide (RD9.out.later BQ.out)
          have z0 : wq.cell? ⟨B7, 0, none⟩ = some (.bool true) := cells_at RDQ.out.o7 rfl
          have BK := hide RDQ.out.back
          clear CH RD9 BQ
          go_wp2_with (first
            | (refine wpList_load_row rfl 30 (.tmp 8) rfl B8 rfl 30 (pairA X9) (0, 0) _ RDQ.out.p8 Tryd.underlying30 rfl (by kernel_rfl) ?_)
            | (refine wpList_store_row rfl 30 (.tmp 4) (.tmp 82) rfl B4 (pairA X9) rfl rfl 30 (pairA Q) RDQ.out.pX (by kernel_rfl) rfl (by simp [pairA, Value.oneCell']) ?_))
          go_roundw
          case rel => exact ⟨i + 1, by go_num, by omega, lab9, es9, _, _, BK.out.swap⟩
          case measure => simp [intOf]; omega
        have t1' : (xk == 1) = false := by simpa using h1
        by_cases h2 : xk = 2
        · subst h2
          go_upto_region 26 with fail
          have B0 : Below W3.heap.size W3 W3.drew := (Below.refl _ _).drew
          have sq : (fun X => PairB X B9 P) W3.drew := RD.out.p9.below B0
          refine wp_region_held_drew (S := fun X => PairB X B9 P) (by kernel_rfl) sq (fun _ => ?_)
          refine H_take (i := 0) (v := .pointer (some ⟨B9, 0, none⟩)) (some 60) rfl rfl (by kernel_rfl) (by kernel_rfl) (by kernel_rfl) (fun _ _ _ h => h) rfl (fun X hX => ?_) sq ?_
          · simp [go_sem]
          simp only [Act.put, List.setIfInBounds_toArray, List.set_cons_zero, List.set_cons_succ]
          refine H_take (i := 1) (v := .pointer (some ⟨P.rb, 0, none⟩)) (some 61) rfl rfl (by kernel_rfl) (by kernel_rfl) (by kernel_rfl) (fun _ _ _ h => h) rfl (fun X hX => ?_) sq ?_
          · exact run_load1 rfl rfl Tryd.isAgg25 (PairB.cell hX).1
          simp only [Act.put, List.setIfInBounds_toArray, List.set_cons_zero, List.set_cons_succ]
          refine H_take (i := 3) (v := .pointer (some ⟨B9, 1, none⟩)) (some 63) rfl rfl (by kernel_rfl) (by kernel_rfl) (by kernel_rfl) (fun _ _ _ h => h) rfl (fun X hX => ?_) sq ?_
          · simp [go_sem]
          simp only [Act.put, List.setIfInBounds_toArray, List.set_cons_zero, List.set_cons_succ]
          refine H_take (i := 4) (v := .pointer (some ⟨P.db, 0, none⟩)) (some 64) rfl rfl (by kernel_rfl) (by kernel_rfl) (by kernel_rfl) (fun _ _ _ h => h) rfl (fun X hX => ?_) sq ?_
          · exact run_load1 rfl rfl Tryd.isAgg27 (PairB.cell hX).2.1
          simp only [Act.put, List.setIfInBounds_toArray, List.set_cons_zero, List.set_cons_succ]
          refine H_call (i := 2) (f := 10) (args := #[.pointer (some ⟨P.rb, 0, none⟩)]) (some 62) rfl rfl (by kernel_rfl) rfl (by simp [go_sem]) ((clone_rd W3.drew P.rb P.v P.A P.g (RD.out.bs.pQ.r.below B0) (by omega)).mono ?_)
          rintro e x1 ⟨rfl, bx1, v1, r1, n1⟩
          have sq1 : (fun X => PairB X B9 P) x1 := PairB.below sq bx1
          refine ⟨_, rfl, sq1, ?_⟩
          simp only [Act.put, List.setIfInBounds_toArray, List.set_cons_zero, List.set_cons_succ]
          refine H_call (i := 5) (f := 11) (args := #[.pointer (some ⟨P.db, 0, none⟩)]) (some 65) rfl rfl (by kernel_rfl) rfl (by simp [go_sem]) ((refClone8_any x1 P.db P.vl P.vn P.vb P.P P.d ((RD.out.bs.pQ.c.below B0).below bx1) (by have := RD.out.bs.pQ.sizes; omega) (by have := RD.out.bs.pQ.sizes; omega) (by have := RD.out.bs.pQ.sizes; omega) (fun p hp => by have := RD.out.bs.pQ.sizes.2.2.2 p hp; omega)).mono ?_)
          rintro e x2 ⟨xb, rfl, bx2, vl2, vn2, vb2, P2, c2, n2⟩
          have sq2 : (fun X => PairB X B9 P) x2 := PairB.below sq1 bx2
          refine ⟨_, rfl, sq2, ?_⟩
          simp only [Act.put, List.setIfInBounds_toArray, List.set_cons_zero, List.set_cons_succ]
          refine H_take (i := 6) (v := .agg #[.pointer (some ⟨W3.drew.heap.size, 0, none⟩), .pointer (some ⟨xb, 0, none⟩)]) (some 66) rfl rfl (by kernel_rfl) (by kernel_rfl) (by kernel_rfl) (fun _ _ _ h => h) rfl (fun X hX => ?_) sq2 ?_
          · exact run_build1 rfl (by kernel_rfl)
          simp only [Act.put, List.setIfInBounds_toArray, List.set_cons_zero, List.set_cons_succ]
          have OKC := (RD.out.bs.pQ.later B0).cloned (Nat.le_trans RD.out.bs.bel.size B0.size) bx1 r1 n1 bx2 c2 n2
          have BX := B0.trans ((bx1.trans (bx2.mono bx1.size)).mono B0.size)
          obtain ⟨lab9, rd9⟩ := RD.out.cloned OKC.1 BX (fun j hj => by have := OKC.2 j hj; exact Nat.le_trans B0.size this) rfl
          have p8x : PairB x2 B8 Q := RD.out.p8.below BX
          have sq3 : (fun X => PairB X B9 P) (x2.setRow B8 #[.pointer (some ⟨W3.drew.heap.size, 0, none⟩), .pointer (some ⟨xb, 0, none⟩)]) := rd9.p9
          refine H_skip8 (i := 7) (w' := x2.setRow B8 #[.pointer (some ⟨W3.drew.heap.size, 0, none⟩), .pointer (some ⟨xb, 0, none⟩)]) rfl rfl (by kernel_rfl) rfl (run_storeRow8 rfl B8 #[.pointer (some ⟨W3.drew.heap.size, 0, none⟩), .pointer (some ⟨xb, 0, none⟩)] rfl rfl 30 _ p8x (by kernel_rfl) rfl (by simp [Value.oneCell'])) sq3 ?_
          refine wpAnyH_done (by kernel_rfl) ?_ _
          obtain ⟨X9, hX9⟩ : ∃ X9 : Pq, X9 = ⟨W3.drew.heap.size, v1, P.A, P.g, xb, vl2, vn2, vb2, P2, P.d⟩ := ⟨_, rfl⟩
          rw [← hX9] at rd9
          have e9 : x2.setRow B8 #[.pointer (some ⟨W3.drew.heap.size, 0, none⟩), .pointer (some ⟨xb, 0, none⟩)] = x2.setRow B8 (pairA X9) := by rw [hX9]; rfl
          rw [e9]
          have RD9 := hide (rd9.weak (k' := i + 1) (z' := bulk (zs.take (i + 1))) (by omega) (by rw [HBT.out]; omega))
          clear sq sq1 sq2 sq3 p8x OKC BX rd9 e9 hX9 c2 n2 bx2 r1 n1 bx1 B0
          generalize x2.setRow B8 (pairA X9) = wz at RD9 ⊢
          obtain ⟨m0, m1, l3⟩ := RD9.out.p8.cell
          go_upto_region 31 with fail
          clear m0 m1 l3
          have CH := hide RD9.out.bs.holds
          go_upto_region 33 with (go_at_call 13; refine CH.out.mono ?_; rintro e wq ⟨rfl, mq, hq⟩; have BQ : Hid (Below wz.heap.size wz wq) := (by show Below _ _ _; rw [hq]; exact below_qq _ _); clear hq)
          have RDQ := hide (RD9.out.later BQ.out)
          have z0 : wq.cell? ⟨B7, 0, none⟩ = some (.bool true) := cells_at RDQ.out.o7 rfl
          have BK := hide RDQ.out.back
          clear CH RD9 BQ
          go_wp2_with (first
            | (refine wpList_load_row rfl 30 (.tmp 8) rfl B8 rfl 30 (pairA X9) (0, 0) _ RDQ.out.p8 Tryd.underlying30 rfl (by kernel_rfl) ?_)
            | (refine wpList_store_row rfl 30 (.tmp 4) (.tmp 82) rfl B4 (pairA X9) rfl rfl 30 (pairA Q) RDQ.out.pX (by kernel_rfl) rfl (by simp [pairA, Value.oneCell']) ?_))
          go_roundw
          case rel => exact ⟨i + 1, by go_num, by omega, lab9, es, _, _, BK.out.swap⟩
          case measure => simp [intOf]; omega
        have t2 : (xk == 2) = false := by simpa using h2
        by_cases h3 : xk = 3
        · subst h3
          have CT := hide (RD.out.bs.spoil (by omega))
          go_upto_region 30 with (go_at_call 12; refine CT.out.mono ?_; rintro e wy ⟨rfl, _, vo, vw, hb, hnx⟩; have HBH := hide hb; have HNX := hide hnx; clear hb hnx)
          have WZ : Hid (BS w9 (wy.setRow Hb #[.slice none 0 0, .slice none 0 0]) lab2 Hb [] Q P 2 1 ∧ Mv lab2 W3 lab2 (wy.setRow Hb #[.slice none 0 0, .slice none 0 0])) := HNX.out _ (setRow_heap _ _ _ _ _ _ HBH.out) (keptRow _ _ _)
          go_upto_region 31 with (refine wpList_store_row rfl 33 (.tmp 5) (.tmp 73) rfl Hb #[.slice none 0 0, .slice none 0 0] rfl rfl 33 #[vo, vw] HBH.out (by kernel_rfl) rfl (by simp [Value.oneCell']) ?_)
          generalize wy.setRow Hb #[.slice none 0 0, .slice none 0 0] = wz at WZ ⊢
          have RD9 := hide (RD.out.step (k' := i + 1) (z' := bulk (zs.take (i + 1))) WZ.out.1 WZ.out.2 rfl rfl (by simp) (by rw [HBT.out]; omega) (by rw [HBT.out]; omega))
          clear CT HNX HBH WZ
          have CH := hide RD9.out.bs.holds
          go_upto_region 33 with (go_at_call 13; refine CH.out.mono ?_; rintro e wq ⟨rfl, mq, hq⟩; have BQ : Hid (Below wz.heap.size wz wq) := (by show Below _ _ _; rw [hq]; exact below_qq _ _); clear hq)
          have RDQ := hide (RD9.out.later BQ.out)
          have z0 : wq.cell? ⟨B7, 0, none⟩ = some (.bool true) := cells_at RDQ.out.o7 rfl
          have BK := hide RDQ.out.back
          clear CH RD9 BQ
          go_wp2_with (first
            | (refine wpList_load_row rfl 30 (.tmp 8) rfl B8 rfl 30 (pairA Q) (0, 0) _ RDQ.out.p8 Tryd.underlying30 rfl (by kernel_rfl) ?_)
            | (refine wpList_store_row rfl 30 (.tmp 4) (.tmp 82) rfl B4 (pairA Q) rfl rfl 30 (pairA Q) RDQ.out.pX (by kernel_rfl) rfl (by simp [pairA, Value.oneCell']) ?_))
          go_roundw
          case rel => exact ⟨i + 1, by go_num, by omega, lab2, [], _, _, BK.out.swap⟩
          case measure => simp [intOf]; omega
        have t3 : (xk == 3) = false := by simpa using h3
        have RD9 := hide (RD.out.weak (k' := i + 1) (z' := bulk (zs.take (i + 1))) (by omega) (by rw [HBT.out]; omega))
        go_upto_region 31 with fail
        have CH := hide RD9.out.bs.holds
        go_upto_region 33 with (go_at_call 13; refine CH.out.mono ?_; rintro e wq ⟨rfl, mq, hq⟩; have BQ : Hid (Below W3.heap.size W3 wq) := (by show Below _ _ _; rw [hq]; exact below_qq _ _); clear hq)
        have RDQ := hide (RD9.out.later BQ.out)
        have z0 : wq.cell? ⟨B7, 0, none⟩ = some (.bool true) := cells_at RDQ.out.o7 rfl
        have BK := hide RDQ.out.back
        clear CH RD9 BQ
        go_wp2_with (first
          | (refine wpList_load_row rfl 30 (.tmp 8) rfl B8 rfl 30 (pairA Q) (0, 0) _ RDQ.out.p8 Tryd.underlying30 rfl (by kernel_rfl) ?_)
          | (refine wpList_store_row rfl 30 (.tmp 4) (.tmp 82) rfl B4 (pairA Q) rfl rfl 30 (pairA Q) RDQ.out.pX (by kernel_rfl) rfl (by simp [pairA, Value.oneCell']) ?_))
        go_roundw
        case rel => exact ⟨i + 1, by go_num, by omega, lab2, es, _, _, BK.out.swap⟩
        case measure => simp [intOf]; omega
    · have t1 : ¬ (i : Int) < (zs.length : Int) := by omega
      obtain ⟨m0, m1, l3⟩ := HBX0.out.pX.cell
      obtain ⟨n0, n1, l4⟩ := HBX0.out.pY.cell
      have hfw := HBX0.out.few
      have hbk3 : bulk (zs.take i) ≤ 1048576 := by omega
      have CT1 := hide (rest_any w9 wr lab Hb es P Q 1 2 HBX0.out.bs HT.out.1 (by omega) (by omega))
      clear l3 l4 n0 n1 m0 m1
      have PX := hide HBX0.out.pX
      go_upto_region 36 with fail
      go_wp2_with (first
        | (go_at_call 12
           refine CT3.out.mono ?_; rintro e wF ⟨rfl, bF, _⟩
           have FIN := hide bF
           clear bF)
        | (go_at_call 14
           refine CT2.out.mono ?_; rintro e wB ⟨rfl, lab2, es2, Q2, bs2, el2, mv2, _⟩
           have CT3 := hide (bs2.spoil (by omega))
           clear bs2 mv2 el2)
        | (go_at_call 14
           refine CT1.out.mono ?_; rintro e wA ⟨rfl, lab1, es1, P1, bs1, el1, mv1, _⟩
           have PY : Hid (PairB wA B4 Q) := mv1.pair HBX0.out.pY HBX0.out.lY.1
           have CT2 := hide (rest_any w9 wA lab1 Hb es1 Q P1 2 1 bs1.swap HT.out.1 (by omega) (by omega))
           clear bs1 mv1)
        | (refine wpList_load_row rfl 30 (.tmp 3) rfl B3 rfl 30 (pairA P) (0, 0) _ PX.out Tryd.underlying30 rfl (by kernel_rfl) ?_)
        | (refine wpList_load_wanted8 (by rfl) 30 (.tmp 4) rfl B4 rfl 30 (pairA Q) (0, 0) _ PY.out Tryd.underlying30 rfl (by kernel_rfl) ?_))
      go_ret
      exact ⟨rfl, FIN.out⟩
end answersRead
end Go.Proofs.YtomgnailgddchaaDoor
