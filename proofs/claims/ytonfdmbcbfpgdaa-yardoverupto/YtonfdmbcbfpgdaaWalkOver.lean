/-
  The walk of YardOver.
-/
import Derived.Test.YtonfdmbcbfpgdaaDuX
import Derived.Deep.CutBlock
namespace Go.Proofs.Ytonfdmbcbfpgdaa.yardOver
open Go.RowKit
theorem run_pre {a : Option Addr} {n c k : Nat} (w : World) (hk : k ≤ c) (ha : a = none ∨ ∃ g, a = some ⟨g, 0, none⟩) : (Instr.sliceAt 32 (.slice a n c) none (some (.int .i64 (k : Int))) none).run Try.prog w = .ok (.slice a k c) w := by
  have hs : (Go.sizeOf (Try.prog.elem 32)).run Try.prog w = .ok 1 w := by kernel_rfl
  have ht : Try.prog.underlying 32 = some (.slice (Try.prog.elem 32)) := by kernel_rfl
  rw [run_sliceAt_slice (h := ht), run_slice_h (ht := ht) (kh := .i64) (h := (k : Int)) (h0 := by omega) (h2 := by omega), hs]
  rcases ha with rfl | ⟨g, rfl⟩
  · simp [sliced, Result.andThen]
  · simp [sliced, Result.andThen, Addr.add]
theorem run_preO {o : Oper} {a : Act} {w : World} {x y : Operand} {b : Option Addr} {n c k : Nat} (ho : o.op = .slice 32 x none (some y) none) (hx : a.eval x = .slice b n c) (hy : a.eval y = .int .i64 (k : Int)) (hk : k ≤ c) (ha : b = none ∨ ∃ g, b = some ⟨g, 0, none⟩) : (execOp a.eval o).run Try.prog w = .ok (.value (.slice b k c)) w := by
  unfold execOp
  simp only [ho, hx, hy, Option.map_none, Option.map_some, Sem.run_bind, Sem.run_pure, run_pre w hk ha, Result.andThen_ok]
theorem Nums.form2 {W : World} {B : Nat} {v : Value} {l : List Int} (h : Nums W B v l) : ∃ a c, v = .slice a l.length c ∧ l.length ≤ c ∧ (a = none ∨ ∃ g, a = some ⟨g, 0, none⟩) := by
  rcases h.2 with ⟨rfl, h0⟩ | ⟨g, cap, cur, rfl, _, _, hc, _⟩
  · exact ⟨none, 0, by rw [h0], by omega, .inl rfl⟩
  · exact ⟨_, _, rfl, hc, .inr ⟨g, rfl⟩⟩
theorem jobsX_at : ∀ (P : List (En × Value)) (k : Nat) (p : En × Value), P[k]? = some p → ∀ (i : Nat) (u : Value), (p.1.j.cells p.2).toList[i]? = some u → (jobsX P)[k * 16 + i]? = some u := by
  intro P
  induction P with
  | nil => intro k p h; simp at h
  | cons x r ih =>
    intro k p h i u hu
    have hx : (x.1.j.cells x.2).toList.length = 16 := rfl
    show ((x.1.j.cells x.2).toList ++ jobsX r)[k * 16 + i]? = some u
    cases k with
    | zero =>
      obtain rfl : x = p := by simpa using h
      have hi := (List.getElem?_eq_some_iff.1 hu).1
      rw [List.getElem?_append_left (by omega), Nat.zero_mul, Nat.zero_add]
      exact hu
    | succ k =>
      rw [List.getElem?_append_right (by omega), hx, show (k + 1) * 16 + i - 16 = k * 16 + i by omega]
      exact ih k p (by simpa using h) i u hu
/-- Jobs that lie in a row, read. -/
theorem jobs_read {w : World} {B : Nat} {v : Value} {P : List (En × Value)} (h : w.ownsRow B 41 16 v P.length (jobsX P)) :
    ∃ a c, v = .slice a P.length c ∧ ∀ (k : Nat) (p : En × Value), P[k]? = some p → ∃ g, a = some ⟨g, 0, none⟩ ∧ g < w.heap.size ∧ w.rangeAt g (k * 16) (p.1.j.cells p.2).toList := by
  rcases h.2 with ⟨rfl, h0⟩ | ⟨g, cap, cur, rfl, hB, hgh, hnc, hcm, hcs, htake⟩
  · exact ⟨none, 0, by rw [h0], fun k p hp => by have := (List.getElem?_eq_some_iff.1 hp).1; omega⟩
  · refine ⟨_, _, rfl, fun k p hp => ⟨g, rfl, (Array.getElem?_eq_some_iff.1 hgh).1, fun i u hu => ?_⟩⟩
    have hx := jobsX_at P k p hp i u hu
    have hlt := (List.getElem?_eq_some_iff.1 hx).1
    rw [jobsX_len] at hlt
    rw [← htake, List.getElem?_take_of_lt (by omega)] at hx
    simpa [World.cell?, hgh] using hx
/-- What stands behind both calls of Over. -/
structure S4 (w w4 : World) (yb : Nat) (lab : Nat → HK) (Y : Yd) (N : Nat) (nw : Int) (aA aB : Option Addr) (A B : List Int) : Prop where
  yard : YAt w4 lab yb Y
  iv : Iv Y N
  n4 : N ≤ 50000000
  rA : Rd w4 aA A
  rB : Rd w4 aB B
  oA : Ovs Y.L 2 nw A
  oB : Ovs Y.L 3 nw B
  bel : Below w.heap.size w w4
/-- .. and what the second one told. -/
structure T4 (w4 : World) (nw : Int) (aC aD : Option Addr) (cC cD : Nat) (A B C D : List Int) : Prop where
  rC : Rd w4 aC A
  rD : Rd w4 aD B
  lC : A.length ≤ C.length ∧ A.length ≤ cC
  lD : B.length ≤ D.length ∧ B.length ≤ cD
  fC : aC = none ∨ ∃ g, aC = some ⟨g, 0, none⟩
  fD : aD = none ∨ ∃ g, aD = some ⟨g, 0, none⟩
theorem second4 {w w1 w2 w3 : World} {yb N : Nat} {lab : Nat → HK} {Y : Yd} {nw thn : Int} {va vb : Value} (b1 : Below w.heap.size w w1) (f : Fi w1 yb N lab Y w2) (hN : N ≤ 4000000) (ht : nw ≤ thn) (r1 : OverRes w2 lab yb Y N N nw va vb w3) :
    ∃ (aA aB : Option Addr) (cA cB : Nat) (A B : List Int), va = .slice aA A.length cA ∧ vb = .slice aB B.length cB ∧
      Calls Try.prog 10 #[ptrV yb, .int .i64 thn] w3 fun x w4 => ∃ (aC aD : Option Addr) (cC cD : Nat) (C D : List Int), x = .returned (.tuple #[.slice aC C.length cC, .slice aD D.length cD]) ∧
        ∃ lab4 Y4 N4, S4 w w4 yb lab4 Y4 N4 nw aA aB A B ∧ T4 w4 nw aC aD cC cD A B C D := by
  obtain ⟨A, B, lab3, Y3, n1, n2, o1, o2, u1, u2, a3, i3, s3, l3, k3, _⟩ := r1
  obtain ⟨aA, cA, rfl, _, _⟩ := Nums.form2 n1
  obtain ⟨aB, cB, rfl, _, _⟩ := Nums.form2 n2
  refine ⟨aA, aB, cA, cB, A, B, rfl, rfl, ?_⟩
  have hYl := f.iv.inv.few.nl
  have e3 := sk_len s3
  refine (Over_any thn w3 lab3 yb Y3 (N + N + N) N a3 i3 (by omega) (by omega)).mono ?_
  rintro x w4 ⟨vc, vd, rfl, C, D, lab4, Y4, m1, m2, p1, p2, _, _, a4, i4, s4, l4, k4, _⟩
  obtain ⟨aC, cC, rfl, hC, fC⟩ := Nums.form2 m1
  obtain ⟨aD, cD, rfl, hD, fD⟩ := Nums.form2 m2
  have sk := s4.trans s3
  have oA3 := ovs_sk s3.symm o1
  have oB3 := ovs_sk s3.symm o2
  have pA := ovs_prefix oA3 p1 ht
  have pB := ovs_prefix oB3 p2 ht
  have q1 := f.bel.size
  have q3 := k3.size
  have b13 : Below w1.heap.size w1 w3 := f.bel.trans (k3.below q1 (fun k hk h => by
    have h : (lab k).1 ≤ 7 := h
    rw [f.labs k hk] at h
    exact absurd h (by decide)))
  have b14 : Below w1.heap.size w1 w4 := b13.trans (k4.below (by omega) (fun k hk h => by
    have h : (lab3 k).1 ≤ 7 := h
    rw [l3 k (by omega), f.labs k hk] at h
    exact absurd h (by decide)))
  refine ⟨aC, aD, cC, cD, C, D, rfl, lab4, Y4, N + N + N + N + N, ⟨a4, i4, by omega, ?_, ?_, ovs_sk sk.symm o1, ovs_sk sk.symm o2, b1.trans (b14.mono b1.size)⟩, ⟨?_, ?_, ⟨pA.1, by omega⟩, ⟨pB.1, by omega⟩, fC, fD⟩⟩
  · exact Nums.rd (row_stay n1 (fun q hq => stay k4 (World.ownsRow.lt n1 q hq).2 (u1 q hq)))
  · exact Nums.rd (row_stay n2 (fun q hq => stay k4 (World.ownsRow.lt n2 q hq).2 (u2 q hq)))
  · have := (Nums.rd m1).take A.length
    rw [pA.2] at this
    exact this
  · have := (Nums.rd m2).take B.length
    rw [pB.2] at this
    exact this
/-- In the midst of the count. -/
structure Cn (w7 : World) (Y : Yd) (nw : Int) (c1 c2 c3 k : Nat) (wr : World) : Prop where
  bel : Below w7.heap.size w7 wr
  e1 : c1 = cnJ (Y.L.take k) (dueP 2 nw)
  e2 : c2 = cnJ (Y.L.take k) (dueP 3 nw)
  e3 : c3 = cnJ (Y.L.take k) (stP 3)
theorem Cn.step {w7 : World} {Y : Yd} {nw : Int} {c1 c2 c3 k : Nat} {wr wx : World} (h : Cn w7 Y nw c1 c2 c3 k wr) {e : En} (he : Y.L[k]? = some e) (p2 p3 s3 : Bool) (h2 : dueP 2 nw e.j = p2) (h3 : dueP 3 nw e.j = p3) (hs : stP 3 e.j = s3) (hb : Below wr.heap.size wr wx) :
    Hid (Cn w7 Y nw (if p2 = true then c1 + 1 else c1) (if p3 = true then c2 + 1 else c2) (if s3 = true then c3 + 1 else c3) (k + 1) wx) := by
  refine ⟨h.bel.trans (hb.mono h.bel.size), ?_, ?_, ?_⟩
  · rw [List.take_add_one, he, Option.toList_some, cnJ_snoc, h2, h.e1]
  · rw [List.take_add_one, he, Option.toList_some, cnJ_snoc, h3, h.e2]
  · rw [List.take_add_one, he, Option.toList_some, cnJ_snoc, hs, h.e3]
set_option maxHeartbeats 16000000 in
set_option maxRecDepth 1000000 in
theorem walk (a : Option Addr) (cap : Nat) (l : List Jn) (now more : Int) (w : World) (hI : IsJobs w a cap l) (hb : (l.map Jn.bulk).sum ≤ 1048576) : Calls Try.prog 4 #[.slice a l.length cap, .int .i64 now, .int .i64 more] w fun e w' => e = .returned (.bool true) ∧ Below w.heap.size w w' := by
  have CS : Hid (Calls Try.prog 5 #[] w fun e w' => e = .returned (.bool true) ∧ Below w.heap.size w w') := shown_any w
  have CF : Hid (∀ W, Below w.heap.size w W → Calls Try.prog 6 #[.slice a l.length cap] W fun e w' => ∃ yb lab Y, e = .returned (ptrV yb) ∧ Fi W yb (4 * l.length) lab Y w') := fun W hW => filledI_any a cap l W (hI.below hW) hb
  obtain ⟨N, hN⟩ : ∃ N, N = 4 * l.length := ⟨_, rfl⟩
  have HN : Hid (N ≤ 4000000) := (show N ≤ 4000000 by have := bulk_count l; omega)
  rw [← hN] at CF
  clear hb hI hN
  go_enter Try.func4, Try.ntmps4
  go_upto_region 6 with (first
    | (go_at_call 5; refine CS.out.mono ?_; rintro e w1 ⟨rfl, b1⟩; have B1 : Hid (Below w.heap.size w w1) := b1; clear b1)
    | (go_at_call 6; refine (CF.out _ B1.out).mono ?_; rintro e w2 ⟨yb, lab, Y, rfl, f2⟩; have F2 : Hid (Fi w1 yb N lab Y w2) := f2; clear f2))
  clear CS CF
  go_cut [35] from 30 to 34 (fun s wx => ∃ bb : Bool, s = .bool bb ∧ ((bb = true ∧ (2305843009213693952 < now ∨ now < -2305843009213693952)) ∨ (bb = false ∧ now ≤ 2305843009213693952 ∧ -2305843009213693952 ≤ now)) ∧ wx = w2)
  case first =>
    by_cases h1 : 2305843009213693952 < now
    · go_wp2_with fail
      go_meet
      exact ⟨true, rfl, .inl ⟨rfl, .inl h1⟩, rfl⟩
    · by_cases h2 : now < -2305843009213693952
      · go_wp2_with fail
        go_meet
        exact ⟨true, rfl, .inl ⟨rfl, .inr h2⟩, rfl⟩
      · go_wp2_with fail
        go_meet
        exact ⟨false, rfl, .inr ⟨rfl, by omega, by omega⟩, rfl⟩
  case rest =>
    obtain ⟨bb, rfl, hbb, hwx⟩ := hcut
    have hwy := hwx.symm
    clear hwx
    subst hwy
    go_upto_if 35 with fail
    go_cut [1] from 35 to 35 (fun s1 wx => ∃ nw : Int, s1 = .int .i64 nw ∧ -2305843009213693952 ≤ nw ∧ nw ≤ 2305843009213693952 ∧ wx = w2)
    case first =>
      cases bb with
      | true =>
        go_wp2_with fail
        go_meet
        exact ⟨0, rfl, by omega, by omega, rfl⟩
      | false =>
        have hb2 : now ≤ 2305843009213693952 ∧ -2305843009213693952 ≤ now := by simpa using hbb
        go_wp2_with fail
        go_meet
        exact ⟨now, rfl, hb2.2, hb2.1, rfl⟩
    case rest =>
      obtain ⟨nw, rfl, n1, n2, hwx⟩ := hcut
      have hwy := hwx.symm
      clear hwx
      subst hwy
      clear hbb
      go_upto_region 9 with (first
        | (go_at_call 9; refine (among_any more 1125899906842624 _ (by omega)).mono ?_; rintro e wq ⟨⟨r, rfl, r0, r1⟩, hw⟩; rw [hw]; clear hw wq))
      have CO1 : Hid (Calls Try.prog 10 #[ptrV yb, .int .i64 nw] w2 fun x w' => ∃ va vb, x = .returned (.tuple #[va, vb]) ∧ OverRes w2 lab yb Y N N nw va vb w') := Over_any nw w2 lab yb Y N N F2.out.yard F2.out.iv (by have := HN.out; omega) F2.out.iv.inv.few.nl
      go_upto_region 10 with (first
        | (go_at_call 10; refine CO1.out.mono ?_; rintro x w3 ⟨va, vb, rfl, R1⟩; have HR1 : Hid (OverRes w2 lab yb Y N N nw va vb w3) := R1; clear R1))
      obtain ⟨aA, aB, cA, cB, A, B, rfl, rfl, C2⟩ := second4 (thn := nw + r) B1.out F2.out HN.out (by omega) HR1.out
      have HC2 : Hid (Calls Try.prog 10 #[ptrV yb, .int .i64 (nw + r)] w3 fun x w4 => ∃ (aC aD : Option Addr) (cC cD : Nat) (C D : List Int), x = .returned (.tuple #[.slice aC C.length cC, .slice aD D.length cD]) ∧
        ∃ lab4 Y4 N4, S4 w w4 yb lab4 Y4 N4 nw aA aB A B ∧ T4 w4 nw aC aD cC cD A B C D) := C2
      clear C2 HR1 CO1
      go_upto_region 11 with (first
        | (go_at_call 10; refine HC2.out.mono ?_; rintro x w4 ⟨aC, aD, cC, cD, C, D, rfl, lab4, Y4, N4, s4, t4⟩; have HS4 : Hid (S4 w w4 yb lab4 Y4 N4 nw aA aB A B) := s4; have HT4 : Hid (T4 w4 nw aC aD cC cD A B C D) := t4; clear s4 t4))
      clear HC2
      obtain ⟨nA, hnA⟩ : ∃ n, n = A.length := ⟨_, rfl⟩
      obtain ⟨nB, hnB⟩ : ∃ n, n = B.length := ⟨_, rfl⟩
      obtain ⟨nC, hnC⟩ : ∃ n, n = C.length := ⟨_, rfl⟩
      obtain ⟨nD, hnD⟩ : ∃ n, n = D.length := ⟨_, rfl⟩
      have lA : nA = cnJ Y4.L (dueP 2 nw) := hnA.trans (ovs_len HS4.out.iv.inv.rise HS4.out.oA)
      have lB : nB = cnJ Y4.L (dueP 3 nw) := hnB.trans (ovs_len HS4.out.iv.inv.rise HS4.out.oB)
      have HLN : Hid (nA = cnJ Y4.L (dueP 2 nw) ∧ nB = cnJ Y4.L (dueP 3 nw) ∧ nA = A.length ∧ nB = B.length) := ⟨lA, lB, hnA, hnB⟩
      have bA : nA ≤ 50000000 := by have := cnJ_le Y4.L (dueP 2 nw); have := HS4.out.iv.inv.few.nl; have := HS4.out.n4; omega
      have bB : nB ≤ 50000000 := by have := cnJ_le Y4.L (dueP 3 nw); have := HS4.out.iv.inv.few.nl; have := HS4.out.n4; omega
      have q1 : ¬ (nC : Int) < (nA : Int) := by have := HT4.out.lC.1; omega
      have q2 : ¬ (nD : Int) < (nB : Int) := by have := HT4.out.lD.1; omega
      have HQ : Hid (nA ≤ cC ∧ nB ≤ cD) := ⟨by have := HT4.out.lC.2; omega, by have := HT4.out.lD.2; omega⟩
      have CI : Hid (∀ W, Below w4.heap.size w4 W → ∀ (p q : Option Addr) (cp cq n : Nat), ((p = aA ∧ q = aC ∧ n = nA) ∨ (p = aB ∧ q = aD ∧ n = nB)) → Calls Try.prog 11 #[.slice p n cp, .slice q n cq] W fun e w' => e = .returned (.bool true) ∧ Below W.heap.size W w') := fun W hW p q cp cq n hc => by
        rcases hc with ⟨rfl, rfl, rfl⟩ | ⟨rfl, rfl, rfl⟩
        · exact ints_any W _ _ _ _ _ A HLN.out.2.2.1.symm (by omega) (HS4.out.rA.below hW) (HT4.out.rC.below hW)
        · exact ints_any W _ _ _ _ _ B HLN.out.2.2.2.symm (by omega) (HS4.out.rB.below hW) (HT4.out.rD.below hW)
      rw [← hnA, ← hnB, ← hnC, ← hnD]
      clear hnA hnB hnC hnD lA lB
      go_upto_region 13 with (first
        | (refine wpList_wantedV rfl (run_preO (b := aC) (n := nC) (c := cC) (k := nA) rfl rfl rfl HQ.out.1 HT4.out.fC) ?_)
        | (refine wpList_wantedV rfl (run_preO (b := aD) (n := nD) (c := cD) (k := nB) rfl rfl rfl HQ.out.2 HT4.out.fD) ?_)
        | (go_at_call 11; refine (CI.out _ B5.out aB aD cB cD nB (.inr ⟨rfl, rfl, rfl⟩)).mono ?_; rintro e w6 ⟨rfl, b6⟩; have B6 : Hid (Below w4.heap.size w4 w6) := B5.out.trans (b6.mono B5.out.size); clear b6)
        | (go_at_call 11; refine (CI.out _ (Below.refl _ w4) aA aC cA cC nA (.inl ⟨rfl, rfl, rfl⟩)).mono ?_; rintro e w5 ⟨rfl, b5⟩; have B5 : Hid (Below w4.heap.size w4 w5) := b5; clear b5))
      go_upto_region 14 with fail
      have CJ : Hid (Calls Try.prog 12 #[ptrV yb] w6 fun x w' => ∃ aj cj P, x = .returned (.slice aj (P : List (En × Value)).length cj) ∧ (∀ (k : Nat) (p : En × Value), P[k]? = some p → ∃ g, aj = some ⟨g, 0, none⟩ ∧ g < w'.heap.size ∧ w'.rangeAt g (k * 16) (p.1.j.cells p.2).toList) ∧ P.map (·.1) = Y4.L ∧ (∀ p ∈ P, ∃ a n c, p.2 = Value.slice a n c) ∧ Below w6.heap.size w6 w') := by
        have iv := HS4.out.iv.inv
        have := iv.few.nl
        have := HS4.out.n4
        refine (jobs_any w6 lab4 yb Y4 (HS4.out.yard.below B6.out (fun _ _ => rfl)) iv.rise (fun e he => ?_) (by omega)).mono ?_
        · obtain ⟨o1, o2, o3, o4, o5⟩ := iv.ok e he
          refine ⟨o1.1, ?_⟩
          unfold fitB at o5
          simp only [Bool.and_eq_true, decide_eq_true_eq] at o5
          omega
        · rintro x w' ⟨v, rfl, P, ho, hP, hbl, hsh⟩
          obtain ⟨aj, cj, rfl, hr⟩ := jobs_read ho
          exact ⟨aj, cj, P, rfl, hr, hP, hsh, hbl⟩
      go_wp2_with (first
        | (go_at_call 12; refine CJ.out.mono ?_; rintro e w7 ⟨aj, cj, P, rfl, j1, j2, j3, j4⟩; have H7 : Hid ((∀ (k : Nat) (p : En × Value), P[k]? = some p → ∃ g, aj = some ⟨g, 0, none⟩ ∧ g < w7.heap.size ∧ w7.rangeAt g (k * 16) (p.1.j.cells p.2).toList) ∧ P.map (·.1) = Y4.L ∧ (∀ p ∈ P, ∃ a n c, p.2 = Value.slice a n c) ∧ Below w6.heap.size w6 w7) := ⟨j1, j2, j3, j4⟩; clear j1 j2 j3 j4))
      obtain ⟨n, hn⟩ : ∃ n, n = P.length := ⟨_, rfl⟩
      have hLn : n = Y4.L.length := by rw [hn, ← H7.out.2.1, List.length_map]
      have hnl : n ≤ 50000000 := by have := HS4.out.iv.inv.few.nl; have := HS4.out.n4; omega
      have HLn : Hid (n = Y4.L.length ∧ n = P.length) := ⟨hLn, hn⟩
      rw [← hn]
      have CN0 : Hid (Cn w7 Y4 nw 0 0 0 0 w7) := ⟨Below.refl _ _, rfl, rfl, rfl⟩
      clear hn hLn CJ CI q1 q2
      go_loopw [13, 14, 15, 85] (fun x y z i wr => ∃ c1 c2 c3 k : Nat, x = .int .i64 c1 ∧ y = .int .i64 c2 ∧ z = .int .i64 c3 ∧ i = .int .i64 k ∧ k ≤ n ∧ c1 ≤ k ∧ c2 ≤ k ∧ c3 ≤ k ∧ Hid (Cn w7 Y4 nw c1 c2 c3 k wr)) (fun _ _ _ i _ => n - (intOf i).toNat)
      case atStart => exact ⟨0, 0, 0, 0, rfl, rfl, rfl, rfl, Nat.zero_le _, Nat.le_refl _, Nat.le_refl _, Nat.le_refl _, CN0⟩
      case round =>
        obtain ⟨c1, c2, c3, k, rfl, rfl, rfl, rfl, hk, hc1, hc2, hc3, HCN⟩ := hrel
        clear CN0
        by_cases hlt : k < n
        · as_aux_lemma =>
            have hltI : (k : Int) < (n : Int) := by omega
            have hk0 : (0 : Int) ≤ (k : Int) := by omega
            obtain ⟨p, hp⟩ : ∃ p, P[k]? = some p := ⟨_, List.getElem?_eq_getElem (by rw [← HLn.out.2]; exact hlt)⟩
            obtain ⟨gj, rfl, hgl, hrg0⟩ := H7.out.1 k p hp
            obtain ⟨ba, bn, bc, hbs⟩ := H7.out.2.2.1 p (List.mem_of_getElem? hp)
            obtain ⟨e, bv⟩ := p
            have hE : Y4.L[k]? = some e := by rw [← H7.out.2.1, List.getElem?_map, hp]; rfl
            have HE : Hid (Y4.L[k]? = some e) := hE
            have RG : Hid (wr.rangeAt gj (k * 16) (e.j.cells bv).toList) := fun i u hu => (HCN.out.bel.cell (p := ⟨gj, k * 16 + i, none⟩) hgl).trans (hrg0 i u hu)
            have H1c : Hid ((e.j.cells bv).all (·.oneCell') = true) := by rw [show bv = _ from hbs]; exact job_one _ _ _ _
            obtain ⟨wx, hwx⟩ : ∃ wx, wx = wr.alloc (.cells (e.j.cells bv) 41) := ⟨_, rfl⟩
            obtain ⟨xb, hxb⟩ : ∃ xb, xb = wr.heap.size := ⟨_, rfl⟩
            have HWX : Hid (wr.alloc (.cells (e.j.cells bv) 41) = wx ∧ wr.heap.size = xb) := ⟨hwx.symm, hxb.symm⟩
            have HBX : Hid (Below wr.heap.size wr wx) := by rw [hwx]; exact (Below.refl _ wr).alloc (Nat.le_refl _) _
            have jx : JobBox wx xb e.j bv := by rw [hwx, hxb]; exact JobBox.new wr e.j bv
            have q5 := jx.at.2.1
            have q6 := jx.du
            have xl := jx.lt
            clear hp hrg0 hbs hE hwx hxb jx
            go_upto_region 17 with (first
              | (refine wpList_load_mid rfl 41 (.tmp 87) rfl gj (k * 16) rfl (e.j.cells bv).toList _ RG.out Try.underlying41 rfl (by rw [Array.length_toList]; exact job_size e.j bv) ?_; rw [Array.toArray_toList])
              | (refine wpList_made rfl (run_allocJ rfl) ?_)
              | (refine wpList_store_new rfl 41 (.tmp 17) (.tmp 88) rfl (e.j.cells bv) rfl rfl 41 _ (job_size e.j bv) rfl H1c.out ?_; rw [HWX.out.1, HWX.out.2]; simp only [Act.put]))
            clear HWX RG H1c
            by_cases h2 : e.j.st = 2
            · have b2 : (e.j.st == 2) = true := by simp [h2]
              have b3 : (e.j.st == 3) = false := by simp [h2]
              by_cases hd : e.j.du ≤ nw
              · have HP2 : Hid (dueP 2 nw e.j = true) := (show dueP 2 nw e.j = true by simp [dueP, h2, hd])
                have HP3 : Hid (dueP 3 nw e.j = false) := (show dueP 3 nw e.j = false by simp [dueP, h2])
                have HS3 : Hid (stP 3 e.j = false) := (show stP 3 e.j = false by simp [stP, h2])
                clear h2
                go_wp2_with fail
                exact ⟨⟨c1 + 1, c2, c3, k + 1, by go_num, rfl, rfl, by go_num, by omega, by omega, by omega, by omega, HCN.out.step HE.out true false false HP2.out HP3.out HS3.out HBX.out⟩, by simp [intOf]; omega⟩
              · have HP2 : Hid (dueP 2 nw e.j = false) := (show dueP 2 nw e.j = false by simp [dueP, hd])
                have HP3 : Hid (dueP 3 nw e.j = false) := (show dueP 3 nw e.j = false by simp [dueP, h2])
                have HS3 : Hid (stP 3 e.j = false) := (show stP 3 e.j = false by simp [stP, h2])
                clear h2
                go_wp2_with fail
                exact ⟨⟨c1, c2, c3, k + 1, rfl, rfl, rfl, by go_num, by omega, by omega, by omega, by omega, HCN.out.step HE.out false false false HP2.out HP3.out HS3.out HBX.out⟩, by simp [intOf]; omega⟩
            · have b2 : (e.j.st == 2) = false := by simp [h2]
              by_cases h3 : e.j.st = 3
              · have b3 : (e.j.st == 3) = true := by simp [h3]
                by_cases hd : e.j.du ≤ nw
                · have HP2 : Hid (dueP 2 nw e.j = false) := (show dueP 2 nw e.j = false by simp [dueP, h2])
                  have HP3 : Hid (dueP 3 nw e.j = true) := (show dueP 3 nw e.j = true by simp [dueP, h3, hd])
                  have HS3 : Hid (stP 3 e.j = true) := (show stP 3 e.j = true by simp [stP, h3])
                  clear h2 h3
                  go_wp2_with fail
                  exact ⟨⟨c1, c2 + 1, c3 + 1, k + 1, rfl, by go_num, by go_num, by go_num, by omega, by omega, by omega, by omega, HCN.out.step HE.out false true true HP2.out HP3.out HS3.out HBX.out⟩, by simp [intOf]; omega⟩
                · have HP2 : Hid (dueP 2 nw e.j = false) := (show dueP 2 nw e.j = false by simp [dueP, h2])
                  have HP3 : Hid (dueP 3 nw e.j = false) := (show dueP 3 nw e.j = false by simp [dueP, hd])
                  have HS3 : Hid (stP 3 e.j = true) := (show stP 3 e.j = true by simp [stP, h3])
                  clear h2 h3
                  go_wp2_with fail
                  exact ⟨⟨c1, c2, c3 + 1, k + 1, rfl, rfl, by go_num, by go_num, by omega, by omega, by omega, by omega, HCN.out.step HE.out false false true HP2.out HP3.out HS3.out HBX.out⟩, by simp [intOf]; omega⟩
              · have b3 : (e.j.st == 3) = false := by simp [h3]
                have HP2 : Hid (dueP 2 nw e.j = false) := (show dueP 2 nw e.j = false by simp [dueP, h2])
                have HP3 : Hid (dueP 3 nw e.j = false) := (show dueP 3 nw e.j = false by simp [dueP, h3])
                have HS3 : Hid (stP 3 e.j = false) := (show stP 3 e.j = false by simp [stP, h3])
                clear h2 h3
                go_wp2_with fail
                exact ⟨⟨c1, c2, c3, k + 1, rfl, rfl, rfl, by go_num, by omega, by omega, by omega, by omega, HCN.out.step HE.out false false false HP2.out HP3.out HS3.out HBX.out⟩, by simp [intOf]; omega⟩
        · have hltI : ¬ (k : Int) < (n : Int) := by omega
          obtain rfl : k = n := by omega
          have hcn := HCN.out
          rw [HLn.out.1] at hcn
          have e1 := hcn.e1
          have e2 := hcn.e2
          have e3 := hcn.e3
          rw [List.take_length] at e1 e2 e3
          obtain rfl : c1 = nA := e1.trans HLN.out.1.symm
          obtain rfl : c2 = nB := e2.trans HLN.out.2.1.symm
          have B8 : Hid (Below w4.heap.size w4 wr) := by
            have s6 := B6.out.size
            exact B6.out.trans ((H7.out.2.2.2.trans (HCN.out.bel.mono H7.out.2.2.2.size)).mono s6)
          have G0 : Hid (c3 = cnJ Y4.L (geP 0)) := e3.trans (ge_zero HS4.out.iv).symm
          have CD : Hid (∀ W, Below w4.heap.size w4 W → ∀ (p : Option Addr) (cp m : Nat) (st : Int), ((p = aA ∧ m = c1 ∧ st = 2) ∨ (p = aB ∧ m = c2 ∧ st = 3)) → Calls Try.prog 13 #[ptrV yb, .slice p m cp, .int .i64 st, .int .i64 nw] W fun e w' => e = .returned (.bool true) ∧ Below W.heap.size W w') := fun W hW p cp m st hc => by
            have hy : YAt W lab4 yb Y4 := HS4.out.yard.below hW (fun _ _ => rfl)
            rcases hc with ⟨rfl, rfl, rfl⟩ | ⟨rfl, rfl, rfl⟩
            · obtain ⟨E, e1, e2, e3⟩ := HS4.out.oA
              have hr := HS4.out.rA.below hW
              rw [e1] at hr
              exact due_any 2 nw W lab4 yb Y4 N4 hy HS4.out.iv _ _ _ E (by rw [HLN.out.2.2.1, e1, List.length_map]) (by omega) hr (fun j hj => (e2 j).1 hj) e3
            · obtain ⟨E, e1, e2, e3⟩ := HS4.out.oB
              have hr := HS4.out.rB.below hW
              rw [e1] at hr
              exact due_any 3 nw W lab4 yb Y4 N4 hy HS4.out.iv _ _ _ E (by rw [HLN.out.2.2.2, e1, List.length_map]) (by omega) hr (fun j hj => (e2 j).1 hj) e3
          clear hcn e1 e2 e3 HCN H7
          go_upto_region 26 with (first
            | (go_at_call 13; refine (CD.out _ B9.out aB cB c2 3 (.inr ⟨rfl, rfl, rfl⟩)).mono ?_; rintro e wb ⟨rfl, bb⟩; have B10 : Hid (Below w4.heap.size w4 wb) := B9.out.trans (bb.mono B9.out.size); clear bb)
            | (go_at_call 13; refine (CD.out _ B8.out aA cA c1 2 (.inl ⟨rfl, rfl, rfl⟩)).mono ?_; rintro e wa ⟨rfl, ba⟩; have B9 : Hid (Below w4.heap.size w4 wa) := B8.out.trans (ba.mono B8.out.size); clear ba))
          clear CD
          go_wp2_with fail
          go_loopw [15, 136] (fun z i wr => ∃ (h m : Nat), z = .int .i64 h ∧ i = .int .i64 m ∧ m ≤ 64 ∧ h ≤ 50000000 ∧ Hid (h = cnJ Y4.L (geP m) ∧ Below w4.heap.size w4 wr)) (fun _ i _ => 64 - (intOf i).toNat)
          case atStart => exact ⟨c3, 0, rfl, rfl, Nat.zero_le _, by omega, G0.out, B10.out⟩
          case round =>
            obtain ⟨h, m, rfl, rfl, hm, hh, HG⟩ := hrel
            by_cases hlt2 : m < 64
            · have hltM : (m : Int) < 64 := by omega
              have hm0 : (0 : Int) ≤ (m : Int) := by omega
              have CH : Hid (Calls Try.prog 14 #[ptrV yb, .int .i64 (m : Nat)] wr fun x w' => ∃ (aH : Option Addr) (cH nH : Nat) (E : List Jb), x = .returned (.slice aH nH cH) ∧ Rd w' aH (E.map (·.id)) ∧ E.length = nH ∧ nH = cnJ Y4.L (hoP m) ∧ (∀ j, j ∈ E ↔ (∃ e ∈ Y4.L, e.j = j) ∧ j.st = 3 ∧ j.ho = m) ∧ E.Pairwise LtJ ∧ Below wr.heap.size wr w') := by
                refine (held_any m (WalkArith.wf_i64 (by omega)) wr lab4 yb Y4 N4 (HS4.out.yard.below HG.out.2 (fun _ _ => rfl)) HS4.out.iv (by have := HS4.out.n4; omega)).mono ?_
                rintro x w' ⟨v, rfl, ids, n1, hd, b⟩
                have hl := hds_len HS4.out.iv.inv.rise hd
                obtain ⟨aH, cH, rfl, _, _⟩ := Nums.form2 n1
                obtain ⟨E, rfl, e2, e3⟩ := hd
                exact ⟨aH, cH, _, E, rfl, Nums.rd n1, (List.length_map _).symm, hl, e2, e3, b⟩
              go_upto_region 30 with (first
                | (go_at_call 14; refine CH.out.mono ?_; rintro x wh ⟨aH, cH, nH, E, rfl, rH, lH, kH, mH, pH, bH⟩; have HH : Hid (Rd wh aH (E.map (·.id)) ∧ E.length = nH ∧ nH = cnJ Y4.L (hoP m) ∧ (∀ j, j ∈ E ↔ (∃ e ∈ Y4.L, e.j = j) ∧ j.st = 3 ∧ j.ho = m) ∧ E.Pairwise LtJ ∧ Below w4.heap.size w4 wh) := ⟨rH, lH, kH, mH, pH, HG.out.2.trans (bH.mono HG.out.2.size)⟩; clear rH lH kH mH pH bH))
              have hnH : nH ≤ 50000000 := by have := cnJ_le Y4.L (hoP m); have := HH.out.2.2.1; have := HS4.out.iv.inv.few.nl; have := HS4.out.n4; omega
              have CE : Hid (Calls Try.prog 13 #[ptrV yb, .slice aH nH cH, .int .i64 3, .int .i64 9223372036854775807] wh fun e w' => e = .returned (.bool true) ∧ Below wh.heap.size wh w') :=
                due_any 3 9223372036854775807 wh lab4 yb Y4 N4 (HS4.out.yard.below HH.out.2.2.2.2.2 (fun _ _ => rfl)) HS4.out.iv aH cH nH E HH.out.2.1 (by omega) HH.out.1 (fun j hj => by
                  obtain ⟨h1, h2, h3⟩ := (HH.out.2.2.2.1 j).1 hj
                  obtain ⟨e, he, rfl⟩ := h1
                  exact ⟨⟨e, he, rfl⟩, h2, (I64.bounds (HS4.out.iv.inv.ok e he).1.2.2.2.2.2.2.1).2⟩) HH.out.2.2.2.2.1
              clear CH
              go_upto_region 32 with (first
                | (go_at_call 13; refine CE.out.mono ?_; rintro e wi ⟨rfl, bi⟩; have BI : Hid (Below w4.heap.size w4 wi ∧ Rd wi aH (E.map (·.id))) := ⟨HH.out.2.2.2.2.2.trans (bi.mono HH.out.2.2.2.2.2.size), HH.out.1.below bi⟩; clear bi))
              clear CE
              go_wp2_with fail
              go_loopw [148] (fun i wr => ∃ q : Nat, i = .int .i64 q ∧ q ≤ nH ∧ Hid (Below wi.heap.size wi wr)) (fun i _ => nH - (intOf i).toNat)
              case atStart => exact ⟨0, rfl, Nat.zero_le _, Below.refl _ _⟩
              case round =>
                obtain ⟨q, rfl, hq, HBq⟩ := hrel
                by_cases hlt3 : q < nH
                · as_aux_lemma =>
                    have hltQ : (q : Int) < (nH : Int) := by omega
                    have hq0 : (0 : Int) ≤ (q : Int) := by omega
                    obtain ⟨j, hj⟩ : ∃ j, E[q]? = some j := ⟨_, List.getElem?_eq_getElem (by rw [HH.out.2.1]; exact hlt3)⟩
                    obtain ⟨ga, rfl, ck0⟩ := BI.out.2 q j.id (by rw [List.getElem?_map, hj]; rfl)
                    have ck := (HBq.out.cell (p := ⟨ga, q, none⟩) (cell_lt ck0)).trans ck0
                    have gl := cell_lt ck
                    simp only [] at gl
                    obtain ⟨⟨e, he, hej⟩, hst, hho⟩ := (HH.out.2.2.2.1 j).1 (List.mem_of_getElem? hj)
                    have CG : Hid (Calls Try.prog 15 #[ptrV yb, .int .i64 j.id] wr fun x w' => ∃ v, x = .returned (.tuple #[.agg (j.cells v), .bool true]) ∧ (∃ a n c, v = Value.slice a n c) ∧ Below wr.heap.size wr w') := by
                      have hlk := lookE_at HS4.out.iv.inv.rise he
                      have hok := (HS4.out.iv.inv.ok e he).1.1
                      rw [hej] at hlk hok
                      have hD : lookD Y4.L j.id = e := by unfold lookD; rw [hlk]; rfl
                      have := get_any j.id wr lab4 yb Y4 (HS4.out.yard.below (BI.out.1.trans (HBq.out.mono BI.out.1.size)) (fun _ _ => rfl)) hok (by
                        have := lookD_len (fun e he => (HS4.out.iv.inv.ok e he).2.2.2.2) j.id
                        omega)
                      rw [hD, hlk, hej] at this
                      refine this.mono ?_
                      rintro x w' ⟨v, rfl, o, b⟩
                      obtain ⟨a3, c3, e3, _⟩ := o.shape
                      exact ⟨v, rfl, ⟨a3, _, c3, e3⟩, b⟩
                    clear he hej hj ck0 hst
                    go_upto_region 36 with (first
                      | (go_at_call 15; refine CG.out.mono ?_; rintro x wp ⟨v, rfl, ⟨va, vn, vc, hv⟩, b2⟩; have B2 : Hid (Below wr.heap.size wr wp) := b2; have H1v : Hid ((j.cells v).all (·.oneCell') = true) := (by rw [hv]; exact job_one _ _ _ _); clear b2 hv; obtain ⟨wq, hwq⟩ : ∃ wq, wq = wp.alloc (.cells (j.cells v) 41) := ⟨_, rfl⟩; obtain ⟨jb, hjb⟩ : ∃ jb, jb = wp.heap.size := ⟨_, rfl⟩; have HWQ : Hid (wp.alloc (.cells (j.cells v) 41) = wq ∧ wp.heap.size = jb) := ⟨hwq.symm, hjb.symm⟩; clear hwq hjb)
                      | (refine wpList_made rfl (run_allocJ rfl) ?_)
                      | (refine wpList_store_new rfl 41 (.tmp 22) (.tmp 156) rfl (j.cells v) rfl rfl 41 _ (job_size j v) rfl H1v.out ?_; rw [HWQ.out.1, HWQ.out.2]; simp only [Act.put]))
                    have jx : JobBox wq jb j v := by rw [← HWQ.out.1, ← HWQ.out.2]; exact JobBox.new wp j v
                    have q8 := jx.at.2.2.1
                    have xl := jx.lt
                    rw [hho] at q8
                    have BQ : Hid (Below wi.heap.size wi wq) := by
                      rw [← HWQ.out.1]
                      have b := B2.out.alloc B2.out.size (.cells (j.cells v) 41)
                      exact HBq.out.trans (b.mono HBq.out.size)
                    clear jx HWQ CG ck gl
                    go_wp2_with fail
                    exact ⟨⟨q + 1, by go_num, by omega, BQ⟩, by simp [intOf]; omega⟩
                · have hltQ : ¬ (q : Int) < (nH : Int) := by omega
                  have hstep := ge_step Y4.L (m : Int)
                  have hle : nH ≤ h := by have := HH.out.2.2.1; have := HG.out.1; omega
                  obtain ⟨h', hh'⟩ : ∃ h', h' = h - nH := ⟨_, rfl⟩
                  have hsub : (h : Int) - (nH : Int) = (h' : Int) := by omega
                  have HN2 : Hid (h' = cnJ Y4.L (geP ((m + 1 : Nat) : Int)) ∧ Below w4.heap.size w4 wr) := by
                    refine ⟨?_, BI.out.1.trans (HBq.out.mono BI.out.1.size)⟩
                    have h1 := HH.out.2.2.1
                    have h2 := HG.out.1
                    rw [show ((m + 1 : Nat) : Int) = (m : Int) + 1 by omega]
                    omega
                  have hh2 : h' ≤ 50000000 := by omega
                  clear hstep hle hh' HH BI HBq
                  go_wp2_with fail
                  exact ⟨⟨h', m + 1, by go_num, by go_num, by omega, hh2, HN2⟩, by simp [intOf]; omega⟩
            · have hltM : ¬ (m : Int) < 64 := by omega
              obtain rfl : m = 64 := by omega
              have hz : h = 0 := HG.out.1.trans (ge_last HS4.out.iv)
              subst hz
              have BE : Hid (Below w.heap.size w wr) := HS4.out.bel.trans (HG.out.2.mono HS4.out.bel.size)
              go_wp2_with fail
              go_ret
              exact ⟨rfl, BE.out⟩
end Go.Proofs.Ytonfdmbcbfpgdaa.yardOver
