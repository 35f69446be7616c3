/-
  The walk of YardSums.
-/
import Derived.Test.YtjkgclogndbplaaYSumJ
namespace Go.Proofs.Ytjkgclogndbplaa.yardSums
open Go.RowKit
/-- What stands when the loops begin. -/
structure At0 (w4 : World) (yb : Nat) (lab : Nat → HK) (Y : Yd) (P : List (En × Value)) (aj : Option Addr) (T : List (List UInt8)) (at' : Option Addr) (n m : Nat) : Prop where
  yard : YAt w4 lab yb Y
  inv : ∃ N, Inv Y N
  fst : P.map (·.1) = Y.L
  shp : ∀ p ∈ P, ∃ a n c, p.2 = Value.slice a n c
  jobs : ∀ (k : Nat) (p : En × Value), P[k]? = some p → ∃ g, aj = some ⟨g, 0, none⟩ ∧ g < w4.heap.size ∧ w4.rangeAt g (k * 16) (p.1.j.cells p.2).toList
  tubs : ∀ (k : Nat) (x : List UInt8), T[k]? = some x → ∃ g, at' = some ⟨g, 0, none⟩ ∧ g < w4.heap.size ∧ w4.cell? ⟨g, k, none⟩ = some (.string ⟨x.toArray⟩)
  rise : T.Pairwise (· < ·)
  short : ∀ x ∈ T, x.length ≤ maxLen
  mem : ∀ x, x ∈ T ↔ (Y.tb ⟨x.toArray⟩).isSome = true
  nP : n = P.length
  nT : m = T.length
  nL : n ≤ 100000000
  mL : m ≤ 100000000
/-- In the midst of the first loop. -/
structure L1 (w4 : World) (Y : Yd) (k : Nat) (last : Int) (wr : World) : Prop where
  bel : Below w4.heap.size w4 wr
  box : Sb wr w4.heap.size (smL (Y.L.take k))
  next : ∀ e, Y.L[k]? = some e → last < e.j.id
theorem L1.start {w4 : World} {yb : Nat} {lab : Nat → HK} {Y : Yd} {P : List (En × Value)} {aj : Option Addr} {T : List (List UInt8)} {at' : Option Addr} {n m : Nat} (h : At0 w4 yb lab Y P aj T at' n m) : L1 w4 Y 0 0 (w4.alloc (.cells #[.int .i64 0, .int .i64 0, .int .i64 0, .int .i64 0, .int .i64 0] 27)) := by
  obtain ⟨N, iv⟩ := h.inv
  exact ⟨(Below.refl _ w4).alloc (Nat.le_refl _) _, heap_alloc_new w4 _, fun e he => by have := (iv.ok e (List.mem_of_getElem? he)).2.1; omega⟩
theorem At0.look {w4 : World} {yb : Nat} {lab : Nat → HK} {Y : Yd} {P : List (En × Value)} {aj : Option Addr} {T : List (List UInt8)} {at' : Option Addr} {n m : Nat} (h : At0 w4 yb lab Y P aj T at' n m) {k : Nat} (hk : k < n) : ∃ (g : Nat) (e : En) (a : Option Addr) (x c : Nat), aj = some ⟨g, 0, none⟩ ∧ g < w4.heap.size ∧ Y.L[k]? = some e ∧ w4.rangeAt g (k * 16) (e.j.cells (.slice a x c)).toList := by
  obtain ⟨p, hp⟩ : ∃ p, P[k]? = some p := ⟨_, List.getElem?_eq_getElem (by rw [← h.nP]; exact hk)⟩
  obtain ⟨g, h1, h2, h3⟩ := h.jobs k p hp
  obtain ⟨a, x, c, hs⟩ := h.shp p (List.mem_of_getElem? hp)
  refine ⟨g, p.1, a, x, c, h1, h2, ?_, by rw [← hs]; exact h3⟩
  rw [← h.fst, List.getElem?_map, hp]
  rfl
theorem L1.step {w4 : World} {Y : Yd} {k : Nat} {last : Int} {wr w6 w7 : World} {e : En} {N : Nat} (h : L1 w4 Y k last wr) (iv : Inv Y N) (he : Y.L[k]? = some e) (b6 : Below wr.heap.size wr w6) (b7 : Below w6.heap.size w6 w7) : L1 w4 Y (k + 1) e.j.id (w7.setRow w4.heap.size ((smL (Y.L.take k)).add e.j.st e.j.pr 1).agg) := by
  have s1 := h.bel.size
  have s2 := b6.size
  refine ⟨below_setRow (h.bel.trans ((b6.mono s1).trans (b7.mono (by omega)))) (Nat.le_refl _) _, ?_, fun e' he' => ?_⟩
  · rw [List.take_add_one, he, Option.toList_some, smL_snoc]
    exact ((h.box.below b6).below b7).set _
  · obtain ⟨h1, rfl⟩ := List.getElem?_eq_some_iff.1 he
    obtain ⟨h2, rfl⟩ := List.getElem?_eq_some_iff.1 he'
    exact List.pairwise_iff_getElem.1 iv.rise k (k + 1) h1 h2 (by omega)
/-- In the midst of the second loop. -/
structure L2 (w4 : World) (Y : Yd) (T : List (List UInt8)) (sb : Nat) (q many : Nat) (wr : World) : Prop where
  bel : Below w4.heap.size w4 wr
  box : Sb wr sb (smL Y.L)
  many : many = cnS Y.L (T.take q)
theorem rise_at {T : List (List UInt8)} (h : T.Pairwise (· < ·)) {i k : Nat} {x y : List UInt8} (hx : T[i]? = some x) (hy : T[k]? = some y) (hk : i < k) : x < y := by
  obtain ⟨h1, rfl⟩ := List.getElem?_eq_some_iff.1 hx
  obtain ⟨h2, rfl⟩ := List.getElem?_eq_some_iff.1 hy
  exact List.pairwise_iff_getElem.1 h i k h1 h2 hk
/-- In the midst of the inner loop. -/
structure L3 (wr : World) (Y : Yd) (t : ByteArray) (j cnt : Nat) (wi : World) : Prop where
  bel : Below wr.heap.size wr wi
  box : Sb wi wr.heap.size (smT (Y.L.take j) t)
  cnt : cnt = cnT (Y.L.take j) t
theorem L3.step {wr : World} {Y : Yd} {t : ByteArray} {j cnt : Nat} {wi w6 w7 : World} {e : En} (h : L3 wr Y t j cnt wi) (he : Y.L[j]? = some e) (ht : e.j.nm = t) (b6 : Below wi.heap.size wi w6) (b7 : Below w6.heap.size w6 w7) : L3 wr Y t (j + 1) (cnt + 1) (w7.setRow wr.heap.size ((smT (Y.L.take j) t).add e.j.st e.j.pr 1).agg) := by
  have s1 := h.bel.size
  have s2 := b6.size
  refine ⟨below_setRow (h.bel.trans ((b6.mono s1).trans (b7.mono (by omega)))) (Nat.le_refl _) _, ?_, ?_⟩
  · rw [List.take_add_one, he, Option.toList_some, smT_snoc, if_pos ht]
    exact ((h.box.below b6).below b7).set _
  · rw [List.take_add_one, he, Option.toList_some, cnT_snoc, if_pos ht, h.cnt]
theorem L3.skip {wr : World} {Y : Yd} {t : ByteArray} {j cnt : Nat} {wi w6 : World} {e : En} (h : L3 wr Y t j cnt wi) (he : Y.L[j]? = some e) (ht : ¬ e.j.nm = t) (b6 : Below wi.heap.size wi w6) : L3 wr Y t (j + 1) cnt w6 := by
  refine ⟨h.bel.trans (b6.mono h.bel.size), ?_, ?_⟩
  · rw [List.take_add_one, he, Option.toList_some, smT_snoc, if_neg ht]
    exact h.box.below b6
  · rw [List.take_add_one, he, Option.toList_some, cnT_snoc, if_neg ht, h.cnt]
theorem L3.all {w4 : World} {yb : Nat} {lab : Nat → HK} {Y : Yd} {P : List (En × Value)} {aj : Option Addr} {T : List (List UInt8)} {at' : Option Addr} {n m : Nat} (h0 : At0 w4 yb lab Y P aj T at' n m) {wo wr : World} {x : List UInt8} {cnt q : Nat} (h : L3 wo Y ⟨x.toArray⟩ n cnt wr) (hx : T[q]? = some x) :
    Sb wr wo.heap.size (smT Y.L ⟨x.toArray⟩) ∧ cnt = cnT Y.L ⟨x.toArray⟩ ∧ 0 < cnt ∧ cnt ≤ n := by
  obtain ⟨N, iv⟩ := h0.inv
  have hn : n = Y.L.length := by rw [← h0.fst, List.length_map, h0.nP]
  have h1 := h.box
  have h2 := h.cnt
  rw [List.take_of_length_le (by omega)] at h1 h2
  have h3 := cnT_pos ((iv.tb _).1 ((h0.mem x).1 (List.mem_of_getElem? hx)))
  have h4 := cnT_le Y.L ⟨x.toArray⟩
  exact ⟨h1, h2, by omega, by omega⟩
theorem L2.next {w4 : World} {yb : Nat} {lab : Nat → HK} {Y : Yd} {P : List (En × Value)} {aj : Option Addr} {T : List (List UInt8)} {at' : Option Addr} {n m : Nat} (h0 : At0 w4 yb lab Y P aj T at' n m) {wo wr w9 : World} {x : List UInt8} {cnt many q : Nat} {sb : Nat} (h2 : L2 w4 Y T sb q many wo) (h : L3 wo Y ⟨x.toArray⟩ n cnt wr) (hx : T[q]? = some x) (hb : Below wr.heap.size wr w9) :
    L2 w4 Y T sb (q + 1) (many + cnt) w9 ∧ many + cnt ≤ 100000000 := by
  obtain ⟨a1, a2, _, _⟩ := h.all h0 hx
  have s1 := h2.bel.size
  have s2 := h.bel.size
  have hno : x ∉ T.take q := fun hm => by
    obtain ⟨i, hi⟩ := List.mem_iff_getElem?.1 hm
    have hlt : i < q := by
      have := (List.getElem?_eq_some_iff.1 hi).1
      rw [List.length_take] at this
      omega
    rw [List.getElem?_take_of_lt hlt] at hi
    have h5 := rise_at h0.rise hi hx hlt
    exact List.lt_irrefl x h5
  have e1 : many + cnt = cnS Y.L (T.take (q + 1)) := by
    rw [List.take_add_one, hx, Option.toList_some, cnS_snoc _ _ _ hno, h2.many, a2]
  refine ⟨⟨h2.bel.trans ((h.bel.mono s1).trans (hb.mono (by omega))), ?_, e1⟩, ?_⟩
  · exact ((h2.box.below h.bel).below hb)
  · have h6 := cnS_le Y.L (T.take (q + 1))
    have h7 : n = Y.L.length := by rw [← h0.fst, List.length_map, h0.nP]
    have := h0.nL
    omega
theorem L2.all {w4 : World} {yb : Nat} {lab : Nat → HK} {Y : Yd} {P : List (En × Value)} {aj : Option Addr} {T : List (List UInt8)} {at' : Option Addr} {n m : Nat} (h0 : At0 w4 yb lab Y P aj T at' n m) {wr : World} {sb many : Nat} (h2 : L2 w4 Y T sb m many wr) : many = n := by
  obtain ⟨N, iv⟩ := h0.inv
  have e := h2.many
  rw [List.take_of_length_le (by rw [← h0.nT]; omega), cnS_all (fun e he => (h0.mem _).2 ((iv.tb _).2 ⟨e, he, by simp⟩))] at e
  rw [e, ← h0.fst, List.length_map, h0.nP]
theorem range_below {w w' : World} {g o : Nat} {cs : List Value} (h : w.rangeAt g o cs) (hg : g < w.heap.size) (hb : Below w.heap.size w w') : w'.rangeAt g o cs := fun i u hu => (hb.cell (p := ⟨g, o + i, none⟩) hg).trans (h i u hu)
set_option maxHeartbeats 8000000 in
set_option maxRecDepth 1000000 in
theorem walk (a : Option Addr) (cap : Nat) (l : List Jn) (w : World) (hI : IsJobs w a cap l) (hb : (l.map Jn.bulk).sum ≤ 1048576) : Calls Try.prog 4 #[.slice a l.length cap] w fun e w' => e = .returned (.bool true) ∧ Below w.heap.size w w' := by
  have CS : Hid (Calls Try.prog 7 #[] w fun e w' => e = .returned (.bool true) ∧ Below w.heap.size w w') := shown_any w
  have CF : Hid (∀ W, Below w.heap.size w W → Calls Try.prog 8 #[.slice a l.length cap] W fun e w' => ∃ yb lab Y, e = .returned (ptrV yb) ∧ Fl W yb (4 * l.length) lab Y w') := fun W hW => filled_any a cap l W (hI.below hW) hb
  have HL : Hid (l.length ≤ 524288) := by have := bulk_count l; show l.length ≤ 524288; omega
  clear hb hI
  go_enter Try.func4, Try.ntmps4
  go_upto_region 6 with (first
    | (go_at_call 7; refine CS.out.mono ?_; rintro e w1 ⟨rfl, b1⟩; have B1 : Hid (Below w.heap.size w w1) := b1; clear b1)
    | (go_at_call 8; refine (CF.out _ B1.out).mono ?_; rintro e w2 ⟨yb, lab, Y, rfl, f2⟩; have F2 : Hid (Fl w1 yb (4 * l.length) lab Y w2) := f2; clear f2))
  have CJ : Hid (Calls Try.prog 11 #[ptrV yb] w2 fun x w' => ∃ aj cj P, x = .returned (.slice aj (P : List (En × Value)).length cj) ∧ (∀ (k : Nat) (p : En × Value), P[k]? = some p → ∃ g, aj = some ⟨g, 0, none⟩ ∧ g < w'.heap.size ∧ w'.rangeAt g (k * 16) (p.1.j.cells p.2).toList) ∧ P.map (·.1) = Y.L ∧ (∀ p ∈ P, ∃ a n c, p.2 = Value.slice a n c) ∧ Below w2.heap.size w2 w') := by
    have iv := F2.out.inv
    have := iv.few.nl
    have := HL.out
    refine (jobs_any w2 lab yb Y F2.out.yard iv.rise (fun e he => ?_) (by omega)).mono ?_
    · obtain ⟨o1, o2, o3, o4, o5⟩ := iv.ok e he
      refine ⟨o1.1, ?_⟩
      unfold fitB at o5
      simp only [Bool.and_eq_true, decide_eq_true_eq] at o5
      omega
    · rintro x w' ⟨v, rfl, P, ho, hP, hbl, hsh⟩
      obtain ⟨aj, cj, rfl, hr⟩ := jobs_read ho
      exact ⟨aj, cj, P, rfl, hr, hP, hsh, hbl⟩
  have CT : Hid (∀ W, Below w2.heap.size w2 W → Calls Try.prog 12 #[ptrV yb] W fun x w' => ∃ at' ct T, x = .returned (.slice at' (T : List (List UInt8)).length ct) ∧ (∀ (k : Nat) (x : List UInt8), T[k]? = some x → ∃ g, at' = some ⟨g, 0, none⟩ ∧ g < w'.heap.size ∧ w'.cell? ⟨g, k, none⟩ = some (.string ⟨x.toArray⟩)) ∧ T.Pairwise (· < ·) ∧ (∀ x ∈ T, x.length ≤ maxLen) ∧ (∀ x, x ∈ T ↔ (Y.tb ⟨x.toArray⟩).isSome = true) ∧ T.length = Y.nt ∧ Below W.heap.size W w') := fun W hW => by
    have := F2.out.inv.few.nt
    have := HL.out
    refine (tubes_any W lab yb Y (F2.out.yard.below hW (fun _ _ => rfl)) (by omega)).mono ?_
    rintro x w' ⟨v, rfl, T, ho, t1, t2, t3, t4, t5⟩
    obtain ⟨at', ct, rfl, hr⟩ := strs_read ho
    exact ⟨at', ct, T, rfl, hr, t1, t2, t3, t4, t5⟩
  go_upto_region 7 with (first
    | (go_at_call 11; refine CJ.out.mono ?_; rintro e w3 ⟨aj, cj, P, rfl, j1, j2, j3, j4⟩; have H3 : Hid ((∀ (k : Nat) (p : En × Value), P[k]? = some p → ∃ g, aj = some ⟨g, 0, none⟩ ∧ g < w3.heap.size ∧ w3.rangeAt g (k * 16) (p.1.j.cells p.2).toList) ∧ P.map (·.1) = Y.L ∧ (∀ p ∈ P, ∃ a n c, p.2 = Value.slice a n c) ∧ Below w2.heap.size w2 w3) := ⟨j1, j2, j3, j4⟩; clear j1 j2 j3 j4)
    | (go_at_call 12; refine (CT.out _ H3.out.2.2.2).mono ?_; rintro e w4 ⟨at', ct, T, rfl, t1, t2, t3, t4, t6, t5⟩; have H4 : Hid ((∀ (k : Nat) (x : List UInt8), T[k]? = some x → ∃ g, at' = some ⟨g, 0, none⟩ ∧ g < w4.heap.size ∧ w4.cell? ⟨g, k, none⟩ = some (.string ⟨x.toArray⟩)) ∧ T.Pairwise (· < ·) ∧ (∀ x ∈ T, x.length ≤ maxLen) ∧ (∀ x, x ∈ T ↔ (Y.tb ⟨x.toArray⟩).isSome = true) ∧ T.length = Y.nt ∧ Below w3.heap.size w3 w4) := ⟨t1, t2, t3, t4, t6, t5⟩; clear t1 t2 t3 t4 t5 t6))
  obtain ⟨n, hn⟩ : ∃ n, n = P.length := ⟨_, rfl⟩
  obtain ⟨m, hm⟩ : ∃ m, m = T.length := ⟨_, rfl⟩
  have S : Hid (At0 w4 yb lab Y P aj T at' n m) := by
    obtain ⟨j1, j2, j3, j4⟩ := H3.out
    obtain ⟨t1, t2, t3, t4, t6, t5⟩ := H4.out
    have hnt := F2.out.inv.few.nt
    have hl := congrArg List.length j2
    rw [List.length_map] at hl
    have := F2.out.inv.few.nl
    have := HL.out
    refine ⟨F2.out.yard.below (j4.trans (t5.mono j4.size)) (fun _ _ => rfl), ⟨_, F2.out.inv⟩, j2, j3, fun k p hp => ?_, t1, t2, t3, t4, hn, hm, by omega, ?_⟩
    rotate_left
    · omega
    obtain ⟨g, e1, e2, e3⟩ := j1 k p hp
    exact ⟨g, e1, by have := t5.size; omega, fun i u hu => (t5.cell (p := ⟨g, k * 16 + i, none⟩) e2).trans (e3 i u hu)⟩
  have BW : Hid (Below w.heap.size w w4) := by
    have s1 := B1.out.size
    have s2 := F2.out.bel.size
    have s3 := H3.out.2.2.2.size
    exact B1.out.trans ((F2.out.bel.mono s1).trans ((H3.out.2.2.2.mono (by omega)).trans (H4.out.2.2.2.2.2.mono (by omega))))
  rw [← hn, ← hm]
  clear hn hm H3 H4 CJ CT CS CF F2 B1 HL
  have L0 : Hid (L1 w4 Y 0 0 (w4.alloc (.cells #[.int .i64 0, .int .i64 0, .int .i64 0, .int .i64 0, .int .i64 0] 27))) := L1.start S.out
  obtain ⟨w5, hw5⟩ : ∃ w5, w5 = w4.alloc (.cells #[.int .i64 0, .int .i64 0, .int .i64 0, .int .i64 0, .int .i64 0] 27) := ⟨_, rfl⟩
  have HW5 : Hid (w5 = w4.alloc (.cells #[.int .i64 0, .int .i64 0, .int .i64 0, .int .i64 0, .int .i64 0] 27)) := hw5
  rw [← hw5] at L0
  obtain ⟨sb, hsb⟩ : ∃ sb, sb = w4.heap.size := ⟨_, rfl⟩
  have HSB : Hid (sb = w4.heap.size) := hsb
  clear hw5
  have hnl : n ≤ 100000000 := S.out.nL
  go_upto_region 8 with fail
  rw [← HW5.out, ← HSB.out]
  clear hsb HW5
  go_upto_region 10 with fail
  go_loopw [7, 30] (fun x i wr => ∃ (k : Nat) (last : Int), x = .int .i64 last ∧ i = .int .i64 k ∧ k ≤ n ∧ Hid (L1 w4 Y k last wr)) (fun _ i _ => n - (intOf i).toNat)
  case atStart => exact ⟨0, 0, rfl, rfl, Nat.zero_le _, L0⟩
  case round =>
    obtain ⟨k, last, rfl, rfl, hk, HL⟩ := hrel
    clear L0
    by_cases hlt : k < n
    · as_aux_lemma =>
        have hltI : (k : Int) < (n : Int) := by omega
        have hk0 : (0 : Int) ≤ (k : Int) := by omega
        obtain ⟨g, e, ab, xb, cb, rfl, hg, he, hrg⟩ := S.out.look hlt
        have hid : last < e.j.id := HL.out.next e he
        have hidn : ¬ e.j.id ≤ last := by omega
        have RG : Hid (wr.rangeAt g (k * 16) (e.j.cells (.slice ab xb cb)).toList) := range_below hrg hg HL.out.bel
        obtain ⟨bv, hbv⟩ : ∃ bv, bv = Value.slice ab xb cb := ⟨_, rfl⟩
        have H1c : Hid ((e.j.cells bv).all (·.oneCell') = true) := by rw [hbv]; exact job_one _ _ _ _
        rw [← hbv] at RG
        have HE : Hid (Y.L[k]? = some e) := he
        obtain ⟨w6, hw6⟩ : ∃ w6, w6 = wr.alloc (.cells (e.j.cells bv) 38) := ⟨_, rfl⟩
        have HW6 : Hid (w6 = wr.alloc (.cells (e.j.cells bv) 38)) := hw6
        have b6 : Below wr.heap.size wr w6 := by rw [hw6]; exact (Below.refl _ wr).alloc (Nat.le_refl _) _
        have J6 : JobBox w6 wr.heap.size e.j bv := by rw [hw6]; exact JobBox.new wr e.j bv
        have q0 := J6.at.1
        have jlt := J6.lt
        have SB6 : Hid (Sb w6 sb (smL (Y.L.take k))) := by rw [HSB.out]; exact HL.out.box.below b6
        have HJ6 : Hid (JobBox w6 wr.heap.size e.j bv) := J6
        have CC : Hid (Calls Try.prog 13 #[.agg (smL (Y.L.take k)).agg, .agg (e.j.cells bv)] w6 fun x w' => x = .returned (.agg ((smL (Y.L.take k)).add e.j.st e.j.pr 1).agg) ∧ Below w6.heap.size w6 w') := counted_any _ e.j bv w6 (smL_small (by
          have := S.out.nL
          rw [List.length_take]
          omega))
        have HB6 : Hid (Below wr.heap.size wr w6) := b6
        clear hrg hg he hbv hw6 b6 J6
        obtain ⟨s1, hs1⟩ : ∃ s1, s1 = smL (Y.L.take k) := ⟨_, rfl⟩
        have HS1 : Hid (s1 = smL (Y.L.take k)) := hs1
        rw [← hs1] at SB6 CC
        clear hs1
        go_wp2_with (first
          | (refine wpList_load_mid rfl 38 (.tmp 32) rfl g (k * 16) rfl (e.j.cells bv).toList _ RG.out Try.underlying38 rfl (by rw [Array.length_toList]; exact job_size e.j bv) ?_; rw [Array.toArray_toList])
          | (refine wpList_made rfl (run_allocJ rfl) ?_)
          | (refine wpList_store_new rfl 38 (.tmp 9) (.tmp 33) rfl (e.j.cells bv) rfl rfl 38 _ (job_size e.j bv) rfl H1c.out ?_; rw [← HW6.out])
          | (refine wpList_load_row rfl 27 (.tmp 6) rfl sb rfl 27 s1.agg (0, 0) _ SB6.out Try.underlying27 rfl (sums_size s1) ?_)
          | (refine wpList_load_row rfl 38 (.tmp 9) rfl wr.heap.size rfl 38 (e.j.cells bv) (0, 0) _ HJ6.out Try.underlying38 rfl (job_size e.j bv) ?_)
          | (go_at_call 13; refine CC.out.mono ?_; rintro x w7 ⟨rfl, b7⟩; have H7 : Hid (Below w6.heap.size w6 w7) := b7; clear b7)
          | (refine wpList_store_row rfl 27 (.tmp 6) (.tmp 42) rfl sb (s1.add e.j.st e.j.pr 1).agg rfl rfl 27 s1.agg (SB6.out.below H7.out) (sums_size _) rfl (agg_one _) ?_))
        obtain ⟨N, iv⟩ := S.out.inv
        have st := HL.out.step iv HE.out HB6.out H7.out
        rw [← HS1.out, ← HSB.out] at st
        exact ⟨⟨k + 1, e.j.id, rfl, by go_num, by omega, st⟩, by simp [intOf]; omega⟩
    · have hltI : ¬ (k : Int) < (n : Int) := by omega
      have S2 : Hid (L2 w4 Y T sb 0 0 wr) := by
        refine ⟨HL.out.bel, ?_, (cnS_nil _).symm⟩
        have hb := HL.out.box
        rw [List.take_of_length_le (by rw [← S.out.fst, List.length_map, ← S.out.nP]; omega), ← HSB.out] at hb
        exact hb
      have hml : m ≤ 100000000 := S.out.mL
      clear HL
      go_upto_region 19 with fail
      go_loopw [10, 46] (fun x i wr => ∃ (q many : Nat), x = .int .i64 many ∧ i = .int .i64 q ∧ q ≤ m ∧ Hid (L2 w4 Y T sb q many wr)) (fun _ i _ => m - (intOf i).toNat)
      case atStart => exact ⟨0, 0, rfl, rfl, Nat.zero_le _, S2⟩
      case round =>
        obtain ⟨q, many, rfl, rfl, hq, HM⟩ := hrel
        clear S2
        by_cases hlt2 : q < m
        · have hltJ : (q : Int) < (m : Int) := by omega
          have hq0 : (0 : Int) ≤ (q : Int) := by omega
          obtain ⟨x, hx⟩ : ∃ x, T[q]? = some x := ⟨_, List.getElem?_eq_getElem (by rw [← S.out.nT]; exact hlt2)⟩
          obtain ⟨h, rfl, hh, hc⟩ := S.out.tubs q x hx
          have hcx := (HM.out.bel.cell (p := ⟨h, q, none⟩) hh).trans hc
          have HX : Hid (T[q]? = some x) := hx
          clear hc hx
          by_cases hz : q = 0
          · subst hz
            have hgt : ¬ (0 : Int) < (0 : Int) := by omega
            obtain ⟨wo, hwo⟩ : ∃ wo, wo = wr := ⟨_, rfl⟩
            subst hwo
            go_upto_region 23 with fail
            have hnl2 : n ≤ 100000000 := S.out.nL
            obtain ⟨w8, hw8⟩ : ∃ w8, w8 = wo.alloc (.cells #[.int .i64 0, .int .i64 0, .int .i64 0, .int .i64 0, .int .i64 0] 27) := ⟨_, rfl⟩
            have HW8 : Hid (w8 = wo.alloc (.cells #[.int .i64 0, .int .i64 0, .int .i64 0, .int .i64 0, .int .i64 0] 27)) := hw8
            obtain ⟨tb, htb⟩ : ∃ tb, tb = wo.heap.size := ⟨_, rfl⟩
            have HTB : Hid (tb = wo.heap.size) := htb
            have L30 : Hid (L3 wo Y ⟨x.toArray⟩ 0 0 w8) := by rw [hw8]; exact ⟨(Below.refl _ wo).alloc (Nat.le_refl _) _, heap_alloc_new wo _, rfl⟩
            clear hw8
            go_upto_region 24 with fail
            rw [← HW8.out, ← HTB.out]
            clear htb HW8 hcx
            go_upto_region 25 with fail
            go_loopw [14, 65] (fun y i wr => ∃ (j cnt : Nat), y = .int .i64 cnt ∧ i = .int .i64 j ∧ j ≤ n ∧ Hid (L3 wo Y ⟨x.toArray⟩ j cnt wr)) (fun _ i _ => n - (intOf i).toNat)
            case atStart => exact ⟨0, 0, rfl, rfl, Nat.zero_le _, L30⟩
            case round =>
              obtain ⟨j, cnt, rfl, rfl, hj, HI⟩ := hrel
              clear L30
              by_cases hlt3 : j < n
              · as_aux_lemma =>
                  have hltK : (j : Int) < (n : Int) := by omega
                  have hj0 : (0 : Int) ≤ (j : Int) := by omega
                  obtain ⟨g, e, ab, xb, cb, rfl, hg, he, hrg⟩ := S.out.look hlt3
                  have bel3 : Below w4.heap.size w4 wr := HM.out.bel.trans (HI.out.bel.mono HM.out.bel.size)
                  have RG : Hid (wr.rangeAt g (j * 16) (e.j.cells (.slice ab xb cb)).toList) := range_below hrg hg bel3
                  obtain ⟨bv, hbv⟩ : ∃ bv, bv = Value.slice ab xb cb := ⟨_, rfl⟩
                  have H1c : Hid ((e.j.cells bv).all (·.oneCell') = true) := by rw [hbv]; exact job_one _ _ _ _
                  rw [← hbv] at RG
                  have HE : Hid (Y.L[j]? = some e) := he
                  obtain ⟨w6, hw6⟩ : ∃ w6, w6 = wr.alloc (.cells (e.j.cells bv) 38) := ⟨_, rfl⟩
                  have HW6 : Hid (w6 = wr.alloc (.cells (e.j.cells bv) 38)) := hw6
                  have b6 : Below wr.heap.size wr w6 := by rw [hw6]; exact (Below.refl _ wr).alloc (Nat.le_refl _) _
                  have J6 : JobBox w6 wr.heap.size e.j bv := by rw [hw6]; exact JobBox.new wr e.j bv
                  have q14 : w6.cell? ⟨wr.heap.size, 14, none⟩ = some (.string e.j.nm) := (World.cell?_of_block rfl).trans (by rw [World.cell?, show w6.heap[wr.heap.size]? = _ from J6]; rfl)
                  have jlt := J6.lt
                  have SB6 : Hid (Sb w6 tb (smT (Y.L.take j) ⟨x.toArray⟩)) := by rw [HTB.out]; exact HI.out.box.below b6
                  have HJ6 : Hid (JobBox w6 wr.heap.size e.j bv) := J6
                  have CC : Hid (Calls Try.prog 13 #[.agg (smT (Y.L.take j) ⟨x.toArray⟩).agg, .agg (e.j.cells bv)] w6 fun x' w' => x' = .returned (.agg ((smT (Y.L.take j) ⟨x.toArray⟩).add e.j.st e.j.pr 1).agg) ∧ Below w6.heap.size w6 w') := counted_any _ e.j bv w6 (smL_small (by
                    have := S.out.nL
                    refine Nat.le_trans (List.length_filter_le _ _) ?_
                    rw [List.length_take]
                    omega))
                  have HB6 : Hid (Below wr.heap.size wr w6) := b6
                  have hcl : cnt ≤ 100000000 := by
                    have h1 := HI.out.cnt
                    have h2 := cnT_le (Y.L.take j) ⟨x.toArray⟩
                    rw [List.length_take] at h2
                    omega
                  clear hrg hg he hbv hw6 b6 J6 bel3
                  obtain ⟨s1, hs1⟩ : ∃ s1, s1 = smT (Y.L.take j) ⟨x.toArray⟩ := ⟨_, rfl⟩
                  have HS1 : Hid (s1 = smT (Y.L.take j) ⟨x.toArray⟩) := hs1
                  rw [← hs1] at SB6 CC
                  clear hs1
                  by_cases hnm : e.j.nm = ⟨x.toArray⟩
                  · have HNM : Hid (e.j.nm = ⟨x.toArray⟩) := hnm
                    rw [hnm] at q14
                    clear hnm
                    go_wp2_with (first
                      | (refine wpList_load_mid rfl 38 (.tmp 67) rfl g (j * 16) rfl (e.j.cells bv).toList _ RG.out Try.underlying38 rfl (by rw [Array.length_toList]; exact job_size e.j bv) ?_; rw [Array.toArray_toList])
                      | (refine wpList_made rfl (run_allocJ rfl) ?_)
                      | (refine wpList_store_new rfl 38 (.tmp 16) (.tmp 68) rfl (e.j.cells bv) rfl rfl 38 _ (job_size e.j bv) rfl H1c.out ?_; rw [← HW6.out])
                      | (refine wpList_load_row rfl 27 (.tmp 13) rfl tb rfl 27 s1.agg (0, 0) _ SB6.out Try.underlying27 rfl (sums_size s1) ?_)
                      | (refine wpList_load_row rfl 38 (.tmp 16) rfl wr.heap.size rfl 38 (e.j.cells bv) (0, 0) _ HJ6.out Try.underlying38 rfl (job_size e.j bv) ?_)
                      | (go_at_call 13; refine CC.out.mono ?_; rintro x' w7 ⟨rfl, b7⟩; have H7 : Hid (Below w6.heap.size w6 w7) := b7; clear b7)
                      | (refine wpList_store_row rfl 27 (.tmp 13) (.tmp 75) rfl tb (s1.add e.j.st e.j.pr 1).agg rfl rfl 27 s1.agg (SB6.out.below H7.out) (sums_size _) rfl (agg_one _) ?_))
                    have st := HI.out.step HE.out HNM.out HB6.out H7.out
                    rw [← HS1.out, ← HTB.out] at st
                    exact ⟨⟨j + 1, cnt + 1, by go_num, by go_num, by omega, st⟩, by simp [intOf]; omega⟩
                  · have HNM : Hid (¬ e.j.nm = ⟨x.toArray⟩) := hnm
                    have hne : (e.j.nm.toList == x) = false := by
                      rw [beq_eq_false_iff_ne, ByteArray.toList_eq]
                      exact fun h => HNM.out ((nm_eq _ _).1 h)
                    go_wp2_with (first
                      | (refine wpList_load_mid rfl 38 (.tmp 67) rfl g (j * 16) rfl (e.j.cells bv).toList _ RG.out Try.underlying38 rfl (by rw [Array.length_toList]; exact job_size e.j bv) ?_; rw [Array.toArray_toList])
                      | (refine wpList_made rfl (run_allocJ rfl) ?_)
                      | (refine wpList_store_new rfl 38 (.tmp 16) (.tmp 68) rfl (e.j.cells bv) rfl rfl 38 _ (job_size e.j bv) rfl H1c.out ?_; rw [← HW6.out]))
                    have st := HI.out.skip HE.out HNM.out HB6.out
                    exact ⟨⟨j + 1, cnt, rfl, by go_num, by omega, st⟩, by simp [intOf]; omega⟩
              · have hltK : ¬ (j : Int) < (n : Int) := by omega
                obtain rfl : j = n := by omega
                obtain ⟨a1, a2, a3, a4⟩ := HI.out.all S.out HX.out
                have hcz : ((cnt : Int) == 0) = false := by simp; omega
                have bel3 : Below w4.heap.size w4 wr := HM.out.bel.trans (HI.out.bel.mono HM.out.bel.size)
                rw [← HTB.out] at a1
                obtain ⟨s1, hs1⟩ : ∃ s1, s1 = smT Y.L ⟨x.toArray⟩ := ⟨_, rfl⟩
                rw [← hs1] at a1
                have hxl : (⟨x.toArray⟩ : ByteArray).size ≤ maxLen := S.out.short x (List.mem_of_getElem? HX.out)
                have CY : Hid (∀ X, Below wr.heap.size wr X → Calls Try.prog 9 #[ptrV yb, .string ⟨x.toArray⟩] X fun e w' => e = .returned (.agg s1.agg) ∧ Below X.heap.size X w') := fun X hX => by
                  obtain ⟨N, iv⟩ := S.out.inv
                  have := sums_any ⟨x.toArray⟩ X lab yb Y (S.out.yard.below (bel3.trans (hX.mono bel3.size)) (fun _ _ => rfl)) hxl
                  rw [iv.sum, ← hs1] at this
                  exact this
                have A1 : Hid (Sb wr tb s1) := a1
                have CNT : Hid (0 < cnt ∧ cnt ≤ j) := ⟨a3, a4⟩
                clear a1 a2 bel3 hs1 hxl a3 a4
                go_upto_region 31 with fail
                have sq : Below wr.heap.size wr wr.drew := (Below.refl _ wr).drew
                refine wp_region_held_drew (S := fun X => Below wr.heap.size wr X) (by kernel_rfl) sq (fun _ => ?_)
                refine H_take (i := 0) (v := .int .i64 cnt) (some 79) rfl rfl (by kernel_rfl) (by kernel_rfl) (by kernel_rfl) (fun _ _ _ h => h) rfl (fun X hX => ?_) sq ?_
                · simp [go_sem]
                simp only [Act.put, List.setIfInBounds_toArray, List.set_cons_zero, List.set_cons_succ]
                refine H_take (i := 1) (v := .bool false) (some 80) rfl rfl (by kernel_rfl) (by kernel_rfl) (by kernel_rfl) (fun _ _ _ h => h) rfl (fun X hX => ?_) sq ?_
                · simp [go_sem, hcz]
                simp only [Act.put, List.setIfInBounds_toArray, List.set_cons_zero, List.set_cons_succ]
                refine H_take (i := 2) (v := .bool false) (some 81) rfl rfl (by kernel_rfl) (by kernel_rfl) (by kernel_rfl) (fun _ _ _ h => h) rfl (fun X hX => ?_) sq ?_
                · simp [go_sem]
                simp only [Act.put, List.setIfInBounds_toArray, List.set_cons_zero, List.set_cons_succ]
                refine H_take (i := 3) (v := ptrV yb) (some 82) rfl rfl (by kernel_rfl) (by kernel_rfl) (by kernel_rfl) (fun _ _ _ h => h) rfl (fun X hX => ?_) sq ?_
                · simp [go_sem]
                simp only [Act.put, List.setIfInBounds_toArray, List.set_cons_zero, List.set_cons_succ]
                refine H_take (i := 4) (v := .string ⟨x.toArray⟩) (some 83) rfl rfl (by kernel_rfl) (by kernel_rfl) (by kernel_rfl) (fun _ _ _ h => h) rfl (fun X hX => ?_) sq ?_
                · simp [go_sem]
                simp only [Act.put, List.setIfInBounds_toArray, List.set_cons_zero, List.set_cons_succ]
                refine H_take (i := 6) (v := .agg s1.agg) (some 85) rfl rfl (by kernel_rfl) (by kernel_rfl) (by kernel_rfl) (fun _ _ _ h => h) rfl (fun X hX => ?_) sq ?_
                · exact run_loadRow rfl rfl (A1.out.below hX) Try.underlying27 rfl (sums_size s1)
                simp only [Act.put, List.setIfInBounds_toArray, List.set_cons_zero, List.set_cons_succ]
                refine H_call (i := 5) (f := 9) (args := #[ptrV yb, .string ⟨x.toArray⟩]) (some 84) rfl rfl (by kernel_rfl) rfl (by simp [go_sem]) ((CY.out _ sq).mono ?_)
                rintro e w9 ⟨rfl, b9⟩
                have sq2 : Below wr.heap.size wr w9 := sq.trans b9
                refine ⟨_, rfl, sq2, ?_⟩
                simp only [Act.put, List.setIfInBounds_toArray, List.set_cons_zero, List.set_cons_succ]
                refine H_take (i := 7) (v := .bool false) (some 86) rfl rfl (by kernel_rfl) (by kernel_rfl) (by kernel_rfl) (fun _ _ _ h => h) rfl (fun X hX => ?_) sq2 ?_
                · exact run_neqS s1 rfl rfl rfl
                simp only [Act.put, List.setIfInBounds_toArray, List.set_cons_zero, List.set_cons_succ]
                refine H_take (i := 8) (v := .bool false) (some 87) rfl rfl (by kernel_rfl) (by kernel_rfl) (by kernel_rfl) (fun _ _ _ h => h) rfl (fun X hX => ?_) sq2 ?_
                · simp [go_sem]
                simp only [Act.put, List.setIfInBounds_toArray, List.set_cons_zero, List.set_cons_succ]
                refine wpAnyH_done (by kernel_rfl) ?_ _
                obtain ⟨nx, nle⟩ := HM.out.next S.out HI.out HX.out sq2
                have NX : Hid (L2 w4 Y T sb (0 + 1) (many + cnt) w9) := nx
                clear nx
                have hml2 : m ≤ 100000000 := S.out.mL
                go_wp2_with fail
                exact ⟨⟨0 + 1, many + cnt, by go_num, by go_num, by omega, NX⟩, by simp [intOf]; omega⟩
          · have hgt : (0 : Int) < (q : Int) := by omega
            obtain ⟨x0, hx0⟩ : ∃ x0, T[q - 1]? = some x0 := ⟨_, List.getElem?_eq_getElem (by rw [← S.out.nT]; omega)⟩
            obtain ⟨h', e', hh', hc'⟩ := S.out.tubs (q - 1) x0 hx0
            cases e'
            have hcy := (HM.out.bel.cell (p := ⟨h, q - 1, none⟩) hh').trans hc'
            have hq1 : (0 : Int) ≤ (q : Int) - 1 := by omega
            have hq2 : (q : Int) - 1 < (m : Int) := by omega
            have hq3 : ((q : Int) - 1).toNat = q - 1 := by omega
            obtain ⟨wo, hwo⟩ : ∃ wo, wo = wr := ⟨_, rfl⟩
            subst hwo
            have hless : Op.bytesLess x0 x = true := by rw [bytesLess_eq]; exact decide_eq_true (rise_at S.out.rise hx0 HX.out (by omega))
            clear hc' hx0
            go_upto_region 23 with fail
            have hnl2 : n ≤ 100000000 := S.out.nL
            obtain ⟨w8, hw8⟩ : ∃ w8, w8 = wo.alloc (.cells #[.int .i64 0, .int .i64 0, .int .i64 0, .int .i64 0, .int .i64 0] 27) := ⟨_, rfl⟩
            have HW8 : Hid (w8 = wo.alloc (.cells #[.int .i64 0, .int .i64 0, .int .i64 0, .int .i64 0, .int .i64 0] 27)) := hw8
            obtain ⟨tb, htb⟩ : ∃ tb, tb = wo.heap.size := ⟨_, rfl⟩
            have HTB : Hid (tb = wo.heap.size) := htb
            have L30 : Hid (L3 wo Y ⟨x.toArray⟩ 0 0 w8) := by rw [hw8]; exact ⟨(Below.refl _ wo).alloc (Nat.le_refl _) _, heap_alloc_new wo _, rfl⟩
            clear hw8
            go_upto_region 24 with fail
            rw [← HW8.out, ← HTB.out]
            clear htb HW8 hcx
            go_upto_region 25 with fail
            go_loopw [14, 65] (fun y i wr => ∃ (j cnt : Nat), y = .int .i64 cnt ∧ i = .int .i64 j ∧ j ≤ n ∧ Hid (L3 wo Y ⟨x.toArray⟩ j cnt wr)) (fun _ i _ => n - (intOf i).toNat)
            case atStart => exact ⟨0, 0, rfl, rfl, Nat.zero_le _, L30⟩
            case round =>
              obtain ⟨j, cnt, rfl, rfl, hj, HI⟩ := hrel
              clear L30
              by_cases hlt3 : j < n
              · as_aux_lemma =>
                  have hltK : (j : Int) < (n : Int) := by omega
                  have hj0 : (0 : Int) ≤ (j : Int) := by omega
                  obtain ⟨g, e, ab, xb, cb, rfl, hg, he, hrg⟩ := S.out.look hlt3
                  have bel3 : Below w4.heap.size w4 wr := HM.out.bel.trans (HI.out.bel.mono HM.out.bel.size)
                  have RG : Hid (wr.rangeAt g (j * 16) (e.j.cells (.slice ab xb cb)).toList) := range_below hrg hg bel3
                  obtain ⟨bv, hbv⟩ : ∃ bv, bv = Value.slice ab xb cb := ⟨_, rfl⟩
                  have H1c : Hid ((e.j.cells bv).all (·.oneCell') = true) := by rw [hbv]; exact job_one _ _ _ _
                  rw [← hbv] at RG
                  have HE : Hid (Y.L[j]? = some e) := he
                  obtain ⟨w6, hw6⟩ : ∃ w6, w6 = wr.alloc (.cells (e.j.cells bv) 38) := ⟨_, rfl⟩
                  have HW6 : Hid (w6 = wr.alloc (.cells (e.j.cells bv) 38)) := hw6
                  have b6 : Below wr.heap.size wr w6 := by rw [hw6]; exact (Below.refl _ wr).alloc (Nat.le_refl _) _
                  have J6 : JobBox w6 wr.heap.size e.j bv := by rw [hw6]; exact JobBox.new wr e.j bv
                  have q14 : w6.cell? ⟨wr.heap.size, 14, none⟩ = some (.string e.j.nm) := (World.cell?_of_block rfl).trans (by rw [World.cell?, show w6.heap[wr.heap.size]? = _ from J6]; rfl)
                  have jlt := J6.lt
                  have SB6 : Hid (Sb w6 tb (smT (Y.L.take j) ⟨x.toArray⟩)) := by rw [HTB.out]; exact HI.out.box.below b6
                  have HJ6 : Hid (JobBox w6 wr.heap.size e.j bv) := J6
                  have CC : Hid (Calls Try.prog 13 #[.agg (smT (Y.L.take j) ⟨x.toArray⟩).agg, .agg (e.j.cells bv)] w6 fun x' w' => x' = .returned (.agg ((smT (Y.L.take j) ⟨x.toArray⟩).add e.j.st e.j.pr 1).agg) ∧ Below w6.heap.size w6 w') := counted_any _ e.j bv w6 (smL_small (by
                    have := S.out.nL
                    refine Nat.le_trans (List.length_filter_le _ _) ?_
                    rw [List.length_take]
                    omega))
                  have HB6 : Hid (Below wr.heap.size wr w6) := b6
                  have hcl : cnt ≤ 100000000 := by
                    have h1 := HI.out.cnt
                    have h2 := cnT_le (Y.L.take j) ⟨x.toArray⟩
                    rw [List.length_take] at h2
                    omega
                  clear hrg hg he hbv hw6 b6 J6 bel3
                  obtain ⟨s1, hs1⟩ : ∃ s1, s1 = smT (Y.L.take j) ⟨x.toArray⟩ := ⟨_, rfl⟩
                  have HS1 : Hid (s1 = smT (Y.L.take j) ⟨x.toArray⟩) := hs1
                  rw [← hs1] at SB6 CC
                  clear hs1
                  by_cases hnm : e.j.nm = ⟨x.toArray⟩
                  · have HNM : Hid (e.j.nm = ⟨x.toArray⟩) := hnm
                    rw [hnm] at q14
                    clear hnm
                    go_wp2_with (first
                      | (refine wpList_load_mid rfl 38 (.tmp 67) rfl g (j * 16) rfl (e.j.cells bv).toList _ RG.out Try.underlying38 rfl (by rw [Array.length_toList]; exact job_size e.j bv) ?_; rw [Array.toArray_toList])
                      | (refine wpList_made rfl (run_allocJ rfl) ?_)
                      | (refine wpList_store_new rfl 38 (.tmp 16) (.tmp 68) rfl (e.j.cells bv) rfl rfl 38 _ (job_size e.j bv) rfl H1c.out ?_; rw [← HW6.out])
                      | (refine wpList_load_row rfl 27 (.tmp 13) rfl tb rfl 27 s1.agg (0, 0) _ SB6.out Try.underlying27 rfl (sums_size s1) ?_)
                      | (refine wpList_load_row rfl 38 (.tmp 16) rfl wr.heap.size rfl 38 (e.j.cells bv) (0, 0) _ HJ6.out Try.underlying38 rfl (job_size e.j bv) ?_)
                      | (go_at_call 13; refine CC.out.mono ?_; rintro x' w7 ⟨rfl, b7⟩; have H7 : Hid (Below w6.heap.size w6 w7) := b7; clear b7)
                      | (refine wpList_store_row rfl 27 (.tmp 13) (.tmp 75) rfl tb (s1.add e.j.st e.j.pr 1).agg rfl rfl 27 s1.agg (SB6.out.below H7.out) (sums_size _) rfl (agg_one _) ?_))
                    have st := HI.out.step HE.out HNM.out HB6.out H7.out
                    rw [← HS1.out, ← HTB.out] at st
                    exact ⟨⟨j + 1, cnt + 1, by go_num, by go_num, by omega, st⟩, by simp [intOf]; omega⟩
                  · have HNM : Hid (¬ e.j.nm = ⟨x.toArray⟩) := hnm
                    have hne : (e.j.nm.toList == x) = false := by
                      rw [beq_eq_false_iff_ne, ByteArray.toList_eq]
                      exact fun h => HNM.out ((nm_eq _ _).1 h)
                    go_wp2_with (first
                      | (refine wpList_load_mid rfl 38 (.tmp 67) rfl g (j * 16) rfl (e.j.cells bv).toList _ RG.out Try.underlying38 rfl (by rw [Array.length_toList]; exact job_size e.j bv) ?_; rw [Array.toArray_toList])
                      | (refine wpList_made rfl (run_allocJ rfl) ?_)
                      | (refine wpList_store_new rfl 38 (.tmp 16) (.tmp 68) rfl (e.j.cells bv) rfl rfl 38 _ (job_size e.j bv) rfl H1c.out ?_; rw [← HW6.out]))
                    have st := HI.out.skip HE.out HNM.out HB6.out
                    exact ⟨⟨j + 1, cnt, rfl, by go_num, by omega, st⟩, by simp [intOf]; omega⟩
              · have hltK : ¬ (j : Int) < (n : Int) := by omega
                obtain rfl : j = n := by omega
                obtain ⟨a1, a2, a3, a4⟩ := HI.out.all S.out HX.out
                have hcz : ((cnt : Int) == 0) = false := by simp; omega
                have bel3 : Below w4.heap.size w4 wr := HM.out.bel.trans (HI.out.bel.mono HM.out.bel.size)
                rw [← HTB.out] at a1
                obtain ⟨s1, hs1⟩ : ∃ s1, s1 = smT Y.L ⟨x.toArray⟩ := ⟨_, rfl⟩
                rw [← hs1] at a1
                have hxl : (⟨x.toArray⟩ : ByteArray).size ≤ maxLen := S.out.short x (List.mem_of_getElem? HX.out)
                have CY : Hid (∀ X, Below wr.heap.size wr X → Calls Try.prog 9 #[ptrV yb, .string ⟨x.toArray⟩] X fun e w' => e = .returned (.agg s1.agg) ∧ Below X.heap.size X w') := fun X hX => by
                  obtain ⟨N, iv⟩ := S.out.inv
                  have := sums_any ⟨x.toArray⟩ X lab yb Y (S.out.yard.below (bel3.trans (hX.mono bel3.size)) (fun _ _ => rfl)) hxl
                  rw [iv.sum, ← hs1] at this
                  exact this
                have A1 : Hid (Sb wr tb s1) := a1
                have CNT : Hid (0 < cnt ∧ cnt ≤ j) := ⟨a3, a4⟩
                clear a1 a2 bel3 hs1 hxl a3 a4
                go_upto_region 31 with fail
                have sq : Below wr.heap.size wr wr.drew := (Below.refl _ wr).drew
                refine wp_region_held_drew (S := fun X => Below wr.heap.size wr X) (by kernel_rfl) sq (fun _ => ?_)
                refine H_take (i := 0) (v := .int .i64 cnt) (some 79) rfl rfl (by kernel_rfl) (by kernel_rfl) (by kernel_rfl) (fun _ _ _ h => h) rfl (fun X hX => ?_) sq ?_
                · simp [go_sem]
                simp only [Act.put, List.setIfInBounds_toArray, List.set_cons_zero, List.set_cons_succ]
                refine H_take (i := 1) (v := .bool false) (some 80) rfl rfl (by kernel_rfl) (by kernel_rfl) (by kernel_rfl) (fun _ _ _ h => h) rfl (fun X hX => ?_) sq ?_
                · simp [go_sem, hcz]
                simp only [Act.put, List.setIfInBounds_toArray, List.set_cons_zero, List.set_cons_succ]
                refine H_take (i := 2) (v := .bool false) (some 81) rfl rfl (by kernel_rfl) (by kernel_rfl) (by kernel_rfl) (fun _ _ _ h => h) rfl (fun X hX => ?_) sq ?_
                · simp [go_sem]
                simp only [Act.put, List.setIfInBounds_toArray, List.set_cons_zero, List.set_cons_succ]
                refine H_take (i := 3) (v := ptrV yb) (some 82) rfl rfl (by kernel_rfl) (by kernel_rfl) (by kernel_rfl) (fun _ _ _ h => h) rfl (fun X hX => ?_) sq ?_
                · simp [go_sem]
                simp only [Act.put, List.setIfInBounds_toArray, List.set_cons_zero, List.set_cons_succ]
                refine H_take (i := 4) (v := .string ⟨x.toArray⟩) (some 83) rfl rfl (by kernel_rfl) (by kernel_rfl) (by kernel_rfl) (fun _ _ _ h => h) rfl (fun X hX => ?_) sq ?_
                · simp [go_sem]
                simp only [Act.put, List.setIfInBounds_toArray, List.set_cons_zero, List.set_cons_succ]
                refine H_take (i := 6) (v := .agg s1.agg) (some 85) rfl rfl (by kernel_rfl) (by kernel_rfl) (by kernel_rfl) (fun _ _ _ h => h) rfl (fun X hX => ?_) sq ?_
                · exact run_loadRow rfl rfl (A1.out.below hX) Try.underlying27 rfl (sums_size s1)
                simp only [Act.put, List.setIfInBounds_toArray, List.set_cons_zero, List.set_cons_succ]
                refine H_call (i := 5) (f := 9) (args := #[ptrV yb, .string ⟨x.toArray⟩]) (some 84) rfl rfl (by kernel_rfl) rfl (by simp [go_sem]) ((CY.out _ sq).mono ?_)
                rintro e w9 ⟨rfl, b9⟩
                have sq2 : Below wr.heap.size wr w9 := sq.trans b9
                refine ⟨_, rfl, sq2, ?_⟩
                simp only [Act.put, List.setIfInBounds_toArray, List.set_cons_zero, List.set_cons_succ]
                refine H_take (i := 7) (v := .bool false) (some 86) rfl rfl (by kernel_rfl) (by kernel_rfl) (by kernel_rfl) (fun _ _ _ h => h) rfl (fun X hX => ?_) sq2 ?_
                · exact run_neqS s1 rfl rfl rfl
                simp only [Act.put, List.setIfInBounds_toArray, List.set_cons_zero, List.set_cons_succ]
                refine H_take (i := 8) (v := .bool false) (some 87) rfl rfl (by kernel_rfl) (by kernel_rfl) (by kernel_rfl) (fun _ _ _ h => h) rfl (fun X hX => ?_) sq2 ?_
                · simp [go_sem]
                simp only [Act.put, List.setIfInBounds_toArray, List.set_cons_zero, List.set_cons_succ]
                refine wpAnyH_done (by kernel_rfl) ?_ _
                obtain ⟨nx, nle⟩ := HM.out.next S.out HI.out HX.out sq2
                have NX : Hid (L2 w4 Y T sb (q + 1) (many + cnt) w9) := nx
                clear nx
                have hml2 : m ≤ 100000000 := S.out.mL
                go_wp2_with fail
                exact ⟨⟨q + 1, many + cnt, by go_num, by go_num, by omega, NX⟩, by simp [intOf]; omega⟩
        · as_aux_lemma =>
            have hltJ : ¬ (q : Int) < (m : Int) := by omega
            obtain rfl : q = m := by omega
            obtain rfl := HM.out.all S.out
            have bel3 : Below w4.heap.size w4 wr := HM.out.bel
            obtain ⟨s1, hs1⟩ : ∃ s1, s1 = smL Y.L := ⟨_, rfl⟩
            have A1 : Hid (Sb wr sb s1) := by rw [hs1]; exact HM.out.box
            have CY : Hid (∀ X, Below wr.heap.size wr X → Calls Try.prog 14 #[ptrV yb] X fun e w' => e = .returned (.agg s1.agg) ∧ Below X.heap.size X w') := fun X hX => by
              obtain ⟨N, iv⟩ := S.out.inv
              have := all_any X lab yb Y (S.out.yard.below (bel3.trans (hX.mono bel3.size)) (fun _ _ => rfl))
              rw [iv.sm, ← hs1] at this
              exact this
            have BB : Hid (Below w.heap.size w wr) := BW.out.trans (bel3.mono BW.out.size)
            have hmm : ((many : Int) == (many : Int)) = true := by simp
            clear bel3 hs1
            go_upto_region 35 with fail
            have sq : Below wr.heap.size wr wr.drew := (Below.refl _ wr).drew
            refine wp_region_held_drew (S := fun X => Below wr.heap.size wr X) (by kernel_rfl) sq (fun _ => ?_)
            refine H_take (i := 0) (v := .int .i64 many) (some 92) rfl rfl (by kernel_rfl) (by kernel_rfl) (by kernel_rfl) (fun _ _ _ h => h) rfl (fun X hX => ?_) sq ?_
            · simp [go_sem]
            simp only [Act.put, List.setIfInBounds_toArray, List.set_cons_zero, List.set_cons_succ]
            refine H_take (i := 1) (v := .slice aj many cj) (some 93) rfl rfl (by kernel_rfl) (by kernel_rfl) (by kernel_rfl) (fun _ _ _ h => h) rfl (fun X hX => ?_) sq ?_
            · simp [go_sem]
            simp only [Act.put, List.setIfInBounds_toArray, List.set_cons_zero, List.set_cons_succ]
            refine H_take (i := 2) (v := .int .i64 many) (some 94) rfl rfl (by kernel_rfl) (by kernel_rfl) (by kernel_rfl) (fun _ _ _ h => h) rfl (fun X hX => ?_) sq ?_
            · simp [go_sem]
            simp only [Act.put, List.setIfInBounds_toArray, List.set_cons_zero, List.set_cons_succ]
            refine H_take (i := 3) (v := .bool true) (some 95) rfl rfl (by kernel_rfl) (by kernel_rfl) (by kernel_rfl) (fun _ _ _ h => h) rfl (fun X hX => ?_) sq ?_
            · simp [go_sem]
            simp only [Act.put, List.setIfInBounds_toArray, List.set_cons_zero, List.set_cons_succ]
            refine H_take (i := 4) (v := .bool true) (some 96) rfl rfl (by kernel_rfl) (by kernel_rfl) (by kernel_rfl) (fun _ _ _ h => h) rfl (fun X hX => ?_) sq ?_
            · simp [go_sem]
            simp only [Act.put, List.setIfInBounds_toArray, List.set_cons_zero, List.set_cons_succ]
            refine H_take (i := 5) (v := ptrV yb) (some 97) rfl rfl (by kernel_rfl) (by kernel_rfl) (by kernel_rfl) (fun _ _ _ h => h) rfl (fun X hX => ?_) sq ?_
            · simp [go_sem]
            simp only [Act.put, List.setIfInBounds_toArray, List.set_cons_zero, List.set_cons_succ]
            refine H_take (i := 7) (v := .agg s1.agg) (some 99) rfl rfl (by kernel_rfl) (by kernel_rfl) (by kernel_rfl) (fun _ _ _ h => h) rfl (fun X hX => ?_) sq ?_
            · exact run_loadRow rfl rfl (A1.out.below hX) Try.underlying27 rfl (sums_size s1)
            simp only [Act.put, List.setIfInBounds_toArray, List.set_cons_zero, List.set_cons_succ]
            refine H_call (i := 6) (f := 14) (args := #[ptrV yb]) (some 98) rfl rfl (by kernel_rfl) rfl (by simp [go_sem]) ((CY.out _ sq).mono ?_)
            rintro e w9 ⟨rfl, b9⟩
            have sq2 : Below wr.heap.size wr w9 := sq.trans b9
            refine ⟨_, rfl, sq2, ?_⟩
            simp only [Act.put, List.setIfInBounds_toArray, List.set_cons_zero, List.set_cons_succ]
            refine H_take (i := 8) (v := .bool true) (some 100) rfl rfl (by kernel_rfl) (by kernel_rfl) (by kernel_rfl) (fun _ _ _ h => h) rfl (fun X hX => ?_) sq2 ?_
            · exact run_eqlS s1 rfl rfl rfl
            simp only [Act.put, List.setIfInBounds_toArray, List.set_cons_zero, List.set_cons_succ]
            refine H_take (i := 9) (v := .bool true) (some 101) rfl rfl (by kernel_rfl) (by kernel_rfl) (by kernel_rfl) (fun _ _ _ h => h) rfl (fun X hX => ?_) sq2 ?_
            · simp [go_sem]
            simp only [Act.put, List.setIfInBounds_toArray, List.set_cons_zero, List.set_cons_succ]
            refine H_take (i := 10) (v := .bool true) (some 2) rfl rfl (by kernel_rfl) (by kernel_rfl) (by kernel_rfl) (fun _ _ _ h => h) rfl (fun X hX => ?_) sq2 ?_
            · simp [go_sem]
            simp only [Act.put, List.setIfInBounds_toArray, List.set_cons_zero, List.set_cons_succ]
            refine wpAnyH_done (by kernel_rfl) ?_ _
            have B9 : Hid (Below w.heap.size w w9) := BB.out.trans (sq2.mono BB.out.size)
            go_wp2_with fail
            go_ret
            exact ⟨rfl, B9.out⟩
end Go.Proofs.Ytjkgclogndbplaa.yardSums
