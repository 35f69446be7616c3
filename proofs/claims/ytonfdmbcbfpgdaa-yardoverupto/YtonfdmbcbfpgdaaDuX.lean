/-
  YInt, YDue, YOvr.
-/
import Derived.Test.YtonfdmbcbfpgdaaOvX
import Derived.Test.YtonfdmbcbfpgdaaYHeld
namespace Go.Proofs.Ytonfdmbcbfpgdaa
open Go.RowKit
set_option maxHeartbeats 1000000 in
set_option maxRecDepth 1000000 in
theorem among_any (i n : Int) (w : World) (hn : 1 ≤ n ∧ n ≤ 4611686018427387904) :
    Calls Try.prog 9 #[.int .i64 i, .int .i64 n] w fun e w' => (∃ r, e = .returned (.int .i64 r) ∧ 0 ≤ r ∧ r < n) ∧ w' = w := by
  have ha := Int.tmod_lt_of_pos i (b := n) (by omega)
  have hb := Int.lt_tmod_of_pos i (b := n) (by omega)
  have hz : (n == 0) = false := by simp; omega
  have h1 : ¬ n < 1 := by omega
  have HM : Hid (i.tmod n < n ∧ -n < i.tmod n) := ⟨ha, by omega⟩
  by_cases h2 : i.tmod n < 0
  · go_enter Try.func9, Try.ntmps9
    go_wp2_with fail
    go_ret
    exact ⟨⟨_, rfl, by have := HM.out; omega, by omega⟩, rfl⟩
  · go_enter Try.func9, Try.ntmps9
    go_wp2_with fail
    go_ret
    exact ⟨⟨_, rfl, by omega, HM.out.1⟩, rfl⟩
/-- What a list of numbers reads as. -/
def Rd (w : World) (a : Option Addr) (l : List Int) : Prop := ∀ (i : Nat) (x : Int), l[i]? = some x → ∃ g, a = some ⟨g, 0, none⟩ ∧ w.cell? ⟨g, i, none⟩ = some (.int .i64 x)
theorem Rd.below {w w' : World} {a : Option Addr} {l : List Int} (h : Rd w a l) (hb : Below w.heap.size w w') : Rd w' a l := fun i x hx => by
  obtain ⟨g, h1, h2⟩ := h i x hx
  exact ⟨g, h1, (hb.cell (p := ⟨g, i, none⟩) (cell_lt h2)).trans h2⟩
set_option maxHeartbeats 2000000 in
set_option maxRecDepth 1000000 in
theorem ints_any (w : World) (a b : Option Addr) (ca cb n : Nat) (l : List Int) (hl : l.length = n) (hn : n ≤ 100000000) (ha : Rd w a l) (hb : Rd w b l) :
    Calls Try.prog 11 #[.slice a n ca, .slice b n cb] w fun e w' => e = .returned (.bool true) ∧ Below w.heap.size w w' := by
  have HR : Hid (l.length = n ∧ Rd w a l ∧ Rd w b l) := ⟨hl, ha, hb⟩
  clear ha hb hl
  go_enter Try.func11, Try.ntmps11
  go_wp2_with fail
  go_loopw [13] (fun i wr => ∃ k : Nat, i = .int .i64 k ∧ k ≤ n ∧ Hid (Below w.heap.size w wr)) (fun i _ => n - (intOf i).toNat)
  case atStart => exact ⟨0, rfl, Nat.zero_le _, Below.refl _ _⟩
  case round =>
    obtain ⟨k, rfl, hk, HB⟩ := hrel
    by_cases hlt : k < n
    · have hltI : (k : Int) < (n : Int) := by omega
      have hk0 : (0 : Int) ≤ (k : Int) := by omega
      obtain ⟨x, hx⟩ : ∃ x, l[k]? = some x := ⟨_, List.getElem?_eq_getElem (by rw [HR.out.1]; exact hlt)⟩
      obtain ⟨g1, rfl, c1⟩ := HR.out.2.1 k x hx
      obtain ⟨g2, rfl, c2⟩ := HR.out.2.2 k x hx
      have d1 := (HB.out.cell (p := ⟨g1, k, none⟩) (cell_lt c1)).trans c1
      have d2 := (HB.out.cell (p := ⟨g2, k, none⟩) (cell_lt c2)).trans c2
      clear c1 c2 hx
      go_wp2_with fail
      go_quiet (fail)
      generalize hwq : wr.drewN _ = wq
      have HQ : Hid (Below w.heap.size w wq) := by rw [← hwq]; exact ⟨HB.out.os, HB.out.tape, HB.out.output, HB.out.size, HB.out.block⟩
      clear hwq d1 d2
      go_wp2_with fail
      exact ⟨⟨k + 1, by go_num, by omega, HQ⟩, by simp [intOf]; omega⟩
    · have hltI : ¬ (k : Int) < (n : Int) := by omega
      go_wp2_with fail
      go_ret
      exact ⟨rfl, HB.out⟩
end Go.Proofs.Ytonfdmbcbfpgdaa

namespace Go.Proofs.Ytonfdmbcbfpgdaa
open Go.RowKit
/-- In the midst of due. -/
structure Dl (w : World) (E : List Jb) (lb k : Nat) (lj : Jb) (lv : Value) (wr : World) : Prop where
  bel : Below w.heap.size w wr
  box : JobBox wr lb lj lv
  prev : ∀ q, k = q + 1 → E[q]? = some lj
  hlb : w.heap.size ≤ lb
theorem JobBox.du {w : World} {b : Nat} {j : Jb} {bv : Value} (h : JobBox w b j bv) : w.cell? ⟨b, 6, none⟩ = some (.int .i64 j.du) := (job_cells (show w.heap[b]? = _ from h)).1 6 _ rfl
set_option maxHeartbeats 8000000 in
set_option maxRecDepth 1000000 in
theorem due_any (st now : Int) (w : World) (lab : Nat → HK) (yb : Nat) (Y : Yd) (N : Nat) (h : YAt w lab yb Y) (iv : Iv Y N) (a : Option Addr) (ca n : Nat) (E : List Jb) (hE : E.length = n) (hn : n ≤ 100000000) (hr : Rd w a (E.map (·.id))) (hm : ∀ j ∈ E, (∃ e ∈ Y.L, e.j = j) ∧ j.st = st ∧ j.du ≤ now)
    (hp : E.Pairwise (fun a b => a.du < b.du ∨ (a.du = b.du ∧ a.id < b.id))) :
    Calls Try.prog 13 #[ptrV yb, .slice a n ca, .int .i64 st, .int .i64 now] w fun x w' => x = .returned (.bool true) ∧ Below w.heap.size w w' := by
  obtain ⟨lb, hlb⟩ : ∃ lb, lb = w.heap.size := ⟨_, rfl⟩
  obtain ⟨w1, hw1⟩ : ∃ w1, w1 = w.alloc (.cells (jb0.cells (.slice none 0 0)) 41) := ⟨_, rfl⟩
  have D0 : Hid (Dl w E lb 0 jb0 (.slice none 0 0) w1) := by
    rw [hw1, hlb]
    exact ⟨(Below.refl _ w).alloc (Nat.le_refl _) _, JobBox.new w _ _, fun q hq => by omega, Nat.le_refl _⟩
  have HH : Hid (YAt w lab yb Y ∧ Iv Y N ∧ Rd w a (E.map (·.id)) ∧ (∀ j ∈ E, (∃ e ∈ Y.L, e.j = j) ∧ j.st = st ∧ j.du ≤ now) ∧ E.Pairwise (fun a b => a.du < b.du ∨ (a.du = b.du ∧ a.id < b.id)) ∧ E.length = n) := ⟨h, iv, hr, hm, hp, hE⟩
  have HW1 : Hid (w.alloc (.cells (jb0.cells (.slice none 0 0)) 41) = w1 ∧ w.heap.size = lb) := ⟨hw1.symm, hlb.symm⟩
  clear h iv hr hm hp hE hlb hw1
  go_enter Try.func13, Try.ntmps13
  go_wp2_with (first
    | (refine wpList_value rfl (run_buildJ0 rfl) ?_)
    | (refine wpList_made rfl (run_allocJ rfl) ?_)
    | (refine wpList_store_new rfl 41 (.tmp 9) (.tmp 14) rfl (jb0.cells (.slice none 0 0)) rfl rfl 41 _ (job_size _ _) rfl (job_one _ _ _ _) ?_; rw [HW1.out.1, HW1.out.2]; simp only [Act.put]))
  go_loopw [17] (fun i wr => ∃ (k : Nat) (lj : Jb) (lv : Value), i = .int .i64 k ∧ k ≤ n ∧ Hid (Dl w E lb k lj lv wr)) (fun i _ => n - (intOf i).toNat)
  case atStart => exact ⟨0, jb0, _, rfl, Nat.zero_le _, D0⟩
  case round =>
    obtain ⟨k, lj, lv, rfl, hk, HD⟩ := hrel
    clear D0 HW1
    by_cases hlt : k < n
    · have hltI : (k : Int) < (n : Int) := by omega
      have hk0 : (0 : Int) ≤ (k : Int) := by omega
      obtain ⟨j, hj⟩ : ∃ j, E[k]? = some j := ⟨_, List.getElem?_eq_getElem (by rw [HH.out.2.2.2.2.2]; exact hlt)⟩
      obtain ⟨⟨e, he, hej⟩, hst, hdu⟩ := HH.out.2.2.2.1 j (List.mem_of_getElem? hj)
      obtain ⟨ga, rfl, ck0⟩ := HH.out.2.2.1 k j.id (by rw [List.getElem?_map, hj]; rfl)
      have ck := (HD.out.bel.cell (p := ⟨ga, k, none⟩) (cell_lt ck0)).trans ck0
      have gl := cell_lt ck
      simp only [] at gl
      have hok := HH.out.2.1.inv.ok e he
      rw [hej] at hok
      have CG : Hid (∀ W, Below wr.heap.size wr W → Calls Try.prog 15 #[ptrV yb, .int .i64 j.id] W fun x w' => ∃ v, x = .returned (.tuple #[.agg (j.cells v), .bool true]) ∧ (∃ a n c, v = Value.slice a n c) ∧ Below W.heap.size W w') := fun W hW => by
        have hlk := lookE_at HH.out.2.1.inv.rise he
        rw [hej] at hlk
        have hD : lookD Y.L j.id = e := by unfold lookD; rw [hlk]; rfl
        have hb : Below w.heap.size w W := HD.out.bel.trans (hW.mono HD.out.bel.size)
        have := get_any j.id W lab yb Y (HH.out.1.below hb (fun _ _ => rfl)) hok.1.1 (by
          have := lookD_len (fun e he => (HH.out.2.1.inv.ok e he).2.2.2.2) j.id
          omega)
        rw [hD, hlk, hej] at this
        refine this.mono ?_
        rintro x w' ⟨v, rfl, o, b⟩
        obtain ⟨a3, c3, e3, _⟩ := o.shape
        exact ⟨v, rfl, ⟨a3, _, c3, e3⟩, b⟩
      have HJ : Hid (E[k]? = some j) := hj
      have HO : Hid (0 < k → lj.du < j.du ∨ (lj.du = j.du ∧ lj.id < j.id)) := fun h0 => by
        have h1 := HD.out.prev (k - 1) (by omega)
        obtain ⟨p1, p2⟩ := List.getElem?_eq_some_iff.1 h1
        obtain ⟨p3, p4⟩ := List.getElem?_eq_some_iff.1 hj
        have := List.pairwise_iff_getElem.1 HH.out.2.2.2.2.1 (k - 1) k p1 p3 (by omega)
        rw [p2, p4] at this
        exact this
      clear he hej hok hj ck0
      go_upto_region 6 with (first
        | (go_at_call 15; refine (CG.out _ (Below.refl _ wr)).mono ?_; rintro x w2 ⟨v, rfl, ⟨va, vn, vc, hv⟩, b2⟩; have B2 : Hid (Below wr.heap.size wr w2) := b2; have H1v : Hid ((j.cells v).all (·.oneCell') = true) := (by rw [hv]; exact job_one _ _ _ _); clear b2 hv; obtain ⟨w3, hw3⟩ : ∃ w3, w3 = w2.alloc (.cells (j.cells v) 41) := ⟨_, rfl⟩; obtain ⟨jb, hjb⟩ : ∃ jb, jb = w2.heap.size := ⟨_, rfl⟩; have HW3 : Hid (w2.alloc (.cells (j.cells v) 41) = w3 ∧ w2.heap.size = jb) := ⟨hw3.symm, hjb.symm⟩; clear hw3 hjb)
        | (refine wpList_made rfl (run_allocJ rfl) ?_)
        | (refine wpList_store_new rfl 41 (.tmp 12) (.tmp 26) rfl (j.cells v) rfl rfl 41 _ (job_size j v) rfl H1v.out ?_; rw [HW3.out.1, HW3.out.2]; simp only [Act.put]))
      have b3 : Below wr.heap.size wr w3 := by rw [← HW3.out.1]; exact B2.out.alloc B2.out.size _
      have j3 : JobBox w3 jb j v := by rw [← HW3.out.1, ← HW3.out.2]; exact JobBox.new w2 j v
      have l3 : JobBox w3 lb lj lv := HD.out.box.later b3
      have B3 : Hid (Below wr.heap.size wr w3) := b3
      have J3 : Hid (JobBox w3 jb j v ∧ JobBox w3 lb lj lv) := ⟨j3, l3⟩
      have q0 := j3.at.1
      have q5 := j3.at.2.1
      have q6 := j3.du
      have p0 := l3.at.1
      have p6 := l3.du
      have jl3 := j3.lt
      have ll3 := l3.lt
      have hdn : ¬ now < j.du := by omega
      rw [hst] at q5
      clear b3 j3 l3 HW3 CG gl ck
      have ST : Hid (Dl w E lb (k + 1) j v (w3.setRow lb (j.cells v))) := ⟨below_setRow (HD.out.bel.trans (B3.out.mono HD.out.bel.size)) HD.out.hlb _, setRow_heap w3 lb _ _ _ _ J3.out.2, fun q hq => by rw [show q = k by omega]; exact HJ.out, HD.out.hlb⟩
      by_cases hk00 : k = 0
      · have hkn : ¬ (0 : Int) < (k : Int) := by omega
        clear hk00 p0 p6
        go_upto_region 8 with fail
        go_upto_region 9 with (first
          | (refine wpList_load_row rfl 41 (.tmp 12) rfl jb rfl 41 (j.cells v) (0, 0) _ J3.out.1 Try.underlying41 rfl (job_size j v) ?_)
          | (refine wpList_store_row rfl 41 (.tmp 9) (.tmp 67) rfl lb (j.cells v) rfl rfl 41 (lj.cells lv) J3.out.2 (job_size j v) rfl H1v.out ?_; simp only [Act.put]))
        go_wp2_with fail
        exact ⟨⟨k + 1, j, v, by go_num, by omega, ST⟩, by simp [intOf]; omega⟩
      · have hkp : (0 : Int) < (k : Int) := by omega
        rcases HO.out (by omega) with hlt2 | ⟨heq, hlt2⟩
        · have t1 : ¬ j.du < lj.du := by omega
          have t2 : (j.du == lj.du) = false := by simp; omega
          clear hk00 hlt2 p0
          go_upto_region 8 with fail
          go_upto_region 9 with (first
            | (refine wpList_load_row rfl 41 (.tmp 12) rfl jb rfl 41 (j.cells v) (0, 0) _ J3.out.1 Try.underlying41 rfl (job_size j v) ?_)
            | (refine wpList_store_row rfl 41 (.tmp 9) (.tmp 67) rfl lb (j.cells v) rfl rfl 41 (lj.cells lv) J3.out.2 (job_size j v) rfl H1v.out ?_; simp only [Act.put]))
          go_wp2_with fail
          exact ⟨⟨k + 1, j, v, by go_num, by omega, ST⟩, by simp [intOf]; omega⟩
        · have t1 : ¬ j.du < lj.du := by omega
          have t2 : (j.du == lj.du) = true := by simp; omega
          have t3 : ¬ j.id ≤ lj.id := by omega
          clear hk00 hlt2 heq
          go_upto_region 8 with fail
          go_upto_region 9 with (first
            | (refine wpList_load_row rfl 41 (.tmp 12) rfl jb rfl 41 (j.cells v) (0, 0) _ J3.out.1 Try.underlying41 rfl (job_size j v) ?_)
            | (refine wpList_store_row rfl 41 (.tmp 9) (.tmp 67) rfl lb (j.cells v) rfl rfl 41 (lj.cells lv) J3.out.2 (job_size j v) rfl H1v.out ?_; simp only [Act.put]))
          go_wp2_with fail
          exact ⟨⟨k + 1, j, v, by go_num, by omega, ST⟩, by simp [intOf]; omega⟩
    · have hltI : ¬ (k : Int) < (n : Int) := by omega
      have BB : Hid (Below w.heap.size w wr) := HD.out.bel
      go_wp2_with fail
      go_ret
      exact ⟨rfl, BB.out⟩
end Go.Proofs.Ytonfdmbcbfpgdaa

namespace Go.Proofs.Ytonfdmbcbfpgdaa
open Go.RowKit
abbrev LtJ (a b : Jb) : Prop := a.du < b.du ∨ (a.du = b.du ∧ a.id < b.id)
theorem srt_eq : ∀ A B : List Jb, A.Pairwise LtJ → B.Pairwise LtJ → (∀ j, j ∈ A ↔ j ∈ B) → A = B
  | [], [], _, _, _ => rfl
  | [], b :: s, _, _, h => absurd ((h b).2 (List.mem_cons_self ..)) (by simp)
  | a :: r, [], _, _, h => absurd ((h a).1 (List.mem_cons_self ..)) (by simp)
  | a :: r, b :: s, hA, hB, h => by
    rw [List.pairwise_cons] at hA hB
    have hab : a = b := by
      rcases List.mem_cons.1 ((h a).1 (List.mem_cons_self ..)) with e | e
      · exact e
      · rcases List.mem_cons.1 ((h b).2 (List.mem_cons_self ..)) with e2 | e2
        · exact e2.symm
        · have h1 := hB.1 a e
          have h2 := hA.1 b e2
          omega
    subst hab
    congr 1
    refine srt_eq r s hA.2 hB.2 (fun j => ⟨fun hj => ?_, fun hj => ?_⟩)
    · rcases List.mem_cons.1 ((h j).1 (List.mem_cons_of_mem _ hj)) with e | e
      · have := hA.1 j hj
        rw [e] at this
        omega
      · exact e
    · rcases List.mem_cons.1 ((h j).2 (List.mem_cons_of_mem _ hj)) with e | e
      · have := hB.1 j hj
        rw [e] at this
        omega
      · exact e
theorem srt_take : ∀ (E : List Jb) (now : Int), E.Pairwise LtJ → E.filter (fun j => decide (j.du ≤ now)) = E.take (E.filter (fun j => decide (j.du ≤ now))).length
  | [], _, _ => rfl
  | a :: r, now, h => by
    rw [List.pairwise_cons] at h
    by_cases ha : a.du ≤ now
    · rw [List.filter_cons_of_pos (by simpa using ha), List.length_cons, List.take_succ_cons]
      congr 1
      exact srt_take r now h.2
    · have hn : r.filter (fun j => decide (j.du ≤ now)) = [] := List.filter_eq_nil_iff.2 (fun j hj => by
        have := h.1 j hj
        simp
        omega)
      rw [List.filter_cons_of_neg (by simpa using ha), hn]
      rfl
/-- What is over at one time is a beginning of what is over later. -/
theorem ovs_prefix {L : List En} {st now thn : Int} {A C : List Int} (hA : Ovs L st now A) (hC : Ovs L st thn C) (ht : now ≤ thn) : A.length ≤ C.length ∧ C.take A.length = A := by
  obtain ⟨E, rfl, h1, h2⟩ := hA
  obtain ⟨F, rfl, h3, h4⟩ := hC
  have e1 : E = F.filter (fun j => decide (j.du ≤ now)) := srt_eq _ _ h2 (List.Pairwise.sublist List.filter_sublist h4) (fun j => by
    rw [h1 j, List.mem_filter, h3 j]
    simp only [decide_eq_true_eq]
    constructor
    · rintro ⟨a, b, c⟩; exact ⟨⟨a, b, by omega⟩, c⟩
    · rintro ⟨⟨a, b, _⟩, c⟩; exact ⟨a, b, c⟩)
  have e2 := srt_take F now h4
  rw [← e1] at e2
  have e3 := congrArg List.length e2
  rw [List.length_take] at e3
  refine ⟨by rw [List.length_map, List.length_map]; omega, ?_⟩
  rw [List.length_map, ← List.map_take, ← e2]
/-- How many jobs have a property. -/
def cnJ (L : List En) (p : Jb → Bool) : Nat := (L.filter (fun e => p e.j)).length
theorem cnJ_snoc (L : List En) (e : En) (p : Jb → Bool) : cnJ (L ++ [e]) p = if p e.j = true then cnJ L p + 1 else cnJ L p := by
  unfold cnJ
  rw [List.filter_append]
  by_cases h : p e.j = true
  · rw [if_pos h, List.filter_cons_of_pos (by simpa using h), List.filter_nil]; simp
  · rw [if_neg h, List.filter_cons_of_neg (by simpa using h), List.filter_nil, List.append_nil]
theorem cnJ_le (L : List En) (p : Jb → Bool) : cnJ L p ≤ L.length := List.length_filter_le _ _
theorem cnJ_add (L : List En) (p q r : Jb → Bool) (h : ∀ e ∈ L, r e.j = (p e.j || q e.j) ∧ (p e.j && q e.j) = false) : cnJ L r = cnJ L p + cnJ L q := by
  unfold cnJ
  induction L with
  | nil => rfl
  | cons e s ih =>
    obtain ⟨h1, h2⟩ := h e (List.mem_cons_self ..)
    have ih := ih (fun y hy => h y (List.mem_cons_of_mem _ hy))
    rw [List.filter_cons, List.filter_cons, List.filter_cons, h1]
    cases hp : p e.j <;> cases hq : q e.j <;> rw [hp, hq] at h2 <;> simp at h2 ⊢ <;> omega
theorem cnJ_zero (L : List En) (p : Jb → Bool) (h : ∀ e ∈ L, p e.j = false) : cnJ L p = 0 := by
  unfold cnJ
  rw [List.filter_eq_nil_iff.2 (fun e he => by rw [h e he]; simp)]
  rfl
theorem cn_len {L : List En} (hs : L.Pairwise (fun a b => a.j.id < b.j.id)) {p : Jb → Bool} {E : List Jb} (h1 : ∀ j, j ∈ E ↔ (∃ e ∈ L, e.j = j) ∧ p j = true) (h2 : E.Pairwise LtJ) : E.length = cnJ L p := by
  have n1 : E.Nodup := by
    rw [List.nodup_iff_pairwise_ne]
    exact h2.imp (fun {a b} h e => by rw [e] at h; omega)
  have n2 : ((L.filter (fun e => p e.j)).map (fun e => e.j)).Nodup := by
    rw [List.nodup_iff_pairwise_ne, List.pairwise_map]
    exact (List.Pairwise.sublist List.filter_sublist hs).imp (fun {a b} h e => by rw [e] at h; omega)
  have m : ∀ j, j ∈ E ↔ j ∈ (L.filter (fun e => p e.j)).map (fun e => e.j) := fun j => by
    rw [h1 j, List.mem_map]
    constructor
    · rintro ⟨⟨e, he, rfl⟩, hp⟩
      exact ⟨e, List.mem_filter.2 ⟨he, hp⟩, rfl⟩
    · rintro ⟨e, he, rfl⟩
      obtain ⟨a, b⟩ := List.mem_filter.1 he
      exact ⟨⟨e, a, rfl⟩, b⟩
  have l1 := List.Nodup.length_le_of_subset n1 (fun j hj => (m j).1 hj)
  have l2 := List.Nodup.length_le_of_subset n2 (fun j hj => (m j).2 hj)
  rw [List.length_map] at l1 l2
  unfold cnJ
  omega
def dueP (st now : Int) (j : Jb) : Bool := decide (j.st = st) && decide (j.du ≤ now)
def stP (st : Int) (j : Jb) : Bool := decide (j.st = st)
def hoP (c : Int) (j : Jb) : Bool := decide (j.st = 3) && decide (j.ho = c)
def geP (c : Int) (j : Jb) : Bool := decide (j.st = 3) && decide (c ≤ j.ho)
theorem ovs_len {L : List En} (hs : L.Pairwise (fun a b => a.j.id < b.j.id)) {st now : Int} {A : List Int} (h : Ovs L st now A) : A.length = cnJ L (dueP st now) := by
  obtain ⟨E, rfl, h1, h2⟩ := h
  rw [List.length_map]
  exact cn_len hs (fun j => by rw [h1 j]; simp [dueP]) h2
theorem hds_len {L : List En} (hs : L.Pairwise (fun a b => a.j.id < b.j.id)) {c : Int} {A : List Int} (h : Hds L c A) : A.length = cnJ L (hoP c) := by
  obtain ⟨E, rfl, h1, h2⟩ := h
  rw [List.length_map]
  exact cn_len hs (fun j => by rw [h1 j]; simp [hoP]) h2
theorem ho_range {Y : Yd} {N : Nat} (iv : Iv Y N) {e : En} (he : e ∈ Y.L) (h3 : e.j.st = 3) : 0 ≤ e.j.ho ∧ e.j.ho < 64 := by
  have h := (iv.inv.ok e he).2.2.2.2
  unfold fitB at h
  simp only [Bool.and_eq_true] at h
  have h1 := h.1.1.1.1.1
  unfold hoB at h1
  rw [show (e.j.st == 3) = true by simp [h3], if_pos rfl] at h1
  simpa using h1
theorem ge_step (L : List En) (c : Int) : cnJ L (geP c) = cnJ L (hoP c) + cnJ L (geP (c + 1)) := cnJ_add L _ _ _ (fun e _ => by
  unfold geP hoP
  by_cases h3 : e.j.st = 3
  · by_cases h1 : e.j.ho = c
    · simp [h3, h1]
      omega
    · by_cases h2 : c ≤ e.j.ho
      · simp [h3, h1, h2]; omega
      · simp [h3, h1, h2]; omega
  · simp [h3])
theorem ge_zero {Y : Yd} {N : Nat} (iv : Iv Y N) : cnJ Y.L (geP 0) = cnJ Y.L (stP 3) := by
  unfold cnJ
  congr 1
  refine List.filter_congr (fun e he => ?_)
  unfold geP stP
  by_cases h3 : e.j.st = 3
  · have := ho_range iv he h3
    simp [h3]
    omega
  · simp [h3]
theorem ge_last {Y : Yd} {N : Nat} (iv : Iv Y N) : cnJ Y.L (geP 64) = 0 := cnJ_zero _ _ (fun e he => by
  unfold geP
  by_cases h3 : e.j.st = 3
  · have := ho_range iv he h3
    simp [h3]
    omega
  · simp [h3])
theorem Nums.rd {W : World} {B : Nat} {a : Option Addr} {n c : Nat} {l : List Int} (h : Nums W B (.slice a n c) l) : Rd W a l := fun _ _ hx => h.cell hx
theorem Rd.take {w : World} {a : Option Addr} {l : List Int} (h : Rd w a l) (n : Nat) : Rd w a (l.take n) := fun i x hx => by
  rw [List.getElem?_take] at hx
  split at hx
  · exact h i x hx
  · cases hx
end Go.Proofs.Ytonfdmbcbfpgdaa
