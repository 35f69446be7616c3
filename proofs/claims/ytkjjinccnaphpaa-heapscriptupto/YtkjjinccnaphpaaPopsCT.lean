/-
  The walks of Pop, Remove and Change, of things that are structs.
-/
import Derived.Test.YtkjjinccnaphpaaDropT
import Derived.Test.YtkjjinccnaphpaaTopCT
namespace Go.Proofs.Ytkjjinccnaphpaa
open Go.RowKit

theorem kept_two (w : World) (s : Nat) (a b : Value) : Kept (fun k => k = s) w ((w.setCell ⟨s, 0, none⟩ a).setCell ⟨s, 1, none⟩ b).drew :=
  ((Kept.setCell (fun k => k = s) w s 0 a rfl).trans (Kept.setCell (fun k => k = s) _ s 1 b rfl)).trans ⟨rfl, rfl, rfl, Nat.le_refl _, fun _ _ _ => rfl⟩
theorem kept_res (w : World) (s : Nat) (a b : Value) (o : Obj) : Kept (fun k => k = s) w (((w.setCell ⟨s, 0, none⟩ a).setCell ⟨s, 1, none⟩ b).alloc o).drew :=
  ((Kept.setCell (fun k => k = s) w s 0 a rfl).trans (Kept.setCell (fun k => k = s) _ s 1 b rfl)).trans (Kept.ofBelow ((Below.refl _ _).alloc (Nat.le_refl _) o).drew)

set_option maxHeartbeats 4000000 in
set_option maxRecDepth 1000000 in
theorem popT {f : FuncId} {caps : Array Value} {lt : Int × Int → Int × Int → Bool} {ok : Int × Int → Prop} {Fr : Nat → Prop} {St : Nat → World → Prop} (A : AskerT f caps lt ok Fr St)
    (w : World) (hb mb : Nat) (v : Value) (last : Int) (R : List (Int × Int × Int)) (n : Nat) (h : HeapAtT w hb v mb f caps last R) (hst : St n w) (hok : ∀ r ∈ R, ok r.2) (hfr : ∀ k, Mine hb v mb k → ¬ Fr k) (hR : R.length ≤ 1073741824) :
    Calls Try.prog 22 #[.pointer (some ⟨hb, 0, none⟩)] w fun e w' => e = .returned (topOfT R) ∧
      ∃ v', HeapAtT w' hb v' mb f caps last (popL lt R n).1 ∧ St (popL lt R n).2 w' ∧ Kept (fun k => Mine hb v mb k ∨ Fr k) w w' ∧ v'.ownBlock = v.ownBlock := by
  have HA : Hid (AskerT f caps lt ok Fr St) := A
  have HO : Hid (∀ r ∈ R, ok r.2) := hok
  have HF : Hid (∀ k, Mine hb v mb k → ¬ Fr k) := hfr
  obtain ⟨w0, hw0⟩ : ∃ w0, w0 = w.alloc (.cells #[.int .i64 0, .int .i64 0] 27) := ⟨_, rfl⟩
  have hB0 : Below w.heap.size w w0 := by rw [hw0]; exact (Below.refl _ w).alloc (Nat.le_refl _) _
  have h0 : HeapAtT w0 hb v mb f caps last R := h.kept (Kept.ofBelow (P := fun _ => False) hB0) (fun _ _ h => h)
  have HS : Hid (St n w0) := A.keep n w w0 hst hB0.size (fun k hk _ => hB0.block k hk)
  have HH : Hid (HeapAtT w0 hb v mb f caps last R) := h0
  have HT := topT w0 hb mb v f caps last R h0
  have HB0 : Hid (Below w.heap.size w w0) := hB0
  have HW0 : Hid (w0 = w.alloc (.cells #[.int .i64 0, .int .i64 0] 27)) := hw0
  have HR0 : Hid (w0.heap[w.heap.size]? = some (.cells #[.int .i64 0, .int .i64 0] 27 (0, 0))) := by rw [hw0]; exact heap_alloc_new w _
  have HFO : Hid (∀ k, Fr k → k < w.heap.size) := fun k hk => A.old n w k hst hk
  have HNM : Hid (∀ k, Mine hb v mb k → k < w.heap.size) := fun k hk => h.lt k hk
  clear A h hst hok hfr h0 hB0 hw0
  cases R with
  | nil =>
    have HTH : Hid (Calls Try.prog 14 #[.pointer (some ⟨hb, 0, none⟩)] w0 fun e w' => e = .returned (.tuple #[.int .i64 0, .agg #[.int .i64 0, .int .i64 0], .bool false]) ∧ Below w0.heap.size w0 w') := HT
    clear HT
    go_enter Try.func22, Try.ntmps22
    go_wp2_with fail
    rw [← HW0.out]
    refine HTH.out.mono ?_
    rintro e w1 ⟨rfl, hB⟩
    have HB : Hid (Below w0.heap.size w0 w1) := hB
    have hz : w.heap.size < w1.heap.size := Nat.lt_of_lt_of_le (Array.getElem?_eq_some_iff.1 HR0.out).1 hB.size
    have r0 : w1.heap[w.heap.size]? = some (.cells #[.int .i64 0, .int .i64 0] 27 (0, 0)) := (hB.block _ (Array.getElem?_eq_some_iff.1 HR0.out).1).trans HR0.out
    have c0 : w1.cell? ⟨w.heap.size, 0, none⟩ = some (.int .i64 0) := by simp [World.cell?, r0]
    have c1 : w1.cell? ⟨w.heap.size, 1, none⟩ = some (.int .i64 0) := by simp [World.cell?, r0]
    have f0 : w1.frozen? ⟨w.heap.size, 0, none⟩ = false := by simp [World.frozen?, r0]
    have f1 : w1.frozen? ⟨w.heap.size, 1, none⟩ = false := by simp [World.frozen?, r0]
    clear hB r0
    go_wp2_with fail
    go_region
    all_goals (
      go_wp2_with fail
      (try simp only [Exit.inBlock, Exit.then])
      refine bodyPost_ret (v := .tuple #[.int .i64 0, .agg #[.int .i64 0, .int .i64 0], .bool false]) ?_ rfl ?_
      · rw [results_tct rfl]
        go_simp
      · have hk := kept_res w1 w.heap.size (.int .i64 0) (.int .i64 0) (.cells #[.int .i64 0, .int .i64 0] 27)
        have hk1 : Kept (fun k => k = w.heap.size) w0 _ := (Kept.ofBelow HB.out).trans hk
        refine ⟨rfl, v, HH.out.kept hk1 (fun k hM e => by have := HNM.out k hM; omega), ?_, ?_, rfl⟩
        · refine HA.out.keep n w0 _ HS.out hk1.size (fun k hk' hF => hk1.block k hk' (fun e => ?_))
          have := HFO.out k hF
          omega
        · exact (Kept.ofBelow HB0.out).step hk1 (fun k hk' e => by omega))
  | cons r R =>
    obtain ⟨r1, r2⟩ := r
    have HTH : Hid (Calls Try.prog 14 #[.pointer (some ⟨hb, 0, none⟩)] w0 fun e w' => e = .returned (.tuple #[.int .i64 r1, valT r2, .bool true]) ∧ Below w0.heap.size w0 w') := HT
    clear HT
    unfold valT at HTH
    go_enter Try.func22, Try.ntmps22
    go_wp2_with fail
    rw [← HW0.out]
    refine HTH.out.mono ?_
    rintro e w1 ⟨rfl, hB⟩
    have HB : Hid (Below w0.heap.size w0 w1) := hB
    have hz : w.heap.size < w1.heap.size := Nat.lt_of_lt_of_le (Array.getElem?_eq_some_iff.1 HR0.out).1 hB.size
    have r0 : w1.heap[w.heap.size]? = some (.cells #[.int .i64 0, .int .i64 0] 27 (0, 0)) := (hB.block _ (Array.getElem?_eq_some_iff.1 HR0.out).1).trans HR0.out
    obtain ⟨wy, hwy⟩ : ∃ wy, wy = w1.alloc (.cells #[.int .i64 r2.1, .int .i64 r2.2] 27) := ⟨_, rfl⟩
    have HWY : Hid (wy = w1.alloc (.cells #[.int .i64 r2.1, .int .i64 r2.2] 27)) := hwy
    have By : Below w1.heap.size w1 wy := by rw [hwy]; exact (Below.refl _ w1).alloc (Nat.le_refl _) _
    have y0 : wy.heap[w1.heap.size]? = some (.cells #[.int .i64 r2.1, .int .i64 r2.2] 27 (0, 0)) := by rw [hwy]; exact heap_alloc_new w1 _
    have HB2 : Hid (Below w0.heap.size w0 wy) := hB.trans (By.mono hB.size)
    have HY : Hid (wy.heap[w.heap.size]? = some (.cells #[.int .i64 0, .int .i64 0] 27 (0, 0)) ∧ wy.heap[w1.heap.size]? = some (.cells #[.int .i64 r2.1, .int .i64 r2.2] 27 (0, 0))) := ⟨(By.block _ hz).trans r0, y0⟩
    clear hB r0 hwy By y0
    go_wp2_with fail
    rw [← HWY.out]
    refine (dropT HA.out wy hb mb v last ((r1, r2) :: R) 0 n (HH.out.kept (Kept.ofBelow (P := fun _ => False) HB2.out) (fun _ _ h => h)) (by simp) (HA.out.keep n w0 wy HS.out HB2.out.size (fun k hk _ => HB2.out.block k hk)) HO.out HF.out hR).mono ?_
    rintro e w2 ⟨rfl, v', h2, s2, k2, hv⟩
    have H2 : Hid (HeapAtT w2 hb v' mb f caps last (popL lt ((r1, r2) :: R) n).1 ∧ St (popL lt ((r1, r2) :: R) n).2 w2 ∧ Kept (fun k => Mine hb v mb k ∨ Fr k) w0 w2 ∧ v'.ownBlock = v.ownBlock) := ⟨h2, s2, (Kept.ofBelow HB2.out).trans k2, hv⟩
    have nf : ∀ k, w.heap.size ≤ k → ¬ (Mine hb v mb k ∨ Fr k) := fun k hk h => by
      rcases h with h | h
      · have := HNM.out k h; omega
      · have := HFO.out k h; omega
    have r0 := (k2.block _ (Array.getElem?_eq_some_iff.1 HY.out.1).1 (nf _ (Nat.le_refl _))).trans HY.out.1
    have y0 := (k2.block _ (Array.getElem?_eq_some_iff.1 HY.out.2).1 (nf _ (by omega))).trans HY.out.2
    have c0 : w2.cell? ⟨w.heap.size, 0, none⟩ = some (.int .i64 0) := by simp [World.cell?, r0]
    have c1 : w2.cell? ⟨w.heap.size, 1, none⟩ = some (.int .i64 0) := by simp [World.cell?, r0]
    have f0 : w2.frozen? ⟨w.heap.size, 0, none⟩ = false := by simp [World.frozen?, r0]
    have f1 : w2.frozen? ⟨w.heap.size, 1, none⟩ = false := by simp [World.frozen?, r0]
    have d0 : w2.cell? ⟨w1.heap.size, 0, none⟩ = some (.int .i64 r2.1) := by simp [World.cell?, y0]
    have d1 : w2.cell? ⟨w1.heap.size, 1, none⟩ = some (.int .i64 r2.2) := by simp [World.cell?, y0]
    clear h2 s2 k2 hv r0 y0 nf
    go_wp2_with fail
    go_region
    all_goals (
      go_wp2_with fail
      (try simp only [Exit.inBlock, Exit.then])
      refine bodyPost_ret (v := .tuple #[.int .i64 r1, valT r2, .bool true]) ?_ rfl ?_
      · rw [results_tct rfl]
        unfold valT
        go_simp
      · have hk := kept_two w2 w.heap.size (.int .i64 r2.1) (.int .i64 r2.2)
        refine ⟨rfl, v', H2.out.1.kept hk (fun k hM e => ?_), ?_, ?_, H2.out.2.2.2⟩
        · have hM' : Mine hb v mb k := by unfold Mine at hM ⊢; rw [H2.out.2.2.2] at hM; exact hM
          have := HNM.out k hM'; omega
        · refine HA.out.keep _ w2 _ H2.out.2.1 hk.size (fun k hk' hF => hk.block k hk' (fun e => ?_))
          have := HFO.out k hF
          omega
        · exact (Kept.ofBelow HB0.out).step ((H2.out.2.2.1.mono (Q := fun k => (Mine hb v mb k ∨ Fr k) ∨ k = w.heap.size) (fun k _ e => .inl e)).trans (hk.mono (fun k _ e => .inr e))) (fun k hk' e => by
            rcases e with e | e
            · exact e
            · omega))

set_option maxHeartbeats 4000000 in
set_option maxRecDepth 1000000 in
theorem removeT_no {f : FuncId} {caps : Array Value} (w : World) (hb mb : Nat) (v : Value) (last : Int) (R : List (Int × Int × Int)) (t : Int) (h : HeapAtT w hb v mb f caps last R) (ht : (Lit.int .i64 t).wf = true) (hn : R.find? (fun r => r.1 = t) = none) :
    Calls Try.prog 26 #[.pointer (some ⟨hb, 0, none⟩), .int .i64 t] w fun e w' => e = .returned (.tuple #[.agg #[.int .i64 0, .int .i64 0], .bool false]) ∧ Below w.heap.size w w' := by
  obtain ⟨w0, hw0⟩ : ∃ w0, w0 = w.alloc (.cells #[.int .i64 0, .int .i64 0] 27) := ⟨_, rfl⟩
  have hB0 : Below w.heap.size w w0 := by rw [hw0]; exact (Below.refl _ w).alloc (Nat.le_refl _) _
  have HG := getT w0 hb mb v f caps last R t (h.kept (Kept.ofBelow (P := fun _ => False) hB0) (fun _ _ h => h)) ht
  unfold getOfT at HG
  rw [hn] at HG
  have HGH : Hid (Calls Try.prog 24 #[.pointer (some ⟨hb, 0, none⟩), .int .i64 t] w0 fun e w' => e = .returned (.tuple #[.agg #[.int .i64 0, .int .i64 0], .bool false]) ∧ Below w0.heap.size w0 w') := HG
  have HB0 : Hid (Below w.heap.size w w0) := hB0
  have HW0 : Hid (w0 = w.alloc (.cells #[.int .i64 0, .int .i64 0] 27)) := hw0
  have HR0 : Hid (w0.heap[w.heap.size]? = some (.cells #[.int .i64 0, .int .i64 0] 27 (0, 0))) := by rw [hw0]; exact heap_alloc_new w _
  clear HG h hn hB0 hw0
  go_enter Try.func26, Try.ntmps26
  go_wp2_with fail
  rw [← HW0.out]
  refine HGH.out.mono ?_
  rintro e w1 ⟨rfl, hB⟩
  have HB : Hid (Below w0.heap.size w0 w1) := hB
  have hz : w.heap.size < w1.heap.size := Nat.lt_of_lt_of_le (Array.getElem?_eq_some_iff.1 HR0.out).1 hB.size
  have r0 : w1.heap[w.heap.size]? = some (.cells #[.int .i64 0, .int .i64 0] 27 (0, 0)) := (hB.block _ (Array.getElem?_eq_some_iff.1 HR0.out).1).trans HR0.out
  have c0 : w1.cell? ⟨w.heap.size, 0, none⟩ = some (.int .i64 0) := by simp [World.cell?, r0]
  have c1 : w1.cell? ⟨w.heap.size, 1, none⟩ = some (.int .i64 0) := by simp [World.cell?, r0]
  have f0 : w1.frozen? ⟨w.heap.size, 0, none⟩ = false := by simp [World.frozen?, r0]
  have f1 : w1.frozen? ⟨w.heap.size, 1, none⟩ = false := by simp [World.frozen?, r0]
  clear hB r0
  go_wp2_with fail
  (try simp only [Exit.inBlock, Exit.then])
  refine bodyPost_ret (v := .tuple #[.agg #[.int .i64 0, .int .i64 0], .bool false]) ?_ rfl ?_
  · rw [results_cell_tmp rfl]
    go_simp
  · have hk := kept_res w1 w.heap.size (.int .i64 0) (.int .i64 0) (.cells #[.int .i64 0, .int .i64 0] 27)
    have hk1 : Kept (fun k => k = w.heap.size) w _ := ((Kept.ofBelow HB0.out).step (Kept.ofBelow HB.out) (fun k _ e => e)).trans hk
    exact ⟨rfl, ⟨hk1.os, hk1.tape, hk1.output, hk1.size, fun k hk' => hk1.block k hk' (by omega)⟩⟩

set_option maxHeartbeats 4000000 in
set_option maxRecDepth 1000000 in
theorem removeT {f : FuncId} {caps : Array Value} {lt : Int × Int → Int × Int → Bool} {ok : Int × Int → Prop} {Fr : Nat → Prop} {St : Nat → World → Prop} (A : AskerT f caps lt ok Fr St)
    (w : World) (hb mb : Nat) (v : Value) (last : Int) (R : List (Int × Int × Int)) (i n : Nat) (r : Int × Int × Int) (h : HeapAtT w hb v mb f caps last R) (hi : R[i]? = some r) (hst : St n w) (hok : ∀ r ∈ R, ok r.2) (hfr : ∀ k, Mine hb v mb k → ¬ Fr k) (hR : R.length ≤ 1073741824) :
    Calls Try.prog 26 #[.pointer (some ⟨hb, 0, none⟩), .int .i64 r.1] w fun e w' => e = .returned (.tuple #[valT r.2, .bool true]) ∧
      ∃ v', HeapAtT w' hb v' mb f caps last (dropL lt R i n).1 ∧ St (dropL lt R i n).2 w' ∧ Kept (fun k => Mine hb v mb k ∨ Fr k) w w' ∧ v'.ownBlock = v.ownBlock := by
  have hwf := h.fit r (List.mem_of_getElem? hi)
  obtain ⟨g, htab, hs⟩ := h.tab
  have hgi := hs.1 i r hi
  have hf : R.find? (fun x => x.1 = r.1) = some r := by
    rcases hs.find r.1 with ⟨h1, _⟩ | ⟨j, r', h1, h2, h3, h4⟩
    · rw [h1] at hgi; cases hgi
    · have := hs.inj h2 hi h3
      subst this
      rw [hi] at h2; cases h2
      exact h4
  obtain ⟨w0, hw0⟩ : ∃ w0, w0 = w.alloc (.cells #[.int .i64 0, .int .i64 0] 27) := ⟨_, rfl⟩
  have hB0 : Below w.heap.size w w0 := by rw [hw0]; exact (Below.refl _ w).alloc (Nat.le_refl _) _
  have h0 : HeapAtT w0 hb v mb f caps last R := h.kept (Kept.ofBelow (P := fun _ => False) hB0) (fun _ _ h => h)
  have HG := getT w0 hb mb v f caps last R r.1 h0 hwf
  unfold getOfT at HG
  rw [hf] at HG
  obtain ⟨r1, r2⟩ := r
  have HGH : Hid (Calls Try.prog 24 #[.pointer (some ⟨hb, 0, none⟩), .int .i64 r1] w0 fun e w' => e = .returned (.tuple #[valT r2, .bool true]) ∧ Below w0.heap.size w0 w') := HG
  have HA : Hid (AskerT f caps lt ok Fr St) := A
  have HS : Hid (St n w0) := A.keep n w w0 hst hB0.size (fun k hk _ => hB0.block k hk)
  have HH : Hid (HeapAtT w0 hb v mb f caps last R) := h0
  have HO : Hid (∀ r ∈ R, ok r.2) := hok
  have HF : Hid (∀ k, Mine hb v mb k → ¬ Fr k) := hfr
  have HFO : Hid (∀ k, Fr k → k < w.heap.size) := fun k hk => A.old n w k hst hk
  have HNM : Hid (∀ k, Mine hb v mb k → k < w.heap.size) := fun k hk => h.lt k hk
  have HB0 : Hid (Below w.heap.size w w0) := hB0
  have HW0 : Hid (w0 = w.alloc (.cells #[.int .i64 0, .int .i64 0] 27)) := hw0
  have HR0 : Hid (w0.heap[w.heap.size]? = some (.cells #[.int .i64 0, .int .i64 0] 27 (0, 0))) := by rw [hw0]; exact heap_alloc_new w _
  have HI : Hid (i < R.length ∧ g r1 = some (i : Int)) := ⟨(List.getElem?_eq_some_iff.1 hi).1, hgi⟩
  have HTB : Hid (Tab w0 mb R.length g) := htab.block (hB0.block mb htab.lt)
  clear HG A h hst hok hfr hs hf hi hgi htab h0 hB0 hw0
  unfold valT at HGH
  go_enter Try.func26, Try.ntmps26
  go_wp2_with fail
  rw [← HW0.out]
  refine HGH.out.mono ?_
  rintro e w1 ⟨rfl, hB⟩
  have hz : w.heap.size < w1.heap.size := Nat.lt_of_lt_of_le (Array.getElem?_eq_some_iff.1 HR0.out).1 hB.size
  have r0 : w1.heap[w.heap.size]? = some (.cells #[.int .i64 0, .int .i64 0] 27 (0, 0)) := (hB.block _ (Array.getElem?_eq_some_iff.1 HR0.out).1).trans HR0.out
  obtain ⟨wy, hwy⟩ : ∃ wy, wy = w1.alloc (.cells #[.int .i64 r2.1, .int .i64 r2.2] 27) := ⟨_, rfl⟩
  have HWY : Hid (wy = w1.alloc (.cells #[.int .i64 r2.1, .int .i64 r2.2] 27)) := hwy
  have By : Below w1.heap.size w1 wy := by rw [hwy]; exact (Below.refl _ w1).alloc (Nat.le_refl _) _
  have y0 : wy.heap[w1.heap.size]? = some (.cells #[.int .i64 r2.1, .int .i64 r2.2] 27 (0, 0)) := by rw [hwy]; exact heap_alloc_new w1 _
  have HB2 : Hid (Below w0.heap.size w0 wy) := hB.trans (By.mono hB.size)
  have HY : Hid (wy.heap[w.heap.size]? = some (.cells #[.int .i64 0, .int .i64 0] 27 (0, 0)) ∧ wy.heap[w1.heap.size]? = some (.cells #[.int .i64 r2.1, .int .i64 r2.2] 27 (0, 0))) := ⟨(By.block _ hz).trans r0, y0⟩
  have HHy : Hid (HeapAtT wy hb v mb f caps last R) := HH.out.kept (Kept.ofBelow (P := fun _ => False) HB2.out) (fun _ _ h => h)
  have HT1 : Hid (Tab w1 mb R.length g) := HTB.out.block (hB.block mb HTB.out.lt)
  have HHw : HeapAtT w1 hb v mb f caps last R := HH.out.kept (Kept.ofBelow (P := fun _ => False) hB) (fun _ _ h => h)
  have k2 : w1.cell? ⟨hb, 2, none⟩ = some (.map (some mb)) := by simp [World.cell?, HHw.box]
  have hlt := cell_lt k2
  simp only [] at hlt
  clear hB r0 hwy By y0 HHw
  go_wp2_with (at_lookup; refine wpList_look1 rfl _ _ rfl mb R.length g r1 rfl rfl (HT1.out.block (heap_alloc_old w1 _ HT1.out.lt)) hwf ?_; rw [HI.out.2]; simp only [Option.getD_some])
  rw [← HWY.out]
  refine (dropT HA.out wy hb mb v last R i n HHy.out HI.out.1 (HA.out.keep n w0 wy HS.out HB2.out.size (fun k hk _ => HB2.out.block k hk)) HO.out HF.out hR).mono ?_
  rintro e w2 ⟨rfl, v', h2, s2, k2', hv⟩
  have H2 : Hid (HeapAtT w2 hb v' mb f caps last (dropL lt R i n).1 ∧ St (dropL lt R i n).2 w2 ∧ Kept (fun k => Mine hb v mb k ∨ Fr k) w0 w2 ∧ v'.ownBlock = v.ownBlock) := ⟨h2, s2, (Kept.ofBelow HB2.out).trans k2', hv⟩
  have nf : ∀ k, w.heap.size ≤ k → ¬ (Mine hb v mb k ∨ Fr k) := fun k hk h => by
    rcases h with h | h
    · have := HNM.out k h; omega
    · have := HFO.out k h; omega
  have r0 := (k2'.block _ (Array.getElem?_eq_some_iff.1 HY.out.1).1 (nf _ (Nat.le_refl _))).trans HY.out.1
  have y0 := (k2'.block _ (Array.getElem?_eq_some_iff.1 HY.out.2).1 (nf _ (by omega))).trans HY.out.2
  have c0 : w2.cell? ⟨w.heap.size, 0, none⟩ = some (.int .i64 0) := by simp [World.cell?, r0]
  have c1 : w2.cell? ⟨w.heap.size, 1, none⟩ = some (.int .i64 0) := by simp [World.cell?, r0]
  have f0 : w2.frozen? ⟨w.heap.size, 0, none⟩ = false := by simp [World.frozen?, r0]
  have f1 : w2.frozen? ⟨w.heap.size, 1, none⟩ = false := by simp [World.frozen?, r0]
  have d0 : w2.cell? ⟨w1.heap.size, 0, none⟩ = some (.int .i64 r2.1) := by simp [World.cell?, y0]
  have d1 : w2.cell? ⟨w1.heap.size, 1, none⟩ = some (.int .i64 r2.2) := by simp [World.cell?, y0]
  clear h2 s2 k2' hv r0 y0 nf k2
  go_wp2_with fail
  (try simp only [Exit.inBlock, Exit.then])
  refine bodyPost_ret (v := .tuple #[valT r2, .bool true]) ?_ rfl ?_
  · rw [results_cell_tmp rfl]
    unfold valT
    go_simp
  · have hk : Kept (fun k => k = w.heap.size) w2 ((w2.setCell ⟨w.heap.size, 0, none⟩ (.int .i64 r2.1)).setCell ⟨w.heap.size, 1, none⟩ (.int .i64 r2.2)) := (Kept.setCell (fun k => k = w.heap.size) w2 _ 0 _ rfl).trans (Kept.setCell (fun k => k = w.heap.size) _ _ 1 _ rfl)
    refine ⟨rfl, v', H2.out.1.kept hk (fun k hM e => ?_), ?_, ?_, H2.out.2.2.2⟩
    · have hM' : Mine hb v mb k := by unfold Mine at hM ⊢; rw [H2.out.2.2.2] at hM; exact hM
      have := HNM.out k hM'; omega
    · refine HA.out.keep _ w2 _ H2.out.2.1 hk.size (fun k hk' hF => hk.block k hk' (fun e => ?_))
      have := HFO.out k hF
      omega
    · exact (Kept.ofBelow HB0.out).step ((H2.out.2.2.1.mono (Q := fun k => (Mine hb v mb k ∨ Fr k) ∨ k = w.heap.size) (fun k _ e => .inl e)).trans (hk.mono (fun k _ e => .inr e))) (fun k hk' e => by
        rcases e with e | e
        · exact e
        · omega)
end Go.Proofs.Ytkjjinccnaphpaa
