/-
  The walk of Order by any key.
-/
import Derived.Test.YtkjjinccnaphpaaSortedW
import Derived.Test.YtkjjinccnaphpaaSameL
import Derived.Deep.OwnRows
namespace Go.Proofs.Ytkjjinccnaphpaa
open Go.RowKit Go.Sort

/-- The row of tickets, filled up to i. -/
def Filled (w : World) (tb n i : Nat) (S : List RowI) : Prop := ∃ cur : Array Value, w.heap[tb]? = some (.cells cur 3 (0, 0)) ∧ cur.size = n ∧ ∀ j r, j < i → S[j]? = some r → cur[j]? = some (.int .i64 r.1)
theorem Filled.done {w : World} {tb : Nat} {S : List RowI} {B : Nat} (h : Filled w tb S.length S.length S) (hB : B ≤ tb) (hm : S.length ≤ maxLen) : Nums w B (.slice (some ⟨tb, 0, none⟩) S.length S.length) (S.map (·.1)) := by
  obtain ⟨cur, h1, h2, h3⟩ := h
  have he : cur.toList = ints (S.map (·.1)) := by
    refine List.ext_getElem? fun j => ?_
    by_cases hj : j < S.length
    · have hr := List.getElem?_eq_getElem hj
      rw [Array.getElem?_toList, h3 j _ hj hr]
      simp [ints, hr]
    · rw [List.getElem?_eq_none (by simp; omega), List.getElem?_eq_none (by simp [ints]; omega)]
  refine ⟨by simp [ints], .inr ⟨tb, S.length, cur, by simp, hB, h1, by simp, hm, by omega, ?_⟩⟩
  rw [he, Nat.mul_one, List.take_of_length_le (by simp [ints])]

theorem HeapAtT.once {w : World} {hb mb : Nat} {v : Value} {f : FuncId} {caps : Array Value} {last : Int} {R : List RowI} (h : HeapAtT w hb v mb f caps last R) : Once R := by
  obtain ⟨g, _, hs⟩ := h.tab
  exact hs.once

set_option maxHeartbeats 4000000 in
set_option maxRecDepth 1000000 in
theorem orderW {f : FuncId} {ky : Int × Int → Int} (G : Grower f ky) (w : World) (hb mb : Nat) (v : Value) (last : Int) (R : List RowI) (h : HeapAtT w hb v mb f #[] last R) (hR : R.length ≤ 1073741823) :
    Calls Try.prog 44 #[.pointer (some ⟨hb, 0, none⟩)] w fun e w' => ∃ v' S, e = .returned v' ∧ Ranked ky R S ∧ Nums w' w.heap.size v' (S.map (·.1)) ∧ Below w.heap.size w w' := by
  have k0 : w.cell? ⟨hb, 0, none⟩ = some (.func (.func f) #[] #[]) := by simp [World.cell?, h.box]
  have k1 : w.cell? ⟨hb, 1, none⟩ = some v := by simp [World.cell?, h.box]
  have hlt := cell_lt k0
  simp only [] at hlt
  obtain ⟨i0, hi, hz0, hz1, hz2⟩ := info_parts info_int
  obtain ⟨av, cv, rfl⟩ := row_sliceT h.row
  obtain ⟨bc, hbc⟩ : ∃ bc, bc = w.heap.size := ⟨_, rfl⟩
  obtain ⟨w1, hw1⟩ : ∃ w1, w1 = w.alloc (.cells #[.pointer (some ⟨hb, 0, none⟩)] 24) := ⟨_, rfl⟩
  have B1 : Below w.heap.size w w1 := by rw [hw1]; exact (Below.refl _ w).alloc (Nat.le_refl _) _
  have x1 : w1.heap[bc]? = some (.cells #[.pointer (some ⟨hb, 0, none⟩)] 24 (0, 0)) := by rw [hw1, hbc]; exact heap_alloc_new w _
  have hbl : bc < w1.heap.size := (Array.getElem?_eq_some_iff.1 x1).1
  have hrow1 := (h.kept (Kept.ofBelow (P := fun _ => False) B1) (fun _ _ h => h)).row
  have HCL := rowsCloneT w1 (.slice av R.length cv) R hrow1 hR
  have HCH : Hid (Calls Try.prog 35 #[.slice av R.length cv] w1 fun e w' => ∃ v', e = .returned v' ∧ w'.ownsRow w1.heap.size 66 3 v' R.length (flatT R) ∧ Below w1.heap.size w1 w') := HCL
  have HW1 : Hid (w1 = w.alloc (.cells #[.pointer (some ⟨hb, 0, none⟩)] 24)) := hw1
  have HBC : Hid (bc = w.heap.size) := hbc
  have HO : Hid (Once R) := h.once
  have HB1 : Hid (Below w.heap.size w w1) := B1
  have HX1 : Hid (w1.heap[bc]? = some (.cells #[.pointer (some ⟨hb, 0, none⟩)] 24 (0, 0))) := x1
  clear h hrow1 HCL hw1 hbc B1 x1
  go_enter Try.func44, Try.ntmps44
  go_wp2_with fail
  rw [← HW1.out, ← HBC.out]
  refine HCH.out.mono ?_
  rintro e w2 ⟨v2, rfl, o2, B2⟩
  obtain ⟨a2, c2, rfl⟩ := row_sliceT o2
  have B02 : Below w.heap.size w w2 := HB1.out.trans (B2.mono HB1.out.size)
  have y0 : w2.cell? ⟨hb, 0, none⟩ = some (.func (.func f) #[] #[]) := (B02.cell (p := ⟨hb, 0, none⟩) hlt).trans k0
  have y1 : w2.cell? ⟨bc, 0, none⟩ = some (.pointer (some ⟨hb, 0, none⟩)) := by
    have := (B2.block bc hbl).trans HX1.out
    simp [World.cell?, this]
  have HSORT : Hid (Calls Try.prog 52 #[.slice a2 R.length c2, .func (.func 53) #[] #[.pointer (some ⟨bc, 0, none⟩)]] w2 fun e w' =>
      e = .returned (.tuple #[]) ∧ ∃ S, Ranked ky R S ∧ (S ≠ [] → ∃ g, a2 = some ⟨g, 0, none⟩ ∧ RowsAt w' g S) ∧ Below w.heap.size w w') := by
    rcases o2.2 with ⟨hv, h0⟩ | ⟨g, cap, cur, hv, hB, hg, h1, h2, h3, h4⟩
    · have hRn : R = [] := List.eq_nil_of_length_eq_zero h0
      subst hRn
      refine (AnyF.slices_SortFunc_none Try.sortRow a2 c2 _ w2).mono ?_
      rintro e w' ⟨rfl, rfl⟩
      exact ⟨rfl, [], ⟨List.Perm.refl _, List.Pairwise.nil⟩, fun h => absurd rfl h, B02⟩
    · simp only [Value.slice.injEq] at hv
      obtain ⟨rfl, _, rfl⟩ := hv
      have hwl := HB1.out.size
      refine (sorted_any G w2 hb bc g c2 cur R hg h4 hR HO.out y0 (by omega) y1 (by omega)).mono ?_
      rintro e w' ⟨rfl, S, hS, hrows, hk⟩
      exact ⟨rfl, S, hS, fun _ => ⟨g, rfl, hrows⟩, B02.trans (hk.below B02.size (fun k hk e => by omega))⟩
  clear o2 B2 B02 y0 y1
  go_wp2_with fail
  refine HSORT.out.mono ?_
  rintro e w3 ⟨rfl, S, hS, hrows, B3⟩
  have hSl : S.length = R.length := hS.perm.length_eq
  obtain ⟨tb, htb⟩ : ∃ tb, tb = w3.heap.size := ⟨_, rfl⟩
  obtain ⟨w4, hw4⟩ : ∃ w4, w4 = w3.alloc (.cells (madeCells #[.int .i64 0] R.length) 3) := ⟨_, rfl⟩
  have hmk : (Instr.makeSlice 63 (.int .i64 (R.length : Int)) (.int .i64 (R.length : Int))).run Try.prog w3 = .ok (.slice (some ⟨tb, 0, none⟩) R.length R.length) w4 := by
    rw [htb, hw4]
    exact run_make_row (P := Try.prog) 63 3 i0 (.int .i64 0) Try.underlying63 hi hz0 hz1 rfl .i64 .i64 R.length (by rw [hz2]; omega) (by omega) w3
  have HF4 : Hid (Filled w4 tb R.length 0 S) := ⟨_, by rw [hw4, htb]; exact heap_alloc_new w3 _, size_madeCells _ _, fun j r hj => by omega⟩
  have HB4 : Hid (Below w.heap.size w w4) := by rw [hw4]; exact B3.alloc B3.size _
  have HTB : Hid (w.heap.size ≤ tb) := (show w.heap.size ≤ tb by rw [htb]; exact B3.size)
  have HR4 : Hid (S ≠ [] → ∃ g, a2 = some ⟨g, 0, none⟩ ∧ RowsAt w4 g S ∧ g ≠ tb) := fun hne => by
    obtain ⟨g, h1, h2⟩ := hrows hne
    have hgl : g < w3.heap.size := by
      cases S with
      | nil => exact absurd rfl hne
      | cons r S =>
        have := h2 0 r rfl 0 _ rfl
        exact cell_lt this
    refine ⟨g, h1, fun i r hr k u hu => ?_, by omega⟩
    rw [hw4]
    exact (((Below.refl _ w3).alloc (Nat.le_refl _) _).cell (p := ⟨g, i * 3 + k, none⟩) hgl).trans (h2 i r hr k u hu)
  have HS : Hid (Ranked ky R S) := hS
  have HSL : Hid (S.length = R.length) := hSl
  clear hS hrows B3 hSl hw4 htb HSORT
  go_wp2_with fail
  go_loopg [20] R.length (fun gk s20 wr => ∃ i : Nat, s20 = .int .i64 (i : Int) ∧ i ≤ R.length ∧ R.length - i ≤ gk ∧ Hid (Below w.heap.size w wr) ∧ Hid (Filled wr tb R.length i S) ∧ Hid (S ≠ [] → ∃ g, a2 = some ⟨g, 0, none⟩ ∧ RowsAt wr g S ∧ g ≠ tb))
  case atStart => exact ⟨0, rfl, Nat.zero_le _, Nat.le_refl _, HB4, HF4, HR4⟩
  case round =>
    clear HB4 HF4 HR4 hmk
    obtain ⟨i, rfl, hil, hgk, HB, HF, HRW⟩ := hrel
    by_cases hlt' : i < R.length
    · have t1 : (i : Int) < (R.length : Int) := by omega
      have hSn : S ≠ [] := fun e => by have := HSL.out; rw [e] at this; simp at this; omega
      obtain ⟨r, hr⟩ : ∃ r, S[i]? = some r := ⟨_, List.getElem?_eq_getElem (by rw [HSL.out]; exact hlt')⟩
      obtain ⟨g, rfl, hrows, hgt⟩ := HRW.out hSn
      obtain ⟨r1, r2, r3⟩ := r
      have d0 := hrows i _ hr 0 _ rfl
      have d1 := hrows i _ hr 1 _ rfl
      have d2 := hrows i _ hr 2 _ rfl
      rw [Nat.add_zero] at d0
      obtain ⟨cur, f1, f2, f3⟩ := HF.out
      have cT : ∃ u, wr.cell? ⟨tb, i, none⟩ = some u := ⟨cur[i]'(by omega), by simp [World.cell?, f1, f2, hlt']⟩
      obtain ⟨uT, cT⟩ := cT
      have fT : wr.frozen? ⟨tb, i, none⟩ = false := by simp [World.frozen?, f1]
      have hgl := cell_lt d0
      have htl := cell_lt cT
      simp only [] at hgl htl
      have HX : Hid (S[i]? = some (r1, r2, r3)) := hr
      have HRO : Hid (RowsAt wr g S) := hrows
      clear hr hrows f1 f2 f3
      go_wp2_with fail
      go_roundg (R.length - (i + 1))
      case measure => omega
      case rel =>
        obtain ⟨cur, f1, f2, f3⟩ := HF.out
        have hset := set_cells f1 i (.int .i64 r1)
        have hks : Kept (fun k => k = tb) wr (wr.setCell ⟨tb, i, none⟩ (.int .i64 r1)) := Kept.setCell _ _ _ _ _ rfl
        obtain ⟨wn, hwn⟩ : ∃ wn, wn = wr.setCell ⟨tb, i, none⟩ (.int .i64 r1) := ⟨_, rfl⟩
        rw [← hwn] at hset hks ⊢
        have hba : Below wn.heap.size wn (wn.alloc (.cells #[.int .i64 r1, .int .i64 r2, .int .i64 r3] 66)) := (Below.refl _ wn).alloc (Nat.le_refl _) _
        have hbw : Below w.heap.size w wn := HB.out.trans (hks.below HB.out.size (fun k hk e => by have := HTB.out; omega))
        refine ⟨i + 1, by go_num, by omega, Nat.le_refl _, hbw.trans (hba.mono hbw.size), ⟨_, (hba.block tb (Array.getElem?_eq_some_iff.1 hset.1).1).trans hset.1, by simpa using f2, fun j r hj hr => ?_⟩, fun _ => ⟨g, rfl, fun j r hr k u hu => ?_, hgt⟩⟩
        · rw [Array.getElem?_setIfInBounds]
          by_cases e : i = j
          · subst e
            rw [if_pos rfl, if_pos (by omega)]
            rw [HX.out] at hr
            cases hr
            rfl
          · rw [if_neg e]
            exact f3 j r (by omega) hr
        · have h1 := hks.cell hgt (HRO.out j r hr k u hu)
          exact (hba.cell (p := ⟨g, j * 3 + k, none⟩) (cell_lt h1)).trans h1
    · have t1 : ¬ (i : Int) < (R.length : Int) := by omega
      obtain rfl : i = R.length := by omega
      have hF := HF.out
      rw [← HSL.out] at hF
      have hN := hF.done HTB.out (by rw [HSL.out]; unfold maxLen; omega)
      rw [HSL.out] at hN
      have HN : Hid (Nums wr w.heap.size (.slice (some ⟨tb, 0, none⟩) R.length R.length) (S.map (·.1))) := hN
      clear hF hN
      go_wp2_with fail
      go_ret
      exact ⟨_, rfl, S, HS.out, HN.out, HB.out⟩
end Go.Proofs.Ytkjjinccnaphpaa
