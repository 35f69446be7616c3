/-
  The walk of 'row'.
-/
import Derived.Test.YtccpaapbgdpghaaFromI
import Derived.Maps.AppendAt
namespace Go.Proofs.Ytccpaapbgdpghaa
open Go.RowKit

theorem info_ptrI : (Try.prog.info? 57).map (fun i => (i.zero, i.size, i.bytes)) = some (some (.pointer none), 1, 8) := by kernel_rfl
theorem neq_nil_inI (w : World) (d : Nat) (o : Option Nat) : (Op.equalIn (d + 1) 57 (ptrOf o) (.pointer none)).run Try.prog w = .ok (!o.isSome) w := by
  cases o <;> simp [Op.equalIn, run_underlying Try.underlying57, ptrOf]

set_option maxHeartbeats 4000000 in
set_option maxRecDepth 1000000 in
theorem rowI (w : World) (qb mb : Nat) (given : Int) (R : List Stand) (h : QueueAtI w qb mb given R) (hR : R.length ≤ 1073741824) :
    Calls Try.prog 27 #[.pointer (some ⟨qb, 0, none⟩)] w fun e w' => ∃ v, e = .returned v ∧ w'.ownsRow w.heap.size 57 1 v R.length (ptrs R) ∧ Below w.heap.size w w' := by
  obtain ⟨i0, hi, hz0, hz1, hz2⟩ := info_parts info_ptrI
  have q0 : w.cell? ⟨qb, 0, none⟩ = some (ptrOf (fst R none)) := by simp [World.cell?, h.link.box]
  have hql : qb < w.heap.size := (Array.getElem?_eq_some_iff.1 h.link.box).1
  obtain ⟨w1, hmk, hown, hgr⟩ := run_make_own (P := Try.prog) (w := w) w.heap.size 70 57 i0 (.pointer none) 1 Try.underlying70 hi hz0 hz1 .i64 .i64 R.length (by rw [hz2]; omega) (by unfold maxLen; omega) (Nat.le_refl _)
  have B1 : Below w.heap.size w w1 := ⟨hgr.os, hgr.tape, hgr.output, hgr.size, fun k hk => hgr.block k hk (by simp)⟩
  have q01 : w1.cell? ⟨qb, 0, none⟩ = some (ptrOf (fst R none)) := (B1.cell (p := ⟨qb, 0, none⟩) hql).trans q0
  have HOWN : Hid (w1.ownsRow w.heap.size 57 1 (.slice (some ⟨w.heap.size, 0, none⟩) 0 R.length) 0 []) := hown
  have HB1 : Hid (Below w.heap.size w w1) := B1
  have HL := lenI w qb mb given R h
  have HLH : Hid (Calls Try.prog 9 #[.pointer (some ⟨qb, 0, none⟩)] w fun e w' => e = .returned (.int .i64 (R.length : Int)) ∧ w' = w) := HL
  have HSEG : Hid (Seg 73 w none R none) := h.link.seg
  have hne : ∀ w' o, (binOp .neq 57 (ptrOf o) (.pointer none)).run Try.prog w' = .ok (.bool o.isSome) w' := fun w' o => by
    simp only [binOp]
    simp [show Op.equal 57 (ptrOf o) (.pointer none) = Op.equalIn (9999 + 1) 57 (ptrOf o) (.pointer none) from rfl, neq_nil_inI w' 9999 o]
  obtain ⟨pf, hpf⟩ : ∃ pf, pf = ptrOf (fst R none) := ⟨_, rfl⟩
  rw [← hpf] at q0 q01
  have HPF : Hid (pf = ptrOf (fst R none)) := hpf
  clear h hown hgr B1 HL hpf
  go_enter Try.func27, Try.ntmps27
  go_wp2_with fail
  refine HLH.out.mono ?_
  rintro e w' ⟨rfl, hW⟩
  have hW := hW.symm
  subst hW
  go_wp2_with fail
  go_loopg [3, 4] R.length (fun gk s3 s4 wr => ∃ (A B : List Stand), s4 = ptrOf (fst B none) ∧ B.length ≤ gk ∧ Hid (R = A ++ B) ∧ Hid (wr.ownsRow w.heap.size 57 1 s3 A.length (ptrs A)) ∧ Hid (Below w.heap.size w wr))
  case atStart => exact ⟨[], R, HPF.out, Nat.le_refl _, rfl, HOWN, HB1⟩
  case round =>
    clear HOWN HB1 q01 q0 hmk
    obtain ⟨A, B, rfl, hgk, HAB, HO, HB⟩ := hrel
    cases B with
    | nil =>
      rw [show ptrOf (fst [] none) = .pointer none from rfl]
      have h1 : (binOp .neq 57 (.pointer none) (.pointer none)).run Try.prog wr = .ok (.bool false) wr := hne wr none
      clear hne
      go_wp2_with fail
      go_ret
      have := HAB.out
      rw [List.append_nil] at this
      subst this
      exact ⟨_, rfl, HO.out, HB.out⟩
    | cons r B =>
      rw [show ptrOf (fst (r :: B) none) = .pointer (some ⟨r.blk, 0, none⟩) from rfl]
      have h1 : (binOp .neq 57 (.pointer (some ⟨r.blk, 0, none⟩)) (.pointer none)).run Try.prog wr = .ok (.bool true) wr := hne wr (some r.blk)
      clear hne
      have hseg := HSEG.out
      rw [HAB.out, seg_append] at hseg
      have hlt : r.blk < w.heap.size := (Array.getElem?_eq_some_iff.1 hseg.2.1).1
      have c3 : w.cell? ⟨r.blk, 3, none⟩ = some (ptrOf (fst B none)) := by simp [World.cell?, hseg.2.1, cellsAt]
      have HC3 : Hid (w.cell? ⟨r.blk, 3, none⟩ = some (ptrOf (fst B none))) := c3
      have hlen : A.length + 1 ≤ 1073741824 := by have := congrArg List.length HAB.out; simp at this; omega
      clear hseg c3
      have hzr := HB.out.size
      go_wp2_with (at_builtin; refine wpList_append_own_at _ rfl _ _ 70 rfl w.heap.size 57 i0 (.pointer none) 1 8 Try.underlying70 hi hz0 hz1 hz2 rfl (by decide) _ A.length (ptrs A) rfl (World.ownsRow.alloc HO.out _) ⟨wr.heap.size, 0, none⟩ 1 1 [.pointer (some ⟨r.blk, 0, none⟩)] rfl rfl (by intro j u hj; cases j with | zero => simp at hj; subst hj; simp [Addr.add] | succ j => simp at hj) (by intro u hu; simp at hu; subst hu; rfl) (by unfold maxLen; omega) (by omega) (by simp; omega) ?_; intro v' w2 hown2 hgr2 _ _; have hB2 : Below w.heap.size w w2 := (HB.out.alloc HB.out.size _).grown hgr2 (by simp; omega) (fun g e => (World.ownsRow.lt HO.out g e).1); have c32 := (hB2.cell (p := ⟨r.blk, 3, none⟩) hlt).trans HC3.out; have HB2 : Hid (Below w.heap.size w w2) := hB2; have HO2 : Hid (w2.ownsRow w.heap.size 57 1 v' (A.length + 1) (ptrs A ++ [.pointer (some ⟨r.blk, 0, none⟩)])) := hown2; clear hB2 hown2 hgr2)
      go_roundg B.length
      case measure => simp at hgk; omega
      case rel =>
        refine ⟨A ++ [r], B, rfl, Nat.le_refl _, ?_, ?_, HB2⟩
        · have := HAB.out
          exact (show R = A ++ [r] ++ B by rw [this]; simp)
        · have := HO2.out
          exact (show World.ownsRow _ _ _ _ _ _ _ by simpa [ptrs] using this)
end Go.Proofs.Ytccpaapbgdpghaa
