/-
  ByteW, LetterW, ByteAny.
-/
import Derived.Test.YteaccpolmmkclaaDoorHexW
import Derived.Test.YteaccpolmmkclaaDoorPanA
import Derived.Deep.RegionWith
import Derived.Test.YteaccpolmmkclaaDoorHandS
import Derived.Deep.Cut
import Derived.BigQuiet
import Derived.Deep.LoopGhost
namespace Go.Proofs.YteaccpolmmkclaaDoor
open Go.RowKit

theorem size_of {s : ByteArray} {l : List UInt8} (hs : s.data.toList = l) : s.size = l.length := by
  rw [← hs]
  exact Lib.size_eq s
theorem byte_at {s : ByteArray} {l : List UInt8} (hs : s.data.toList = l) (i : Nat) (c : UInt8) (h : l[i]? = some c) (hi : i < s.size) : s[i] = c := by
  rw [← hs] at h
  have h2 : s.data[i]? = some c := by simpa using h
  exact (Array.getElem?_eq_some_iff.1 h2).2

set_option maxHeartbeats 1000000 in
set_option maxRecDepth 1000000 in
theorem byte_plain (s : ByteArray) (c : UInt8) (r : List UInt8) (w : World) (hs : s.data.toList = c :: r) (hc : c ≠ 92) :
    Calls Tryd.prog 69 #[.string s] w fun e w' => e = .returned (.tuple #[.int .u8 (c.toNat : Int), .int .i64 1]) ∧ w' = w := by
  have hsz : 0 < s.size := by rw [size_of hs]; simp
  have h0 : s[0] = c := byte_at hs 0 c rfl hsz
  have hcn : c.toNat ≠ 92 := fun e => hc (UInt8.toNat_inj.1 e)
  have hne : ((c.toNat : Int) != 92) = true := by rw [bne_iff_ne]; omega
  have hsi : (0 : Int) < (s.size : Int) := by omega
  go_enter Tryd.func69, Tryd.ntmps69
  go_wp2_with fail
  go_ret2
  exact ⟨rfl, rfl⟩

theorem wrap_u8 {n : Int} (h0 : 0 ≤ n) (h1 : n < 256) : IntKind.u8.wrap n = n := by
  have e : IntKind.u8.wrap n = n % 256 := by simp [IntKind.wrap, IntKind.bits, IntKind.signed]
  rw [e]
  omega
theorem bits_all : ∀ m, m < 16 → ∀ n, n < 16 → bits BinOp.or IntKind.u8 ((m : Nat) * 16 : Int) ((n : Nat) : Int) = 16 * (m : Int) + (n : Int) := by decide +kernel
theorem hex_bits (a b : UInt8) (ha : a.toNat < 16) (hb : b.toNat < 16) : bits BinOp.or IntKind.u8 ((a.toNat : Int) * 16) (b.toNat : Int) = 16 * (a.toNat : Int) + b.toNat := bits_all _ ha _ hb

set_option maxHeartbeats 2000000 in
set_option maxRecDepth 1000000 in
theorem byte_hex (s : ByteArray) (x y a b : UInt8) (r : List UInt8) (w : World) (hs : s.data.toList = 92 :: 120 :: x :: y :: r) (hx : hexP x = some a) (hy : hexP y = some b) :
    Calls Tryd.prog 69 #[.string s] w fun e w' => e = .returned (.tuple #[.int .u8 (16 * (a.toNat : Int) + b.toNat), .int .i64 4]) ∧ ∃ m, w' = w.drewN m := by
  have hsz := size_of hs
  simp only [List.length_cons] at hsz
  have i3 : 3 < s.size := by omega
  have i0 : 0 < s.size := by omega
  have i1 : 1 < s.size := by omega
  have i2 : 2 < s.size := by omega
  have h0 : s[0] = 92 := byte_at hs 0 92 rfl i0
  have h1 : s[1] = 120 := byte_at hs 1 120 rfl i1
  have h2 : s[2] = x := byte_at hs 2 x rfl i2
  have h3 : s[3] = y := byte_at hs 3 y rfl i3
  have hsi : (4 : Int) ≤ (s.size : Int) := by omega
  have j0 : (0 : Int) < (s.size : Int) := by omega
  have j1 : (1 : Int) < (s.size : Int) := by omega
  have j2 : (2 : Int) < (s.size : Int) := by omega
  have j3 : (3 : Int) < (s.size : Int) := by omega
  have CX := hide (fun w => hex_yes x a w hx)
  have CY := hide (fun w => hex_yes y b w hy)
  have ha := hex_lt hx
  have hb := hex_lt hy
  clear hs hsz hx hy
  go_enter Tryd.func69, Tryd.ntmps69
  go_upto_region 4 with fail
  go_quiet ((first | (go_at_call_of 72 x; exact Calls.quiet_of_same (CX.out _)) | (go_at_call_of 72 y; exact Calls.quiet_of_same (CY.out _))))
  rw [hex_bits a b ha hb]
  go_wp2_with fail
  go_ret2
  exact ⟨rfl, _, rfl⟩

set_option maxHeartbeats 2000000 in
set_option maxRecDepth 1000000 in
theorem byte_hexno (s : ByteArray) (x y : UInt8) (r : List UInt8) (w : World) (hs : s.data.toList = 92 :: 120 :: x :: y :: r) (hn : hexP x = none ∨ hexP y = none) :
    Calls Tryd.prog 69 #[.string s] w fun e w' => e = pan 192 ∧ Below w.heap.size w w' := by
  have hsz := size_of hs
  simp only [List.length_cons] at hsz
  have i3 : 3 < s.size := by omega
  have i0 : 0 < s.size := by omega
  have i1 : 1 < s.size := by omega
  have i2 : 2 < s.size := by omega
  have h0 : s[0] = 92 := byte_at hs 0 92 rfl i0
  have h1 : s[1] = 120 := byte_at hs 1 120 rfl i1
  have h2 : s[2] = x := byte_at hs 2 x rfl i2
  have h3 : s[3] = y := byte_at hs 3 y rfl i3
  have hsi : (4 : Int) ≤ (s.size : Int) := by omega
  have j0 : (0 : Int) < (s.size : Int) := by omega
  have j1 : (1 : Int) < (s.size : Int) := by omega
  have j2 : (2 : Int) < (s.size : Int) := by omega
  have j3 : (3 : Int) < (s.size : Int) := by omega
  clear hs hsz
  cases hx : hexP x with
  | none =>
    have CX := hide (fun w => hex_no x w hx)
    unfold pan at *
    clear hx hn
    go_enter Tryd.func69, Tryd.ntmps69
    go_upto_region 4 with fail
    refine wp_region_held_drew (S := fun _ => True) (by kernel_rfl) trivial (fun _ => ?_)
    refine H_take (i := 0) (v := .string s) (some 19) rfl rfl (by kernel_rfl) (by kernel_rfl) (by kernel_rfl) (fun _ _ _ h => h) rfl (fun X hX => ?_) trivial ?_
    · simp [go_sem]
    simp only [Act.put, List.setIfInBounds_toArray, List.set_cons_zero, List.set_cons_succ]
    refine H_take (i := 1) (v := .int .u8 (x.toNat : Int)) (some 20) rfl rfl (by kernel_rfl) (by kernel_rfl) (by kernel_rfl) (fun _ _ _ h => h) rfl (fun X hX => ?_) trivial ?_
    · simp [go_sem, j2, h2]
    simp only [Act.put, List.setIfInBounds_toArray, List.set_cons_zero, List.set_cons_succ]
    refine H_take (i := 4) (v := .string s) (some 23) rfl rfl (by kernel_rfl) (by kernel_rfl) (by kernel_rfl) (fun _ _ _ h => h) rfl (fun X hX => ?_) trivial ?_
    · simp [go_sem]
    simp only [Act.put, List.setIfInBounds_toArray, List.set_cons_zero, List.set_cons_succ]
    refine H_take (i := 5) (v := .int .u8 (y.toNat : Int)) (some 24) rfl rfl (by kernel_rfl) (by kernel_rfl) (by kernel_rfl) (fun _ _ _ h => h) rfl (fun X hX => ?_) trivial ?_
    · simp [go_sem, j3, h3]
    simp only [Act.put, List.setIfInBounds_toArray, List.set_cons_zero, List.set_cons_succ]
    refine H_pan (i := 2) (f := 72) (args := #[.int .u8 (x.toNat : Int)]) rfl (by kernel_rfl) rfl (by simp [go_sem]) ((CX.out _).mono ?_)
    rintro e w1 ⟨rfl, rfl⟩
    exact ⟨_, rfl, rfl, rfl, (Below.refl _ w).drew⟩
  | some a =>
    have hy : hexP y = none := by
      rcases hn with hn | hn
      · rw [hx] at hn; cases hn
      · exact hn
    have CX := hide (fun w => hex_yes x a w hx)
    have CY := hide (fun w => hex_no y w hy)
    have ha := hex_lt hx
    have ha16 : IntKind.u8.wrap ((a.toNat : Int) * 16) = (a.toNat : Int) * 16 := wrap_u8 (by omega) (by omega)
    unfold pan at *
    clear hx hn hy
    go_enter Tryd.func69, Tryd.ntmps69
    go_upto_region 4 with fail
    refine wp_region_held_drew (S := fun _ => True) (by kernel_rfl) trivial (fun _ => ?_)
    refine H_take (i := 0) (v := .string s) (some 19) rfl rfl (by kernel_rfl) (by kernel_rfl) (by kernel_rfl) (fun _ _ _ h => h) rfl (fun X hX => ?_) trivial ?_
    · simp [go_sem]
    simp only [Act.put, List.setIfInBounds_toArray, List.set_cons_zero, List.set_cons_succ]
    refine H_take (i := 1) (v := .int .u8 (x.toNat : Int)) (some 20) rfl rfl (by kernel_rfl) (by kernel_rfl) (by kernel_rfl) (fun _ _ _ h => h) rfl (fun X hX => ?_) trivial ?_
    · simp [go_sem, j2, h2]
    simp only [Act.put, List.setIfInBounds_toArray, List.set_cons_zero, List.set_cons_succ]
    refine H_take (i := 4) (v := .string s) (some 23) rfl rfl (by kernel_rfl) (by kernel_rfl) (by kernel_rfl) (fun _ _ _ h => h) rfl (fun X hX => ?_) trivial ?_
    · simp [go_sem]
    simp only [Act.put, List.setIfInBounds_toArray, List.set_cons_zero, List.set_cons_succ]
    refine H_take (i := 5) (v := .int .u8 (y.toNat : Int)) (some 24) rfl rfl (by kernel_rfl) (by kernel_rfl) (by kernel_rfl) (fun _ _ _ h => h) rfl (fun X hX => ?_) trivial ?_
    · simp [go_sem, j3, h3]
    simp only [Act.put, List.setIfInBounds_toArray, List.set_cons_zero, List.set_cons_succ]
    refine H_call (i := 2) (f := 72) (args := #[.int .u8 (x.toNat : Int)]) (some 21) rfl rfl (by kernel_rfl) rfl (by simp [go_sem]) ((CX.out _).mono ?_)
    rintro e w1 ⟨rfl, rfl⟩
    refine ⟨_, rfl, trivial, ?_⟩
    simp only [Act.put, List.setIfInBounds_toArray, List.set_cons_zero, List.set_cons_succ]
    refine H_take (i := 3) (v := .int .u8 ((a.toNat : Int) * 16)) (some 22) rfl rfl (by kernel_rfl) (by kernel_rfl) (by kernel_rfl) (fun _ _ _ h => h) rfl (fun X hX => ?_) trivial ?_
    · simp [go_sem, ha16]
    simp only [Act.put, List.setIfInBounds_toArray, List.set_cons_zero, List.set_cons_succ]
    refine H_pan (i := 6) (f := 72) (args := #[.int .u8 (y.toNat : Int)]) rfl (by kernel_rfl) rfl (by simp [go_sem]) ((CY.out _).mono ?_)
    rintro e w1 ⟨rfl, rfl⟩
    exact ⟨_, rfl, rfl, rfl, (Below.refl _ w).drew⟩
end Go.Proofs.YteaccpolmmkclaaDoor

namespace Go.Proofs.YteaccpolmmkclaaDoor
open Go.RowKit

theorem ixL0 (w : World) : (Instr.index 97 (.agg #[.int .u8 115, .int .u8 32, .int .u8 114, .int .u8 13, .int .u8 110, .int .u8 10, .int .u8 92, .int .u8 92]) (.int .i64 0)).run Tryd.prog w = .ok (.agg #[.int .u8 115, .int .u8 32]) w := by kernel_rfl
theorem ixL1 (w : World) : (Instr.index 97 (.agg #[.int .u8 115, .int .u8 32, .int .u8 114, .int .u8 13, .int .u8 110, .int .u8 10, .int .u8 92, .int .u8 92]) (.int .i64 1)).run Tryd.prog w = .ok (.agg #[.int .u8 114, .int .u8 13]) w := by kernel_rfl
theorem ixL2 (w : World) : (Instr.index 97 (.agg #[.int .u8 115, .int .u8 32, .int .u8 114, .int .u8 13, .int .u8 110, .int .u8 10, .int .u8 92, .int .u8 92]) (.int .i64 2)).run Tryd.prog w = .ok (.agg #[.int .u8 110, .int .u8 10]) w := by kernel_rfl
theorem ixL3 (w : World) : (Instr.index 97 (.agg #[.int .u8 115, .int .u8 32, .int .u8 114, .int .u8 13, .int .u8 110, .int .u8 10, .int .u8 92, .int .u8 92]) (.int .i64 3)).run Tryd.prog w = .ok (.agg #[.int .u8 92, .int .u8 92]) w := by kernel_rfl
theorem Tabs.letter {w : World} (h : Tabs w) : w.cell? ⟨1, 0, none⟩ = some (.int .u8 115) ∧ w.cell? ⟨1, 1, none⟩ = some (.int .u8 32) ∧ w.cell? ⟨1, 2, none⟩ = some (.int .u8 114) ∧ w.cell? ⟨1, 3, none⟩ = some (.int .u8 13) ∧ w.cell? ⟨1, 4, none⟩ = some (.int .u8 110) ∧ w.cell? ⟨1, 5, none⟩ = some (.int .u8 10) ∧ w.cell? ⟨1, 6, none⟩ = some (.int .u8 92) ∧ w.cell? ⟨1, 7, none⟩ = some (.int .u8 92) := by
  obtain ⟨t, fz, hl⟩ := h.letters
  simp [World.cell?, hl, lettersA]
/-- What the table's k-th letter is. -/
def letN (k : Nat) : Nat := match k with | 0 => 115 | 1 => 114 | 2 => 110 | 3 => 92 | _ => 0
def letM (k : Nat) : Nat := match k with | 0 => 32 | 1 => 13 | 2 => 10 | 3 => 92 | _ => 0

set_option maxHeartbeats 4000000 in
set_option maxRecDepth 1000000 in
theorem byte_table (s : ByteArray) (d : UInt8) (r : List UInt8) (kk : Nat) (w : World) (T : Tabs w) (hs : s.data.toList = 92 :: d :: r) (hx : d ≠ 120 ∨ r.length < 2) (hk : kk ≤ 4) (hne : ∀ j, j < kk → letN j ≠ d.toNat) (heq : kk < 4 → letN kk = d.toNat) :
    Calls Tryd.prog 69 #[.string s] w fun e w' => e = (if kk < 4 then .returned (.tuple #[.int .u8 (letM kk : Int), .int .i64 2]) else pan 192) ∧ Below w.heap.size w w' := by
  have hsz := size_of hs
  simp only [List.length_cons] at hsz
  have i0 : 0 < s.size := by omega
  have i1 : 1 < s.size := by omega
  have h0 : s[0] = 92 := byte_at hs 0 92 rfl i0
  have h1 : s[1] = d := byte_at hs 1 d rfl i1
  have j0 : (0 : Int) < (s.size : Int) := by omega
  have j1 : (1 : Int) < (s.size : Int) := by omega
  have j2 : (2 : Int) ≤ (s.size : Int) := by omega
  obtain ⟨m, hm⟩ : ∃ m : Nat, d.toNat = m := ⟨_, rfl⟩
  have hx2 : ((s.size : Int) < 4) ∨ ((m : Int) == 120) = false := by
    rcases hx with hx | hx
    · right
      rw [beq_eq_false_iff_ne]
      intro e
      exact hx (UInt8.toNat_inj.1 (by rw [hm]; show m = 120; omega))
    · left; omega
  obtain ⟨c0, c1, c2, c3, c4, c5, c6, c7⟩ := T.letter
  rw [hm] at heq hne
  have HNE := hide hne
  have HEQ := hide heq
  have hx0 := ixL0
  have hx1 := ixL1
  have hx2' := ixL2
  have hx3 := ixL3
  unfold pan
  clear hs hsz hx hne heq
  go_enter Tryd.func69, Tryd.ntmps69
  rcases hx2 with hx2 | hx2
  · have hx4 : ¬ (4 : Int) ≤ (s.size : Int) := by omega
    go_wp2_with fail
    go_loopg [31] 4 (fun gk i wr => ∃ k : Nat, i = .int .i64 (k : Int) ∧ k ≤ kk ∧ 4 - k ≤ gk ∧ Hid (Below w.heap.size w wr))
    case atStart => exact ⟨0, rfl, Nat.zero_le _, by omega, Below.refl _ _⟩
    case round =>
      obtain ⟨k, rfl, hkk, hgk, HB⟩ := hrel
      have hz := HB.out.size
      clear c0 c1 c2 c3 c4 c5 c6 c7
      rcases (show k = 0 ∨ k = 1 ∨ k = 2 ∨ k = 3 ∨ k = 4 by omega) with rfl | rfl | rfl | rfl | rfl
      · obtain ⟨wb, hwb⟩ : ∃ wb, wr.alloc (.cells #[.int .u8 115, .int .u8 32] 96) = wb := ⟨_, rfl⟩
        have B2 : Below wr.heap.size wr wb := by rw [← hwb]; exact (Below.refl _ wr).alloc (Nat.le_refl _) _
        have xb : wb.heap[wr.heap.size]? = some (.cells #[.int .u8 115, .int .u8 32] 96 (0, 0)) := by rw [← hwb]; exact heap_alloc_new wr _
        obtain ⟨q, hq⟩ : ∃ q, wr.heap.size = q := ⟨_, rfl⟩
        rw [hq] at xb
        have d0 : wb.cell? ⟨q, 0, none⟩ = some (.int .u8 115) := by simp [World.cell?, xb]
        have d1 : wb.cell? ⟨q, 1, none⟩ = some (.int .u8 32) := by simp [World.cell?, xb]
        have HB2 : Hid (Below w.heap.size w wb) := HB.out.trans (B2.mono hz)
        by_cases hlt : 0 < kk
        · have hnm : ((115 : Int) == (m : Int)) = false := by
            have := HNE.out 0 hlt
            rw [beq_eq_false_iff_ne]
            simp only [letN] at this
            omega
          clear xb B2
          go_upto_region 9 with fail
          go_quiet (fail)
          generalize hWd : wb.drewN _ = Wd
          have B3 : Below wb.heap.size wb Wd := by rw [← hWd]; exact ⟨rfl, rfl, rfl, Nat.le_refl _, fun _ _ => rfl⟩
          have HB3 : Hid (Below w.heap.size w Wd) := HB2.out.trans (B3.mono HB2.out.size)
          clear hWd B3
          go_wp2_with fail
          go_roundg (4 - (0 + 1))
          case measure => omega
          case rel => exact ⟨0 + 1, by go_num, by omega, Nat.le_refl _, HB3⟩
        · have hke : kk = 0 := by omega
          have hnm : ((115 : Int) == (m : Int)) = true := by
            have := HEQ.out (by omega)
            rw [hke] at this
            simp only [letN] at this
            rw [beq_iff_eq]
            omega
          clear xb B2
          go_upto_region 9 with fail
          go_quiet (fail)
          generalize hWd : wb.drewN _ = Wd
          have B3 : Below wb.heap.size wb Wd := by rw [← hWd]; exact ⟨rfl, rfl, rfl, Nat.le_refl _, fun _ _ => rfl⟩
          have HB3 : Hid (Below w.heap.size w Wd) := HB2.out.trans (B3.mono HB2.out.size)
          have d2 : Wd.cell? ⟨q, 1, none⟩ = some (.int .u8 32) := (B3.cell (p := ⟨q, 1, none⟩) (cell_lt d1)).trans d1
          clear hWd B3 d0 d1
          go_wp2_with fail
          go_ret2
          exact ⟨by first | rfl | (rw [if_pos (by omega), hke]; rfl), HB3.out⟩
      · obtain ⟨wb, hwb⟩ : ∃ wb, wr.alloc (.cells #[.int .u8 114, .int .u8 13] 96) = wb := ⟨_, rfl⟩
        have B2 : Below wr.heap.size wr wb := by rw [← hwb]; exact (Below.refl _ wr).alloc (Nat.le_refl _) _
        have xb : wb.heap[wr.heap.size]? = some (.cells #[.int .u8 114, .int .u8 13] 96 (0, 0)) := by rw [← hwb]; exact heap_alloc_new wr _
        obtain ⟨q, hq⟩ : ∃ q, wr.heap.size = q := ⟨_, rfl⟩
        rw [hq] at xb
        have d0 : wb.cell? ⟨q, 0, none⟩ = some (.int .u8 114) := by simp [World.cell?, xb]
        have d1 : wb.cell? ⟨q, 1, none⟩ = some (.int .u8 13) := by simp [World.cell?, xb]
        have HB2 : Hid (Below w.heap.size w wb) := HB.out.trans (B2.mono hz)
        by_cases hlt : 1 < kk
        · have hnm : ((114 : Int) == (m : Int)) = false := by
            have := HNE.out 1 hlt
            rw [beq_eq_false_iff_ne]
            simp only [letN] at this
            omega
          clear xb B2
          go_upto_region 9 with fail
          go_quiet (fail)
          generalize hWd : wb.drewN _ = Wd
          have B3 : Below wb.heap.size wb Wd := by rw [← hWd]; exact ⟨rfl, rfl, rfl, Nat.le_refl _, fun _ _ => rfl⟩
          have HB3 : Hid (Below w.heap.size w Wd) := HB2.out.trans (B3.mono HB2.out.size)
          clear hWd B3
          go_wp2_with fail
          go_roundg (4 - (1 + 1))
          case measure => omega
          case rel => exact ⟨1 + 1, by go_num, by omega, Nat.le_refl _, HB3⟩
        · have hke : kk = 1 := by omega
          have hnm : ((114 : Int) == (m : Int)) = true := by
            have := HEQ.out (by omega)
            rw [hke] at this
            simp only [letN] at this
            rw [beq_iff_eq]
            omega
          clear xb B2
          go_upto_region 9 with fail
          go_quiet (fail)
          generalize hWd : wb.drewN _ = Wd
          have B3 : Below wb.heap.size wb Wd := by rw [← hWd]; exact ⟨rfl, rfl, rfl, Nat.le_refl _, fun _ _ => rfl⟩
          have HB3 : Hid (Below w.heap.size w Wd) := HB2.out.trans (B3.mono HB2.out.size)
          have d2 : Wd.cell? ⟨q, 1, none⟩ = some (.int .u8 13) := (B3.cell (p := ⟨q, 1, none⟩) (cell_lt d1)).trans d1
          clear hWd B3 d0 d1
          go_wp2_with fail
          go_ret2
          exact ⟨by first | rfl | (rw [if_pos (by omega), hke]; rfl), HB3.out⟩
      · obtain ⟨wb, hwb⟩ : ∃ wb, wr.alloc (.cells #[.int .u8 110, .int .u8 10] 96) = wb := ⟨_, rfl⟩
        have B2 : Below wr.heap.size wr wb := by rw [← hwb]; exact (Below.refl _ wr).alloc (Nat.le_refl _) _
        have xb : wb.heap[wr.heap.size]? = some (.cells #[.int .u8 110, .int .u8 10] 96 (0, 0)) := by rw [← hwb]; exact heap_alloc_new wr _
        obtain ⟨q, hq⟩ : ∃ q, wr.heap.size = q := ⟨_, rfl⟩
        rw [hq] at xb
        have d0 : wb.cell? ⟨q, 0, none⟩ = some (.int .u8 110) := by simp [World.cell?, xb]
        have d1 : wb.cell? ⟨q, 1, none⟩ = some (.int .u8 10) := by simp [World.cell?, xb]
        have HB2 : Hid (Below w.heap.size w wb) := HB.out.trans (B2.mono hz)
        by_cases hlt : 2 < kk
        · have hnm : ((110 : Int) == (m : Int)) = false := by
            have := HNE.out 2 hlt
            rw [beq_eq_false_iff_ne]
            simp only [letN] at this
            omega
          clear xb B2
          go_upto_region 9 with fail
          go_quiet (fail)
          generalize hWd : wb.drewN _ = Wd
          have B3 : Below wb.heap.size wb Wd := by rw [← hWd]; exact ⟨rfl, rfl, rfl, Nat.le_refl _, fun _ _ => rfl⟩
          have HB3 : Hid (Below w.heap.size w Wd) := HB2.out.trans (B3.mono HB2.out.size)
          clear hWd B3
          go_wp2_with fail
          go_roundg (4 - (2 + 1))
          case measure => omega
          case rel => exact ⟨2 + 1, by go_num, by omega, Nat.le_refl _, HB3⟩
        · have hke : kk = 2 := by omega
          have hnm : ((110 : Int) == (m : Int)) = true := by
            have := HEQ.out (by omega)
            rw [hke] at this
            simp only [letN] at this
            rw [beq_iff_eq]
            omega
          clear xb B2
          go_upto_region 9 with fail
          go_quiet (fail)
          generalize hWd : wb.drewN _ = Wd
          have B3 : Below wb.heap.size wb Wd := by rw [← hWd]; exact ⟨rfl, rfl, rfl, Nat.le_refl _, fun _ _ => rfl⟩
          have HB3 : Hid (Below w.heap.size w Wd) := HB2.out.trans (B3.mono HB2.out.size)
          have d2 : Wd.cell? ⟨q, 1, none⟩ = some (.int .u8 10) := (B3.cell (p := ⟨q, 1, none⟩) (cell_lt d1)).trans d1
          clear hWd B3 d0 d1
          go_wp2_with fail
          go_ret2
          exact ⟨by first | rfl | (rw [if_pos (by omega), hke]; rfl), HB3.out⟩
      · obtain ⟨wb, hwb⟩ : ∃ wb, wr.alloc (.cells #[.int .u8 92, .int .u8 92] 96) = wb := ⟨_, rfl⟩
        have B2 : Below wr.heap.size wr wb := by rw [← hwb]; exact (Below.refl _ wr).alloc (Nat.le_refl _) _
        have xb : wb.heap[wr.heap.size]? = some (.cells #[.int .u8 92, .int .u8 92] 96 (0, 0)) := by rw [← hwb]; exact heap_alloc_new wr _
        obtain ⟨q, hq⟩ : ∃ q, wr.heap.size = q := ⟨_, rfl⟩
        rw [hq] at xb
        have d0 : wb.cell? ⟨q, 0, none⟩ = some (.int .u8 92) := by simp [World.cell?, xb]
        have d1 : wb.cell? ⟨q, 1, none⟩ = some (.int .u8 92) := by simp [World.cell?, xb]
        have HB2 : Hid (Below w.heap.size w wb) := HB.out.trans (B2.mono hz)
        by_cases hlt : 3 < kk
        · have hnm : ((92 : Int) == (m : Int)) = false := by
            have := HNE.out 3 hlt
            rw [beq_eq_false_iff_ne]
            simp only [letN] at this
            omega
          clear xb B2
          go_upto_region 9 with fail
          go_quiet (fail)
          generalize hWd : wb.drewN _ = Wd
          have B3 : Below wb.heap.size wb Wd := by rw [← hWd]; exact ⟨rfl, rfl, rfl, Nat.le_refl _, fun _ _ => rfl⟩
          have HB3 : Hid (Below w.heap.size w Wd) := HB2.out.trans (B3.mono HB2.out.size)
          clear hWd B3
          go_wp2_with fail
          go_roundg (4 - (3 + 1))
          case measure => omega
          case rel => exact ⟨3 + 1, by go_num, by omega, Nat.le_refl _, HB3⟩
        · have hke : kk = 3 := by omega
          have hnm : ((92 : Int) == (m : Int)) = true := by
            have := HEQ.out (by omega)
            rw [hke] at this
            simp only [letN] at this
            rw [beq_iff_eq]
            omega
          clear xb B2
          go_upto_region 9 with fail
          go_quiet (fail)
          generalize hWd : wb.drewN _ = Wd
          have B3 : Below wb.heap.size wb Wd := by rw [← hWd]; exact ⟨rfl, rfl, rfl, Nat.le_refl _, fun _ _ => rfl⟩
          have HB3 : Hid (Below w.heap.size w Wd) := HB2.out.trans (B3.mono HB2.out.size)
          have d2 : Wd.cell? ⟨q, 1, none⟩ = some (.int .u8 92) := (B3.cell (p := ⟨q, 1, none⟩) (cell_lt d1)).trans d1
          clear hWd B3 d0 d1
          go_wp2_with fail
          go_ret2
          exact ⟨by first | rfl | (rw [if_pos (by omega), hke]; rfl), HB3.out⟩
      · have hk4 : kk = 4 := by omega
        subst hk4
        go_wp2_with fail
        exact ⟨rfl, by first | rfl | simp, HB.out⟩
  · by_cases hx4 : (4 : Int) ≤ (s.size : Int)
    · skip
      go_wp2_with fail
      go_loopg [31] 4 (fun gk i wr => ∃ k : Nat, i = .int .i64 (k : Int) ∧ k ≤ kk ∧ 4 - k ≤ gk ∧ Hid (Below w.heap.size w wr))
      case atStart => exact ⟨0, rfl, Nat.zero_le _, by omega, Below.refl _ _⟩
      case round =>
        obtain ⟨k, rfl, hkk, hgk, HB⟩ := hrel
        have hz := HB.out.size
        clear c0 c1 c2 c3 c4 c5 c6 c7
        rcases (show k = 0 ∨ k = 1 ∨ k = 2 ∨ k = 3 ∨ k = 4 by omega) with rfl | rfl | rfl | rfl | rfl
        · obtain ⟨wb, hwb⟩ : ∃ wb, wr.alloc (.cells #[.int .u8 115, .int .u8 32] 96) = wb := ⟨_, rfl⟩
          have B2 : Below wr.heap.size wr wb := by rw [← hwb]; exact (Below.refl _ wr).alloc (Nat.le_refl _) _
          have xb : wb.heap[wr.heap.size]? = some (.cells #[.int .u8 115, .int .u8 32] 96 (0, 0)) := by rw [← hwb]; exact heap_alloc_new wr _
          obtain ⟨q, hq⟩ : ∃ q, wr.heap.size = q := ⟨_, rfl⟩
          rw [hq] at xb
          have d0 : wb.cell? ⟨q, 0, none⟩ = some (.int .u8 115) := by simp [World.cell?, xb]
          have d1 : wb.cell? ⟨q, 1, none⟩ = some (.int .u8 32) := by simp [World.cell?, xb]
          have HB2 : Hid (Below w.heap.size w wb) := HB.out.trans (B2.mono hz)
          by_cases hlt : 0 < kk
          · have hnm : ((115 : Int) == (m : Int)) = false := by
              have := HNE.out 0 hlt
              rw [beq_eq_false_iff_ne]
              simp only [letN] at this
              omega
            clear xb B2
            go_upto_region 9 with fail
            go_quiet (fail)
            generalize hWd : wb.drewN _ = Wd
            have B3 : Below wb.heap.size wb Wd := by rw [← hWd]; exact ⟨rfl, rfl, rfl, Nat.le_refl _, fun _ _ => rfl⟩
            have HB3 : Hid (Below w.heap.size w Wd) := HB2.out.trans (B3.mono HB2.out.size)
            clear hWd B3
            go_wp2_with fail
            go_roundg (4 - (0 + 1))
            case measure => omega
            case rel => exact ⟨0 + 1, by go_num, by omega, Nat.le_refl _, HB3⟩
          · have hke : kk = 0 := by omega
            have hnm : ((115 : Int) == (m : Int)) = true := by
              have := HEQ.out (by omega)
              rw [hke] at this
              simp only [letN] at this
              rw [beq_iff_eq]
              omega
            clear xb B2
            go_upto_region 9 with fail
            go_quiet (fail)
            generalize hWd : wb.drewN _ = Wd
            have B3 : Below wb.heap.size wb Wd := by rw [← hWd]; exact ⟨rfl, rfl, rfl, Nat.le_refl _, fun _ _ => rfl⟩
            have HB3 : Hid (Below w.heap.size w Wd) := HB2.out.trans (B3.mono HB2.out.size)
            have d2 : Wd.cell? ⟨q, 1, none⟩ = some (.int .u8 32) := (B3.cell (p := ⟨q, 1, none⟩) (cell_lt d1)).trans d1
            clear hWd B3 d0 d1
            go_wp2_with fail
            go_ret2
            exact ⟨by first | rfl | (rw [if_pos (by omega), hke]; rfl), HB3.out⟩
        · obtain ⟨wb, hwb⟩ : ∃ wb, wr.alloc (.cells #[.int .u8 114, .int .u8 13] 96) = wb := ⟨_, rfl⟩
          have B2 : Below wr.heap.size wr wb := by rw [← hwb]; exact (Below.refl _ wr).alloc (Nat.le_refl _) _
          have xb : wb.heap[wr.heap.size]? = some (.cells #[.int .u8 114, .int .u8 13] 96 (0, 0)) := by rw [← hwb]; exact heap_alloc_new wr _
          obtain ⟨q, hq⟩ : ∃ q, wr.heap.size = q := ⟨_, rfl⟩
          rw [hq] at xb
          have d0 : wb.cell? ⟨q, 0, none⟩ = some (.int .u8 114) := by simp [World.cell?, xb]
          have d1 : wb.cell? ⟨q, 1, none⟩ = some (.int .u8 13) := by simp [World.cell?, xb]
          have HB2 : Hid (Below w.heap.size w wb) := HB.out.trans (B2.mono hz)
          by_cases hlt : 1 < kk
          · have hnm : ((114 : Int) == (m : Int)) = false := by
              have := HNE.out 1 hlt
              rw [beq_eq_false_iff_ne]
              simp only [letN] at this
              omega
            clear xb B2
            go_upto_region 9 with fail
            go_quiet (fail)
            generalize hWd : wb.drewN _ = Wd
            have B3 : Below wb.heap.size wb Wd := by rw [← hWd]; exact ⟨rfl, rfl, rfl, Nat.le_refl _, fun _ _ => rfl⟩
            have HB3 : Hid (Below w.heap.size w Wd) := HB2.out.trans (B3.mono HB2.out.size)
            clear hWd B3
            go_wp2_with fail
            go_roundg (4 - (1 + 1))
            case measure => omega
            case rel => exact ⟨1 + 1, by go_num, by omega, Nat.le_refl _, HB3⟩
          · have hke : kk = 1 := by omega
            have hnm : ((114 : Int) == (m : Int)) = true := by
              have := HEQ.out (by omega)
              rw [hke] at this
              simp only [letN] at this
              rw [beq_iff_eq]
              omega
            clear xb B2
            go_upto_region 9 with fail
            go_quiet (fail)
            generalize hWd : wb.drewN _ = Wd
            have B3 : Below wb.heap.size wb Wd := by rw [← hWd]; exact ⟨rfl, rfl, rfl, Nat.le_refl _, fun _ _ => rfl⟩
            have HB3 : Hid (Below w.heap.size w Wd) := HB2.out.trans (B3.mono HB2.out.size)
            have d2 : Wd.cell? ⟨q, 1, none⟩ = some (.int .u8 13) := (B3.cell (p := ⟨q, 1, none⟩) (cell_lt d1)).trans d1
            clear hWd B3 d0 d1
            go_wp2_with fail
            go_ret2
            exact ⟨by first | rfl | (rw [if_pos (by omega), hke]; rfl), HB3.out⟩
        · obtain ⟨wb, hwb⟩ : ∃ wb, wr.alloc (.cells #[.int .u8 110, .int .u8 10] 96) = wb := ⟨_, rfl⟩
          have B2 : Below wr.heap.size wr wb := by rw [← hwb]; exact (Below.refl _ wr).alloc (Nat.le_refl _) _
          have xb : wb.heap[wr.heap.size]? = some (.cells #[.int .u8 110, .int .u8 10] 96 (0, 0)) := by rw [← hwb]; exact heap_alloc_new wr _
          obtain ⟨q, hq⟩ : ∃ q, wr.heap.size = q := ⟨_, rfl⟩
          rw [hq] at xb
          have d0 : wb.cell? ⟨q, 0, none⟩ = some (.int .u8 110) := by simp [World.cell?, xb]
          have d1 : wb.cell? ⟨q, 1, none⟩ = some (.int .u8 10) := by simp [World.cell?, xb]
          have HB2 : Hid (Below w.heap.size w wb) := HB.out.trans (B2.mono hz)
          by_cases hlt : 2 < kk
          · have hnm : ((110 : Int) == (m : Int)) = false := by
              have := HNE.out 2 hlt
              rw [beq_eq_false_iff_ne]
              simp only [letN] at this
              omega
            clear xb B2
            go_upto_region 9 with fail
            go_quiet (fail)
            generalize hWd : wb.drewN _ = Wd
            have B3 : Below wb.heap.size wb Wd := by rw [← hWd]; exact ⟨rfl, rfl, rfl, Nat.le_refl _, fun _ _ => rfl⟩
            have HB3 : Hid (Below w.heap.size w Wd) := HB2.out.trans (B3.mono HB2.out.size)
            clear hWd B3
            go_wp2_with fail
            go_roundg (4 - (2 + 1))
            case measure => omega
            case rel => exact ⟨2 + 1, by go_num, by omega, Nat.le_refl _, HB3⟩
          · have hke : kk = 2 := by omega
            have hnm : ((110 : Int) == (m : Int)) = true := by
              have := HEQ.out (by omega)
              rw [hke] at this
              simp only [letN] at this
              rw [beq_iff_eq]
              omega
            clear xb B2
            go_upto_region 9 with fail
            go_quiet (fail)
            generalize hWd : wb.drewN _ = Wd
            have B3 : Below wb.heap.size wb Wd := by rw [← hWd]; exact ⟨rfl, rfl, rfl, Nat.le_refl _, fun _ _ => rfl⟩
            have HB3 : Hid (Below w.heap.size w Wd) := HB2.out.trans (B3.mono HB2.out.size)
            have d2 : Wd.cell? ⟨q, 1, none⟩ = some (.int .u8 10) := (B3.cell (p := ⟨q, 1, none⟩) (cell_lt d1)).trans d1
            clear hWd B3 d0 d1
            go_wp2_with fail
            go_ret2
            exact ⟨by first | rfl | (rw [if_pos (by omega), hke]; rfl), HB3.out⟩
        · obtain ⟨wb, hwb⟩ : ∃ wb, wr.alloc (.cells #[.int .u8 92, .int .u8 92] 96) = wb := ⟨_, rfl⟩
          have B2 : Below wr.heap.size wr wb := by rw [← hwb]; exact (Below.refl _ wr).alloc (Nat.le_refl _) _
          have xb : wb.heap[wr.heap.size]? = some (.cells #[.int .u8 92, .int .u8 92] 96 (0, 0)) := by rw [← hwb]; exact heap_alloc_new wr _
          obtain ⟨q, hq⟩ : ∃ q, wr.heap.size = q := ⟨_, rfl⟩
          rw [hq] at xb
          have d0 : wb.cell? ⟨q, 0, none⟩ = some (.int .u8 92) := by simp [World.cell?, xb]
          have d1 : wb.cell? ⟨q, 1, none⟩ = some (.int .u8 92) := by simp [World.cell?, xb]
          have HB2 : Hid (Below w.heap.size w wb) := HB.out.trans (B2.mono hz)
          by_cases hlt : 3 < kk
          · have hnm : ((92 : Int) == (m : Int)) = false := by
              have := HNE.out 3 hlt
              rw [beq_eq_false_iff_ne]
              simp only [letN] at this
              omega
            clear xb B2
            go_upto_region 9 with fail
            go_quiet (fail)
            generalize hWd : wb.drewN _ = Wd
            have B3 : Below wb.heap.size wb Wd := by rw [← hWd]; exact ⟨rfl, rfl, rfl, Nat.le_refl _, fun _ _ => rfl⟩
            have HB3 : Hid (Below w.heap.size w Wd) := HB2.out.trans (B3.mono HB2.out.size)
            clear hWd B3
            go_wp2_with fail
            go_roundg (4 - (3 + 1))
            case measure => omega
            case rel => exact ⟨3 + 1, by go_num, by omega, Nat.le_refl _, HB3⟩
          · have hke : kk = 3 := by omega
            have hnm : ((92 : Int) == (m : Int)) = true := by
              have := HEQ.out (by omega)
              rw [hke] at this
              simp only [letN] at this
              rw [beq_iff_eq]
              omega
            clear xb B2
            go_upto_region 9 with fail
            go_quiet (fail)
            generalize hWd : wb.drewN _ = Wd
            have B3 : Below wb.heap.size wb Wd := by rw [← hWd]; exact ⟨rfl, rfl, rfl, Nat.le_refl _, fun _ _ => rfl⟩
            have HB3 : Hid (Below w.heap.size w Wd) := HB2.out.trans (B3.mono HB2.out.size)
            have d2 : Wd.cell? ⟨q, 1, none⟩ = some (.int .u8 92) := (B3.cell (p := ⟨q, 1, none⟩) (cell_lt d1)).trans d1
            clear hWd B3 d0 d1
            go_wp2_with fail
            go_ret2
            exact ⟨by first | rfl | (rw [if_pos (by omega), hke]; rfl), HB3.out⟩
        · have hk4 : kk = 4 := by omega
          subst hk4
          go_wp2_with fail
          exact ⟨rfl, by first | rfl | simp, HB.out⟩
    · skip
      go_wp2_with fail
      go_loopg [31] 4 (fun gk i wr => ∃ k : Nat, i = .int .i64 (k : Int) ∧ k ≤ kk ∧ 4 - k ≤ gk ∧ Hid (Below w.heap.size w wr))
      case atStart => exact ⟨0, rfl, Nat.zero_le _, by omega, Below.refl _ _⟩
      case round =>
        obtain ⟨k, rfl, hkk, hgk, HB⟩ := hrel
        have hz := HB.out.size
        clear c0 c1 c2 c3 c4 c5 c6 c7
        rcases (show k = 0 ∨ k = 1 ∨ k = 2 ∨ k = 3 ∨ k = 4 by omega) with rfl | rfl | rfl | rfl | rfl
        · obtain ⟨wb, hwb⟩ : ∃ wb, wr.alloc (.cells #[.int .u8 115, .int .u8 32] 96) = wb := ⟨_, rfl⟩
          have B2 : Below wr.heap.size wr wb := by rw [← hwb]; exact (Below.refl _ wr).alloc (Nat.le_refl _) _
          have xb : wb.heap[wr.heap.size]? = some (.cells #[.int .u8 115, .int .u8 32] 96 (0, 0)) := by rw [← hwb]; exact heap_alloc_new wr _
          obtain ⟨q, hq⟩ : ∃ q, wr.heap.size = q := ⟨_, rfl⟩
          rw [hq] at xb
          have d0 : wb.cell? ⟨q, 0, none⟩ = some (.int .u8 115) := by simp [World.cell?, xb]
          have d1 : wb.cell? ⟨q, 1, none⟩ = some (.int .u8 32) := by simp [World.cell?, xb]
          have HB2 : Hid (Below w.heap.size w wb) := HB.out.trans (B2.mono hz)
          by_cases hlt : 0 < kk
          · have hnm : ((115 : Int) == (m : Int)) = false := by
              have := HNE.out 0 hlt
              rw [beq_eq_false_iff_ne]
              simp only [letN] at this
              omega
            clear xb B2
            go_upto_region 9 with fail
            go_quiet (fail)
            generalize hWd : wb.drewN _ = Wd
            have B3 : Below wb.heap.size wb Wd := by rw [← hWd]; exact ⟨rfl, rfl, rfl, Nat.le_refl _, fun _ _ => rfl⟩
            have HB3 : Hid (Below w.heap.size w Wd) := HB2.out.trans (B3.mono HB2.out.size)
            clear hWd B3
            go_wp2_with fail
            go_roundg (4 - (0 + 1))
            case measure => omega
            case rel => exact ⟨0 + 1, by go_num, by omega, Nat.le_refl _, HB3⟩
          · have hke : kk = 0 := by omega
            have hnm : ((115 : Int) == (m : Int)) = true := by
              have := HEQ.out (by omega)
              rw [hke] at this
              simp only [letN] at this
              rw [beq_iff_eq]
              omega
            clear xb B2
            go_upto_region 9 with fail
            go_quiet (fail)
            generalize hWd : wb.drewN _ = Wd
            have B3 : Below wb.heap.size wb Wd := by rw [← hWd]; exact ⟨rfl, rfl, rfl, Nat.le_refl _, fun _ _ => rfl⟩
            have HB3 : Hid (Below w.heap.size w Wd) := HB2.out.trans (B3.mono HB2.out.size)
            have d2 : Wd.cell? ⟨q, 1, none⟩ = some (.int .u8 32) := (B3.cell (p := ⟨q, 1, none⟩) (cell_lt d1)).trans d1
            clear hWd B3 d0 d1
            go_wp2_with fail
            go_ret2
            exact ⟨by first | rfl | (rw [if_pos (by omega), hke]; rfl), HB3.out⟩
        · obtain ⟨wb, hwb⟩ : ∃ wb, wr.alloc (.cells #[.int .u8 114, .int .u8 13] 96) = wb := ⟨_, rfl⟩
          have B2 : Below wr.heap.size wr wb := by rw [← hwb]; exact (Below.refl _ wr).alloc (Nat.le_refl _) _
          have xb : wb.heap[wr.heap.size]? = some (.cells #[.int .u8 114, .int .u8 13] 96 (0, 0)) := by rw [← hwb]; exact heap_alloc_new wr _
          obtain ⟨q, hq⟩ : ∃ q, wr.heap.size = q := ⟨_, rfl⟩
          rw [hq] at xb
          have d0 : wb.cell? ⟨q, 0, none⟩ = some (.int .u8 114) := by simp [World.cell?, xb]
          have d1 : wb.cell? ⟨q, 1, none⟩ = some (.int .u8 13) := by simp [World.cell?, xb]
          have HB2 : Hid (Below w.heap.size w wb) := HB.out.trans (B2.mono hz)
          by_cases hlt : 1 < kk
          · have hnm : ((114 : Int) == (m : Int)) = false := by
              have := HNE.out 1 hlt
              rw [beq_eq_false_iff_ne]
              simp only [letN] at this
              omega
            clear xb B2
            go_upto_region 9 with fail
            go_quiet (fail)
            generalize hWd : wb.drewN _ = Wd
            have B3 : Below wb.heap.size wb Wd := by rw [← hWd]; exact ⟨rfl, rfl, rfl, Nat.le_refl _, fun _ _ => rfl⟩
            have HB3 : Hid (Below w.heap.size w Wd) := HB2.out.trans (B3.mono HB2.out.size)
            clear hWd B3
            go_wp2_with fail
            go_roundg (4 - (1 + 1))
            case measure => omega
            case rel => exact ⟨1 + 1, by go_num, by omega, Nat.le_refl _, HB3⟩
          · have hke : kk = 1 := by omega
            have hnm : ((114 : Int) == (m : Int)) = true := by
              have := HEQ.out (by omega)
              rw [hke] at this
              simp only [letN] at this
              rw [beq_iff_eq]
              omega
            clear xb B2
            go_upto_region 9 with fail
            go_quiet (fail)
            generalize hWd : wb.drewN _ = Wd
            have B3 : Below wb.heap.size wb Wd := by rw [← hWd]; exact ⟨rfl, rfl, rfl, Nat.le_refl _, fun _ _ => rfl⟩
            have HB3 : Hid (Below w.heap.size w Wd) := HB2.out.trans (B3.mono HB2.out.size)
            have d2 : Wd.cell? ⟨q, 1, none⟩ = some (.int .u8 13) := (B3.cell (p := ⟨q, 1, none⟩) (cell_lt d1)).trans d1
            clear hWd B3 d0 d1
            go_wp2_with fail
            go_ret2
            exact ⟨by first | rfl | (rw [if_pos (by omega), hke]; rfl), HB3.out⟩
        · obtain ⟨wb, hwb⟩ : ∃ wb, wr.alloc (.cells #[.int .u8 110, .int .u8 10] 96) = wb := ⟨_, rfl⟩
          have B2 : Below wr.heap.size wr wb := by rw [← hwb]; exact (Below.refl _ wr).alloc (Nat.le_refl _) _
          have xb : wb.heap[wr.heap.size]? = some (.cells #[.int .u8 110, .int .u8 10] 96 (0, 0)) := by rw [← hwb]; exact heap_alloc_new wr _
          obtain ⟨q, hq⟩ : ∃ q, wr.heap.size = q := ⟨_, rfl⟩
          rw [hq] at xb
          have d0 : wb.cell? ⟨q, 0, none⟩ = some (.int .u8 110) := by simp [World.cell?, xb]
          have d1 : wb.cell? ⟨q, 1, none⟩ = some (.int .u8 10) := by simp [World.cell?, xb]
          have HB2 : Hid (Below w.heap.size w wb) := HB.out.trans (B2.mono hz)
          by_cases hlt : 2 < kk
          · have hnm : ((110 : Int) == (m : Int)) = false := by
              have := HNE.out 2 hlt
              rw [beq_eq_false_iff_ne]
              simp only [letN] at this
              omega
            clear xb B2
            go_upto_region 9 with fail
            go_quiet (fail)
            generalize hWd : wb.drewN _ = Wd
            have B3 : Below wb.heap.size wb Wd := by rw [← hWd]; exact ⟨rfl, rfl, rfl, Nat.le_refl _, fun _ _ => rfl⟩
            have HB3 : Hid (Below w.heap.size w Wd) := HB2.out.trans (B3.mono HB2.out.size)
            clear hWd B3
            go_wp2_with fail
            go_roundg (4 - (2 + 1))
            case measure => omega
            case rel => exact ⟨2 + 1, by go_num, by omega, Nat.le_refl _, HB3⟩
          · have hke : kk = 2 := by omega
            have hnm : ((110 : Int) == (m : Int)) = true := by
              have := HEQ.out (by omega)
              rw [hke] at this
              simp only [letN] at this
              rw [beq_iff_eq]
              omega
            clear xb B2
            go_upto_region 9 with fail
            go_quiet (fail)
            generalize hWd : wb.drewN _ = Wd
            have B3 : Below wb.heap.size wb Wd := by rw [← hWd]; exact ⟨rfl, rfl, rfl, Nat.le_refl _, fun _ _ => rfl⟩
            have HB3 : Hid (Below w.heap.size w Wd) := HB2.out.trans (B3.mono HB2.out.size)
            have d2 : Wd.cell? ⟨q, 1, none⟩ = some (.int .u8 10) := (B3.cell (p := ⟨q, 1, none⟩) (cell_lt d1)).trans d1
            clear hWd B3 d0 d1
            go_wp2_with fail
            go_ret2
            exact ⟨by first | rfl | (rw [if_pos (by omega), hke]; rfl), HB3.out⟩
        · obtain ⟨wb, hwb⟩ : ∃ wb, wr.alloc (.cells #[.int .u8 92, .int .u8 92] 96) = wb := ⟨_, rfl⟩
          have B2 : Below wr.heap.size wr wb := by rw [← hwb]; exact (Below.refl _ wr).alloc (Nat.le_refl _) _
          have xb : wb.heap[wr.heap.size]? = some (.cells #[.int .u8 92, .int .u8 92] 96 (0, 0)) := by rw [← hwb]; exact heap_alloc_new wr _
          obtain ⟨q, hq⟩ : ∃ q, wr.heap.size = q := ⟨_, rfl⟩
          rw [hq] at xb
          have d0 : wb.cell? ⟨q, 0, none⟩ = some (.int .u8 92) := by simp [World.cell?, xb]
          have d1 : wb.cell? ⟨q, 1, none⟩ = some (.int .u8 92) := by simp [World.cell?, xb]
          have HB2 : Hid (Below w.heap.size w wb) := HB.out.trans (B2.mono hz)
          by_cases hlt : 3 < kk
          · have hnm : ((92 : Int) == (m : Int)) = false := by
              have := HNE.out 3 hlt
              rw [beq_eq_false_iff_ne]
              simp only [letN] at this
              omega
            clear xb B2
            go_upto_region 9 with fail
            go_quiet (fail)
            generalize hWd : wb.drewN _ = Wd
            have B3 : Below wb.heap.size wb Wd := by rw [← hWd]; exact ⟨rfl, rfl, rfl, Nat.le_refl _, fun _ _ => rfl⟩
            have HB3 : Hid (Below w.heap.size w Wd) := HB2.out.trans (B3.mono HB2.out.size)
            clear hWd B3
            go_wp2_with fail
            go_roundg (4 - (3 + 1))
            case measure => omega
            case rel => exact ⟨3 + 1, by go_num, by omega, Nat.le_refl _, HB3⟩
          · have hke : kk = 3 := by omega
            have hnm : ((92 : Int) == (m : Int)) = true := by
              have := HEQ.out (by omega)
              rw [hke] at this
              simp only [letN] at this
              rw [beq_iff_eq]
              omega
            clear xb B2
            go_upto_region 9 with fail
            go_quiet (fail)
            generalize hWd : wb.drewN _ = Wd
            have B3 : Below wb.heap.size wb Wd := by rw [← hWd]; exact ⟨rfl, rfl, rfl, Nat.le_refl _, fun _ _ => rfl⟩
            have HB3 : Hid (Below w.heap.size w Wd) := HB2.out.trans (B3.mono HB2.out.size)
            have d2 : Wd.cell? ⟨q, 1, none⟩ = some (.int .u8 92) := (B3.cell (p := ⟨q, 1, none⟩) (cell_lt d1)).trans d1
            clear hWd B3 d0 d1
            go_wp2_with fail
            go_ret2
            exact ⟨by first | rfl | (rw [if_pos (by omega), hke]; rfl), HB3.out⟩
        · have hk4 : kk = 4 := by omega
          subst hk4
          go_wp2_with fail
          exact ⟨rfl, by first | rfl | simp, HB.out⟩
end Go.Proofs.YteaccpolmmkclaaDoor

namespace Go.Proofs.YteaccpolmmkclaaDoor
open Go.RowKit

set_option maxHeartbeats 1000000 in
set_option maxRecDepth 1000000 in
theorem byte_alone (s : ByteArray) (w : World) (hs : s.data.toList = [92]) :
    Calls Tryd.prog 69 #[.string s] w fun e w' => e = pan 192 ∧ w' = w := by
  have hsz := size_of hs
  simp only [List.length_cons, List.length_nil] at hsz
  have i0 : 0 < s.size := by omega
  have h0 : s[0] = 92 := byte_at hs 0 92 rfl i0
  have j0 : (0 : Int) < (s.size : Int) := by omega
  have j2 : ¬ (2 : Int) ≤ (s.size : Int) := by omega
  have j4 : ¬ (4 : Int) ≤ (s.size : Int) := by omega
  unfold pan
  clear hs hsz
  go_enter Tryd.func69, Tryd.ntmps69
  go_wp2_with fail
  exact ⟨rfl, rfl, rfl⟩

/-- What readByte answers. -/
def BytePost (l : Tx) (w : World) (e : Ending) (w' : World) : Prop := Below w.heap.size w w' ∧ ((∃ c n, byteP l = some (c, n) ∧ e = .returned (.tuple #[.int .u8 (c.toNat : Int), .int .i64 (n : Int)])) ∨ (byteP l = none ∧ e = pan 192))

theorem letter_find (d : UInt8) : (∃ kk, kk < 4 ∧ (∀ j, j < kk → letN j ≠ d.toNat) ∧ letN kk = d.toNat ∧ letterP d = some (UInt8.ofNat (letM kk)) ∧ (UInt8.ofNat (letM kk)).toNat = letM kk) ∨ ((∀ j, j < 4 → letN j ≠ d.toNat) ∧ letterP d = none) := by
  have h1 : ∀ n, n < 256 → (∃ kk, kk < 4 ∧ (∀ j, j < kk → letN j ≠ n) ∧ letN kk = n ∧ letterP (UInt8.ofNat n) = some (UInt8.ofNat (letM kk)) ∧ (UInt8.ofNat (letM kk)).toNat = letM kk) ∨ ((∀ j, j < 4 → letN j ≠ n) ∧ letterP (UInt8.ofNat n) = none) := by decide +kernel
  have := h1 d.toNat d.toNat_lt
  rwa [ofNat_self] at this

theorem byte_any (s : ByteArray) (w : World) (T : Tabs w) (hne : s.data.toList ≠ []) :
    Calls Tryd.prog 69 #[.string s] w (BytePost s.data.toList w) := by
  cases hs : s.data.toList with
  | nil => exact absurd hs hne
  | cons c r =>
    by_cases hc : c = 92
    · subst hc
      cases r with
      | nil =>
        refine (byte_alone s w hs).mono ?_
        rintro e w' ⟨rfl, rfl⟩
        exact ⟨Below.refl _ _, .inr ⟨rfl, rfl⟩⟩
      | cons d r =>
        by_cases hx : d = 120 ∧ 2 ≤ r.length
        · obtain ⟨rfl, h2⟩ := hx
          match r, h2, hs with
          | x :: y :: r, _, hs =>
            cases hX : hexP x with
            | none =>
              refine (byte_hexno s x y r w hs (.inl hX)).mono ?_
              rintro e w' ⟨rfl, hb⟩
              exact ⟨hb, .inr ⟨by simp [byteP, hX], rfl⟩⟩
            | some a =>
              cases hY : hexP y with
              | none =>
                refine (byte_hexno s x y r w hs (.inr hY)).mono ?_
                rintro e w' ⟨rfl, hb⟩
                exact ⟨hb, .inr ⟨by simp [byteP, hX, hY], rfl⟩⟩
              | some b =>
                refine (byte_hex s x y a b r w hs hX hY).mono ?_
                rintro e w' ⟨rfl, m, rfl⟩
                have ha := hex_lt hX
                have hb := hex_lt hY
                refine ⟨⟨rfl, rfl, rfl, Nat.le_refl _, fun _ _ => rfl⟩, .inl ⟨UInt8.ofNat (16 * a.toNat + b.toNat), 4, by simp [byteP, hX, hY], ?_⟩⟩
                have e : (UInt8.ofNat (16 * a.toNat + b.toNat)).toNat = 16 * a.toNat + b.toNat := by rw [UInt8.toNat_ofNat']; omega
                rw [e]
                simp
        · have hx2 : d ≠ 120 ∨ r.length < 2 := by
            by_cases h1 : d = 120
            · exact .inr (by have : ¬ 2 ≤ r.length := fun h => hx ⟨h1, h⟩; omega)
            · exact .inl h1
          rcases letter_find d with ⟨kk, h1, h2, h3, h4, h5⟩ | ⟨h1, h2⟩
          · refine (byte_table s d r kk w T hs hx2 (by omega) h2 (fun _ => h3)).mono ?_
            rintro e w' ⟨he, hb⟩
            rw [if_pos h1] at he
            have hd : d ≠ 120 := by
              intro e
              rw [e] at h4
              simp [letterP] at h4
            refine ⟨hb, .inl ⟨UInt8.ofNat (letM kk), 2, by simp [byteP, hd, h4], ?_⟩⟩
            rw [he, h5]
            rfl
          · refine (byte_table s d r 4 w T hs hx2 (Nat.le_refl _) (fun j hj => h1 j hj) (fun h => by omega)).mono ?_
            rintro e w' ⟨he, hb⟩
            rw [if_neg (by omega)] at he
            refine ⟨hb, .inr ⟨?_, he⟩⟩
            by_cases hd : d = 120
            · subst hd
              have hr : r.length < 2 := by
                rcases hx2 with h | h
                · exact absurd rfl h
                · exact h
              match r, hr with
              | [], _ => simp [byteP]
              | [x], _ => simp [byteP]
            · simp [byteP, hd, h2]
    · refine (byte_plain s c r w hs hc).mono ?_
      rintro e w' ⟨rfl, rfl⟩
      exact ⟨Below.refl _ _, .inl ⟨c, 1, by simp [byteP, hc], rfl⟩⟩

theorem Own8.one (w : World) (x : UInt8) : IsBytes (w.alloc (.cells #[.int .u8 (x.toNat : Int)] 5)) (some ⟨w.heap.size, 0, none⟩) 1 [x] := by
  refine ⟨by simp, by simp [maxLen], .inr ⟨w.heap.size, 0, rfl, by simp, fun j y hj => ?_⟩⟩
  match j, hj with
  | 0, hj => simp at hj; subst hj; simp
  | (j + 1), hj => simp at hj
/-- What readData answers. -/
def DataPost (l : Tx) (w : World) (e : Ending) (w' : World) : Prop := Below w.heap.size w w' ∧ ((∃ b v, dataP l = some b ∧ e = .returned v ∧ Own w' w.heap.size v b) ∨ (dataP l = none ∧ e = pan 192))
end Go.Proofs.YteaccpolmmkclaaDoor
