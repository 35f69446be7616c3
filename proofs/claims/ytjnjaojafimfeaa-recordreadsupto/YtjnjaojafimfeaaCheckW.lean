/-
  The walks of Check, Size, CheckConfig.
-/
import Derived.Test.YtjnjaojafimfeaaChecks
import Derived.Test.YtjnjaojafimfeaaNumbersOf

namespace Go.Proofs.Ytjnjaojafimfeaa
open Go.RowKit

set_option maxHeartbeats 2000000 in
set_option maxRecDepth 1000000 in
theorem check_any (r : Rec) (a : Option Addr) (m c : Nat) (w : World) :
    Calls Try.prog 13 #[.agg (recA r (.slice a m c))] w fun e w' => e = .returned (.int .i64 (checkE r m)) ∧ Below w.heap.size w w' := by
  have hk0 : (recA r (.slice a m c))[0]? = some (.int .i64 r.kind) := rfl
  have R0 : Hid (RecAt (w.alloc (.cells (recA r (.slice a m c)) 34)) w.heap.size r (.slice a m c)) := RecAt.new _ _ _
  have CN : Hid (∀ W, Calls Try.prog 27 #[.agg (recA r (.slice a m c))] W fun e w' => e = .returned (.agg (numsA r.num)) ∧ Below W.heap.size W w') := numbersOf_any r a m c
  have CT : Hid (∀ W, Calls Try.prog 30 #[.agg (recA r (.slice a m c))] W fun e w' => e = .returned (.bool (textB r.kind r.tube m)) ∧ Below W.heap.size W w') := textsMayBe_any r a m c
  have CH : Hid (∀ W, Calls Try.prog 28 #[.agg (numsA r.num), .int .i64 r.kind] W fun e w' => e = .returned (.bool (!zeroB (clr (fieldsL r.kind) r.num))) ∧ Below W.heap.size W w') := hasOther_any r.num r.kind
  have CM : Hid (∀ W, Calls Try.prog 29 #[.agg (numsA r.num), .int .i64 r.kind] W fun e w' => e = .returned (.bool (mayBeB r.kind r.num)) ∧ Below W.heap.size W w') := mayBe_any r.num r.kind
  have CW : Hid (∀ W, Calls Try.prog 25 #[.int .i64 r.kind, .int .i64 1, .int .i64 4] W fun e w' => e = .returned (.bool (withinB r.kind 1 4)) ∧ w' = W) := within_any r.kind 1 4
  have HE : Hid (checkE r m = if withinB r.kind 1 4 = false then 100 else if (!zeroB (clr (fieldsL r.kind) r.num)) = true ∨ mayBeB r.kind r.num = false ∨ textB r.kind r.tube m = false then 101 else 0) := by
    show checkE r m = _
    rfl
  obtain ⟨C, hC⟩ : ∃ C, C = recA r (.slice a m c) := ⟨_, rfl⟩
  have hsz : C.size = 19 := by rw [hC]; rfl
  have HSZ : Hid (C.size = 19) := hsz
  have HC : Hid (C = recA r (.slice a m c)) := hC
  rw [← hC] at hk0 R0 CN CT ⊢
  obtain ⟨D, hD⟩ : ∃ D, D = numsA r.num := ⟨_, rfl⟩
  have hdz : D.size = 16 := by rw [hD]; rfl
  have hd1 : D.all (·.oneCell') = true := by rw [hD]; exact nums_one _
  have HD1 : Hid (D.all (·.oneCell') = true ∧ D.size = 16) := ⟨hd1, hdz⟩
  rw [← hD] at CN CH CM
  obtain ⟨kb, hkb⟩ : ∃ b, b = withinB r.kind 1 4 := ⟨_, rfl⟩
  obtain ⟨zb, hzb⟩ : ∃ b, b = !zeroB (clr (fieldsL r.kind) r.num) := ⟨_, rfl⟩
  obtain ⟨mb, hmb⟩ : ∃ b, b = mayBeB r.kind r.num := ⟨_, rfl⟩
  obtain ⟨tb, htb⟩ : ∃ b, b = textB r.kind r.tube m := ⟨_, rfl⟩
  rw [← hkb, ← hzb, ← hmb, ← htb] at HE
  rw [← hkb] at CW
  rw [← hzb] at CH
  rw [← hmb] at CM
  rw [← htb] at CT
  clear hkb hzb hmb htb hC hD hd1 hdz hsz
  have B0 : Hid (Below w.heap.size w (w.alloc (.cells C 34))) := (Below.refl _ w).alloc (Nat.le_refl _) _
  have hu34 : Try.prog.underlying 34 = some (.struct (Try.prog.fieldsOf 34)) := by kernel_rfl
  have H34 : Hid (Try.prog.underlying 34 = some (.struct (Try.prog.fieldsOf 34))) := hu34
  clear hu34
  cases kb
  case false =>
    go_enter Try.func13, Try.ntmps13
    go_wp2_with (first
      | (go_at_call 25; refine (CW.out _).mono ?_; rintro e w' ⟨rfl, hw'⟩; obtain rfl := hw'.symm))
    go_ret
    exact ⟨by rw [HE.out]; rfl, B0.out⟩
  case true =>
  cases zb
  case true =>
    go_enter Try.func13, Try.ntmps13
    go_wp2_with (first
      | (go_at_call 25; refine (CW.out _).mono ?_; rintro e w' ⟨rfl, hw'⟩; obtain rfl := hw'.symm)
      | (go_at_call 27
         refine (CN.out _).mono ?_
         rintro e w1 ⟨rfl, B1⟩
         have BX1 : Hid (Below w.heap.size w w1) := below_box B1
         have R1 : Hid (RecAt w1 w.heap.size r (.slice a m c)) := R0.out.below B1
         have k1 := R1.out.kind
         have l1 := R1.out.lt
         clear B1)
      | (go_at_call 28
         refine (CH.out _).mono ?_
         rintro e w2 ⟨rfl, B2⟩
         have BX2 : Hid (Below w.heap.size w w2) := BX1.out.trans ((below_box B2).mono BX1.out.size)
         have R2 : Hid (RecAt w2 w.heap.size r (.slice a m c)) := R1.out.below (below_box B2)
         have D2 : Hid (w2.heap[w1.heap.size]? = some (.cells D 53 (0, 0))) := (B2.block _ (by simp)).trans (heap_alloc_last _ _)
         have k2 := R2.out.kind
         clear B2)
      | (go_at_call 29
         refine (CM.out _).mono ?_
         rintro e w3 ⟨rfl, B3⟩
         have BX3 : Hid (Below w.heap.size w w3) := BX2.out.trans (B3.mono BX2.out.size)
         have R3 : Hid (RecAt w3 w.heap.size r (.slice a m c)) := R2.out.below B3
         clear B3)
      | (go_at_call 30
         refine (CT.out _).mono ?_
         rintro e w4 ⟨rfl, B4⟩
         have BX4 : Hid (Below w.heap.size w w4) := BX3.out.trans (B4.mono BX3.out.size)
         clear B4)
      | (refine wpList_load_row rfl 34 (.tmp 1) rfl w.heap.size rfl 34 C (0, 0) _ (by first | (rw [HC.out]; exact heap_alloc_last _ _) | (rw [HC.out]; exact R3.out) | (rw [HC.out]; exact R2.out) | (rw [HC.out]; exact R1.out)) H34.out rfl (by rw [HSZ.out]; exact info_rec) ?_)
      | (refine wpList_store_new rfl 53 (.tmp 3) (.tmp 9) rfl D rfl rfl 53 _ (by rw [HD1.out.2]; exact info_nums) (by rw [HD1.out.2]; rfl) HD1.out.1 ?_)
      | (refine wpList_load_row rfl 53 (.tmp 3) rfl w1.heap.size rfl 53 D (0, 0) _ (by first | exact heap_alloc_last _ _ | exact D2.out) Try.underlying53 rfl (by rw [HD1.out.2]; exact info_nums) ?_)
      | (refine wpList_load_wanted (by rfl) 34 (.tmp 1) rfl w.heap.size rfl 34 C (0, 0) _ (by first | (rw [HC.out]; exact heap_alloc_last _ _) | (rw [HC.out]; exact R3.out) | (rw [HC.out]; exact R2.out) | (rw [HC.out]; exact R1.out)) H34.out rfl (by rw [HSZ.out]; exact info_rec) ?_)
      | (refine wpList_load_wanted (by rfl) 53 (.tmp 3) rfl w1.heap.size rfl 53 D (0, 0) _ (by first | exact heap_alloc_last _ _ | exact D2.out) Try.underlying53 rfl (by rw [HD1.out.2]; exact info_nums) ?_))
    go_ret
    exact ⟨by rw [HE.out]; rfl, BX2.out⟩
  case false =>
  cases mb
  case false =>
    go_enter Try.func13, Try.ntmps13
    go_wp2_with (first
      | (go_at_call 25; refine (CW.out _).mono ?_; rintro e w' ⟨rfl, hw'⟩; obtain rfl := hw'.symm)
      | (go_at_call 27
         refine (CN.out _).mono ?_
         rintro e w1 ⟨rfl, B1⟩
         have BX1 : Hid (Below w.heap.size w w1) := below_box B1
         have R1 : Hid (RecAt w1 w.heap.size r (.slice a m c)) := R0.out.below B1
         have k1 := R1.out.kind
         have l1 := R1.out.lt
         clear B1)
      | (go_at_call 28
         refine (CH.out _).mono ?_
         rintro e w2 ⟨rfl, B2⟩
         have BX2 : Hid (Below w.heap.size w w2) := BX1.out.trans ((below_box B2).mono BX1.out.size)
         have R2 : Hid (RecAt w2 w.heap.size r (.slice a m c)) := R1.out.below (below_box B2)
         have D2 : Hid (w2.heap[w1.heap.size]? = some (.cells D 53 (0, 0))) := (B2.block _ (by simp)).trans (heap_alloc_last _ _)
         have k2 := R2.out.kind
         clear B2)
      | (go_at_call 29
         refine (CM.out _).mono ?_
         rintro e w3 ⟨rfl, B3⟩
         have BX3 : Hid (Below w.heap.size w w3) := BX2.out.trans (B3.mono BX2.out.size)
         have R3 : Hid (RecAt w3 w.heap.size r (.slice a m c)) := R2.out.below B3
         clear B3)
      | (go_at_call 30
         refine (CT.out _).mono ?_
         rintro e w4 ⟨rfl, B4⟩
         have BX4 : Hid (Below w.heap.size w w4) := BX3.out.trans (B4.mono BX3.out.size)
         clear B4)
      | (refine wpList_load_row rfl 34 (.tmp 1) rfl w.heap.size rfl 34 C (0, 0) _ (by first | (rw [HC.out]; exact heap_alloc_last _ _) | (rw [HC.out]; exact R3.out) | (rw [HC.out]; exact R2.out) | (rw [HC.out]; exact R1.out)) H34.out rfl (by rw [HSZ.out]; exact info_rec) ?_)
      | (refine wpList_store_new rfl 53 (.tmp 3) (.tmp 9) rfl D rfl rfl 53 _ (by rw [HD1.out.2]; exact info_nums) (by rw [HD1.out.2]; rfl) HD1.out.1 ?_)
      | (refine wpList_load_row rfl 53 (.tmp 3) rfl w1.heap.size rfl 53 D (0, 0) _ (by first | exact heap_alloc_last _ _ | exact D2.out) Try.underlying53 rfl (by rw [HD1.out.2]; exact info_nums) ?_)
      | (refine wpList_load_wanted (by rfl) 34 (.tmp 1) rfl w.heap.size rfl 34 C (0, 0) _ (by first | (rw [HC.out]; exact heap_alloc_last _ _) | (rw [HC.out]; exact R3.out) | (rw [HC.out]; exact R2.out) | (rw [HC.out]; exact R1.out)) H34.out rfl (by rw [HSZ.out]; exact info_rec) ?_)
      | (refine wpList_load_wanted (by rfl) 53 (.tmp 3) rfl w1.heap.size rfl 53 D (0, 0) _ (by first | exact heap_alloc_last _ _ | exact D2.out) Try.underlying53 rfl (by rw [HD1.out.2]; exact info_nums) ?_))
    go_ret
    exact ⟨by rw [HE.out]; rfl, BX3.out⟩
  case true =>
  cases tb
  case false =>
    go_enter Try.func13, Try.ntmps13
    go_wp2_with (first
      | (go_at_call 25; refine (CW.out _).mono ?_; rintro e w' ⟨rfl, hw'⟩; obtain rfl := hw'.symm)
      | (go_at_call 27
         refine (CN.out _).mono ?_
         rintro e w1 ⟨rfl, B1⟩
         have BX1 : Hid (Below w.heap.size w w1) := below_box B1
         have R1 : Hid (RecAt w1 w.heap.size r (.slice a m c)) := R0.out.below B1
         have k1 := R1.out.kind
         have l1 := R1.out.lt
         clear B1)
      | (go_at_call 28
         refine (CH.out _).mono ?_
         rintro e w2 ⟨rfl, B2⟩
         have BX2 : Hid (Below w.heap.size w w2) := BX1.out.trans ((below_box B2).mono BX1.out.size)
         have R2 : Hid (RecAt w2 w.heap.size r (.slice a m c)) := R1.out.below (below_box B2)
         have D2 : Hid (w2.heap[w1.heap.size]? = some (.cells D 53 (0, 0))) := (B2.block _ (by simp)).trans (heap_alloc_last _ _)
         have k2 := R2.out.kind
         clear B2)
      | (go_at_call 29
         refine (CM.out _).mono ?_
         rintro e w3 ⟨rfl, B3⟩
         have BX3 : Hid (Below w.heap.size w w3) := BX2.out.trans (B3.mono BX2.out.size)
         have R3 : Hid (RecAt w3 w.heap.size r (.slice a m c)) := R2.out.below B3
         clear B3)
      | (go_at_call 30
         refine (CT.out _).mono ?_
         rintro e w4 ⟨rfl, B4⟩
         have BX4 : Hid (Below w.heap.size w w4) := BX3.out.trans (B4.mono BX3.out.size)
         clear B4)
      | (refine wpList_load_row rfl 34 (.tmp 1) rfl w.heap.size rfl 34 C (0, 0) _ (by first | (rw [HC.out]; exact heap_alloc_last _ _) | (rw [HC.out]; exact R3.out) | (rw [HC.out]; exact R2.out) | (rw [HC.out]; exact R1.out)) H34.out rfl (by rw [HSZ.out]; exact info_rec) ?_)
      | (refine wpList_store_new rfl 53 (.tmp 3) (.tmp 9) rfl D rfl rfl 53 _ (by rw [HD1.out.2]; exact info_nums) (by rw [HD1.out.2]; rfl) HD1.out.1 ?_)
      | (refine wpList_load_row rfl 53 (.tmp 3) rfl w1.heap.size rfl 53 D (0, 0) _ (by first | exact heap_alloc_last _ _ | exact D2.out) Try.underlying53 rfl (by rw [HD1.out.2]; exact info_nums) ?_)
      | (refine wpList_load_wanted (by rfl) 34 (.tmp 1) rfl w.heap.size rfl 34 C (0, 0) _ (by first | (rw [HC.out]; exact heap_alloc_last _ _) | (rw [HC.out]; exact R3.out) | (rw [HC.out]; exact R2.out) | (rw [HC.out]; exact R1.out)) H34.out rfl (by rw [HSZ.out]; exact info_rec) ?_)
      | (refine wpList_load_wanted (by rfl) 53 (.tmp 3) rfl w1.heap.size rfl 53 D (0, 0) _ (by first | exact heap_alloc_last _ _ | exact D2.out) Try.underlying53 rfl (by rw [HD1.out.2]; exact info_nums) ?_))
    go_ret
    exact ⟨by rw [HE.out]; rfl, BX4.out⟩
  case true =>
    go_enter Try.func13, Try.ntmps13
    go_wp2_with (first
      | (go_at_call 25; refine (CW.out _).mono ?_; rintro e w' ⟨rfl, hw'⟩; obtain rfl := hw'.symm)
      | (go_at_call 27
         refine (CN.out _).mono ?_
         rintro e w1 ⟨rfl, B1⟩
         have BX1 : Hid (Below w.heap.size w w1) := below_box B1
         have R1 : Hid (RecAt w1 w.heap.size r (.slice a m c)) := R0.out.below B1
         have k1 := R1.out.kind
         have l1 := R1.out.lt
         clear B1)
      | (go_at_call 28
         refine (CH.out _).mono ?_
         rintro e w2 ⟨rfl, B2⟩
         have BX2 : Hid (Below w.heap.size w w2) := BX1.out.trans ((below_box B2).mono BX1.out.size)
         have R2 : Hid (RecAt w2 w.heap.size r (.slice a m c)) := R1.out.below (below_box B2)
         have D2 : Hid (w2.heap[w1.heap.size]? = some (.cells D 53 (0, 0))) := (B2.block _ (by simp)).trans (heap_alloc_last _ _)
         have k2 := R2.out.kind
         clear B2)
      | (go_at_call 29
         refine (CM.out _).mono ?_
         rintro e w3 ⟨rfl, B3⟩
         have BX3 : Hid (Below w.heap.size w w3) := BX2.out.trans (B3.mono BX2.out.size)
         have R3 : Hid (RecAt w3 w.heap.size r (.slice a m c)) := R2.out.below B3
         clear B3)
      | (go_at_call 30
         refine (CT.out _).mono ?_
         rintro e w4 ⟨rfl, B4⟩
         have BX4 : Hid (Below w.heap.size w w4) := BX3.out.trans (B4.mono BX3.out.size)
         clear B4)
      | (refine wpList_load_row rfl 34 (.tmp 1) rfl w.heap.size rfl 34 C (0, 0) _ (by first | (rw [HC.out]; exact heap_alloc_last _ _) | (rw [HC.out]; exact R3.out) | (rw [HC.out]; exact R2.out) | (rw [HC.out]; exact R1.out)) H34.out rfl (by rw [HSZ.out]; exact info_rec) ?_)
      | (refine wpList_store_new rfl 53 (.tmp 3) (.tmp 9) rfl D rfl rfl 53 _ (by rw [HD1.out.2]; exact info_nums) (by rw [HD1.out.2]; rfl) HD1.out.1 ?_)
      | (refine wpList_load_row rfl 53 (.tmp 3) rfl w1.heap.size rfl 53 D (0, 0) _ (by first | exact heap_alloc_last _ _ | exact D2.out) Try.underlying53 rfl (by rw [HD1.out.2]; exact info_nums) ?_)
      | (refine wpList_load_wanted (by rfl) 34 (.tmp 1) rfl w.heap.size rfl 34 C (0, 0) _ (by first | (rw [HC.out]; exact heap_alloc_last _ _) | (rw [HC.out]; exact R3.out) | (rw [HC.out]; exact R2.out) | (rw [HC.out]; exact R1.out)) H34.out rfl (by rw [HSZ.out]; exact info_rec) ?_)
      | (refine wpList_load_wanted (by rfl) 53 (.tmp 3) rfl w1.heap.size rfl 53 D (0, 0) _ (by first | exact heap_alloc_last _ _ | exact D2.out) Try.underlying53 rfl (by rw [HD1.out.2]; exact info_nums) ?_))
    go_ret
    exact ⟨by rw [HE.out]; rfl, BX4.out⟩
end Go.Proofs.Ytjnjaojafimfeaa
