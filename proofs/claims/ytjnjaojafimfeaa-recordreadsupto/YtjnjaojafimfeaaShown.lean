/-
  The walk of shown.
-/
import Derived.Test.YtjnjaojafimfeaaGetAny
namespace Go.Proofs.Ytjnjaojafimfeaa
open Go.RowKit

def goneR (n : Int) : Rec := ⟨4, fun f => if f = 2 then n else 0, []⟩
def headB : List UInt8 := [1, 1, 0, 0, 0, 0, 0, 0, 0, 7, 0, 0, 0, 0, 0, 0, 0]
theorem gone_ok : checkE (goneR 258) 0 = 0 := by kernel_rfl
theorem gone_put : putL (goneR 258) [] = [4, 2, 1, 0, 0, 0, 0, 0, 0] := by kernel_rfl
theorem gone_size : sizeE (goneR 1) 0 = 17 := by kernel_rfl
theorem five_no : checkE ⟨5, fun _ => 0, []⟩ 0 = 100 := by kernel_rfl
theorem config_ok : configE 1 256 1024 = 0 := by kernel_rfl
theorem config_no : configE 0 0 0 = 103 := by kernel_rfl
theorem head_get : (getP headB).map (fun p => (p.1.kind, p.1.num 0, p.1.num 1, p.2.length)) = some (1, 1, 7, 0) := by kernel_rfl
theorem head_some {x : Rec} {body : List UInt8} (h : getP headB = some (x, body)) : x.kind = 1 ∧ x.num 0 = 1 ∧ x.num 1 = 7 ∧ body = [] := by
  have := head_get
  rw [h] at this
  simp only [Option.map_some, Option.some.injEq, Prod.mk.injEq] at this
  exact ⟨this.1, this.2.1, this.2.2.1, List.eq_nil_of_length_eq_zero this.2.2.2⟩
theorem head_none : getP headB ≠ none := fun h => by
  have := head_get
  rw [h] at this
  cases this
theorem nil_bytes (w : World) : IsBytes w none 0 [] := ⟨by simp, by simp [maxLen], .inl rfl⟩

theorem head_new (w : World) : IsBytes (w.alloc (.cells (u8s headB).toArray 5)) (some ⟨w.heap.size, 0, none⟩) 17 headB :=
  ByteRow.is (show ByteRow _ 5 w.heap.size headB from heap_alloc_last _ _) 0 17 headB (fun j y hj => by rw [Nat.zero_add]; exact hj) (by decide) (by unfold maxLen; decide)
set_option maxHeartbeats 4000000 in
set_option maxRecDepth 1000000 in
theorem shown_any (w : World) : Calls Try.prog 9 #[] w fun e w' => e = .returned (.bool true) ∧ Below w.heap.size w w' := by
  have CP : Hid (∀ W, Calls Try.prog 18 #[.agg (recA (goneR 258) (.slice none 0 0))] W fun e w' => Below W.heap.size W w' ∧ ∃ a c, e = .returned (.tuple #[.slice a 9 c, .int .i64 0]) ∧ IsBytes w' a c [4, 2, 1, 0, 0, 0, 0, 0, 0]) := fun W => by
    refine (put_any (goneR 258) none 0 [] W (nil_bytes W)).mono ?_
    rintro e w' ⟨hB, v, rfl, o⟩
    rw [show ([] : List UInt8).length = 0 from rfl, gone_ok, if_pos rfl, gone_put] at o
    obtain ⟨a, c, rfl, hi⟩ := o.shape
    exact ⟨hB, a, c, by rw [show ([] : List UInt8).length = 0 from rfl, gone_ok]; rfl, hi⟩
  have CG : Hid (∀ W a, IsBytes W a 17 headB → Calls Try.prog 22 #[.slice a 17 17] W fun e w' => Below W.heap.size W w' ∧ ∃ x a2 c2, e = .returned (.tuple #[.agg (recA x (.slice a2 0 c2)), .int .i64 0]) ∧ x.kind = 1 ∧ x.num 0 = 1 ∧ x.num 1 = 7) := fun W a hI => by
    refine (get_any a 17 headB W hI).mono ?_
    rintro e w' ⟨hB, ⟨h, _⟩ | ⟨x, body, v, h, rfl, o⟩⟩
    · exact absurd h head_none
    · obtain ⟨h1, h2, h3, rfl⟩ := head_some h
      obtain ⟨a2, c2, rfl, _⟩ := o.shape
      exact ⟨hB, x, a2, c2, rfl, h1, h2, h3⟩
  have CE : Hid (∀ W, Calls Try.prog 22 #[.slice none 0 0] W fun e w' => Below W.heap.size W w' ∧ e = .returned (.tuple #[.agg (recA zeroR (.slice none 0 0)), .int .i64 102])) := fun W => by
    refine (get_empty none 0 W).mono ?_
    rintro e w' ⟨hB, rfl⟩
    exact ⟨hB, rfl⟩
  have CS : Hid (∀ W, Calls Try.prog 14 #[.agg (recA (goneR 1) (.slice none 0 0))] W fun e w' => e = .returned (.int .i64 17) ∧ Below W.heap.size W w') := fun W => by
    have := size_any (goneR 1) none 0 0 W
    rw [gone_size] at this
    exact this
  have CC : Hid (∀ W, Calls Try.prog 13 #[.agg (recA ⟨5, fun _ => 0, []⟩ (.slice none 0 0))] W fun e w' => e = .returned (.int .i64 100) ∧ Below W.heap.size W w') := fun W => by
    have := check_any ⟨5, fun _ => 0, []⟩ none 0 0 W
    rw [five_no] at this
    exact this
  go_enter Try.func9, Try.ntmps9
  go_wp2_with (first
    | (go_at_call 18
       refine (CP.out _).mono ?_
       rintro e w1 ⟨B1, a1, c1, rfl, i1⟩
       have I1 : Hid (IsBytes w1 a1 c1 [4, 2, 1, 0, 0, 0, 0, 0, 0]) := i1
       have BX1 : Hid (Below w.heap.size w w1) := B1
       clear i1 B1)
    | (go_at_call_of 22 w1.heap.size
       refine (CG.out _ _ (head_new w1)).mono ?_
       rintro e w2 ⟨B2, x, a2, c2, rfl, hx1, hx2, hx3⟩
       have Bz : Below w1.heap.size w1 w2 := below_box B2
       have BX2 : Hid (Below w.heap.size w w2) := BX1.out.trans (Bz.mono BX1.out.size)
       have I2 : Hid (IsBytes w2 a1 c1 [4, 2, 1, 0, 0, 0, 0, 0, 0]) := I1.out.below Bz
       have HX : Hid (x.kind = 1 ∧ x.num 0 = 1 ∧ x.num 1 = 7) := ⟨hx1, hx2, hx3⟩
       clear B2 Bz hx1 hx2 hx3
       obtain ⟨C, hC⟩ : ∃ C, C = recA x (.slice a2 0 c2) := ⟨_, rfl⟩
       rw [← hC]
       have HC : Hid (C = recA x (.slice a2 0 c2)) := hC
       have HC1 : Hid (C.all (·.oneCell') = true ∧ C.size = 19) := ⟨by rw [hC]; exact rec_one _ _ _ _, by rw [hC]; rfl⟩
       clear hC)
    | (refine wpList_store_new rfl 34 (.tmp 3) (.tmp 15) rfl C rfl rfl 34 _ (by rw [HC1.out.2]; exact info_rec) (by rw [HC1.out.2]; rfl) HC1.out.1 ?_)
    | (go_at_call 22
       refine (CE.out _).mono ?_
       rintro e w3 ⟨B3, rfl⟩
       have Bz : Below w2.heap.size w2 w3 := below_box B3
       have BX3 : Hid (Below w.heap.size w w3) := BX2.out.trans (Bz.mono BX2.out.size)
       have I3 : Hid (IsBytes w3 a1 c1 [4, 2, 1, 0, 0, 0, 0, 0, 0]) := I2.out.below Bz
       have T3 : Hid (RecAt w3 w2.heap.size x (.slice a2 0 c2)) := (B3.block _ (by simp)).trans (by rw [HC.out]; exact heap_alloc_last _ _)
       clear B3 Bz)
    | (refine wpList_store_new rfl 34 (.tmp 5) (.tmp 19) rfl (recA zeroR (.slice none 0 0)) rfl rfl 34 _ info_rec rfl (rec_one _ _ _ _) ?_
       obtain ⟨w4, hw4⟩ : ∃ w4, w4 = w3.alloc (.cells (recA zeroR (.slice none 0 0)) 34) := ⟨_, rfl⟩
       rw [← hw4]
       have B4 : Below w3.heap.size w3 w4 := by rw [hw4]; exact (Below.refl _ w3).alloc (Nat.le_refl _) _
       have BX4 : Hid (Below w.heap.size w w4) := BX3.out.trans (B4.mono BX3.out.size)
       have T4 := T3.out.below B4
       have k0 := T4.cell 0
       have k1 := T4.cell 1
       have k2 := T4.cell 2
       have kc := conv_is (n := 9) (I3.out.below B4) rfl
       rw [show (recA x (.slice a2 0 c2))[0]? = some (.int .i64 x.kind) from rfl, HX.out.1] at k0
       rw [show (recA x (.slice a2 0 c2))[1]? = some (.int .i64 (x.num 0)) from rfl, HX.out.2.1] at k1
       rw [show (recA x (.slice a2 0 c2))[2]? = some (.int .i64 (x.num 1)) from rfl, HX.out.2.2] at k2
       clear B4 T4 hw4)
    | (go_at_call 14
       refine (CS.out _).mono ?_
       rintro e w5 ⟨rfl, B5⟩
       have BX5 : Hid (Below w.heap.size w w5) := BX4.out.trans (B5.mono BX4.out.size)
       clear B5)
    | (go_at_call 13
       refine (CC.out _).mono ?_
       rintro e w6 ⟨rfl, B6⟩
       have BX6 : Hid (Below w.heap.size w w6) := BX5.out.trans (B6.mono BX5.out.size)
       clear B6)
    | (go_at_call 10
       refine (checkConfig_any _ _ _ _).mono ?_
       rintro e w7 ⟨rfl, B7⟩
       simp only [config_ok, config_no]
       have BXC : Hid (Below w.heap.size w w7) := (by first | exact BXC.out.trans (B7.mono BXC.out.size) | exact BX6.out.trans (B7.mono BX6.out.size))
       clear B7))
  go_ret
  exact ⟨rfl, BXC.out⟩
end Go.Proofs.Ytjnjaojafimfeaa
