/-
  The walks of Soonest, Eldest, and of the law's next. (Written by genfi.py.)
-/
import Derived.Test.YtonfdmbcbfpgdaaYTold
namespace Go.Proofs.Ytonfdmbcbfpgdaa
open Go.RowKit
set_option maxHeartbeats 2000000 in
set_option maxRecDepth 1000000 in
theorem soonest_any (t : ByteArray) (w : World) (lab : Nat → HK) (yb : Nat) (Y : Yd) (h : YAt w lab yb Y) (ht : t.size ≤ maxLen) (hn : Y.tb t = none → Y.hp (hkT 1 t) = none) :
    Calls Try.prog 42 #[ptrV yb, .string t] w fun x w' => x = .returned (.int .i64 (fstOf Y 1 t)) ∧ Below w.heap.size w w' := by
  obtain ⟨d, r, hd, hr⟩ := h.two
  have y1 := (h.cells hd hr).2.1
  have ylt := h.yb_lt
  have TT : Hid (VTabS w Y.tm Y.nt (fun t => (Y.tb t).map ptrV)) := h.tubs
  cases hb : Y.tb t with
  | none =>
    have e0 : fstOf Y 1 t = 0 := by unfold fstOf; rw [hn hb]
    have HB : Hid (Y.tb t = none ∧ fstOf Y 1 t = 0) := ⟨hb, e0⟩
    clear hb e0 hn h hd hr
    go_enter Try.func42, Try.ntmps42
    go_wp2_with (first
      | (refine wpList_vlookS rfl (.tmp 11) (.tmp 12) 55 52 Try.underlying55 (zero_ptr _) rfl Y.tm Y.nt (fun t => (Y.tb t).map ptrV) t rfl rfl TT.out ht ?_; simp only [HB.out.1, Option.map_none, Option.getD_none, Option.isSome_none]))
    go_ret
    exact ⟨by rw [HB.out.2]; rfl, Below.refl _ _⟩
  | some b =>
    obtain ⟨h0, h1, h2, e0, e1, e2, blt, c0, c1, c2⟩ := h.tubeCells hb
    have hat := (h.heap _ _ e1).2.at_
    have CF : Hid (Calls Try.prog 41 #[ptrV h1.hb] w fun x w' => x = .returned (.int .i64 (fstOf Y 1 t)) ∧ Below w.heap.size w w') := by
      have := firstOf_any h1 _ w hat
      unfold fstOf
      rw [e1]
      exact this
    have HB : Hid (Y.tb t = some b) := hb
    clear hb hn h hd hr e0 e1 e2 hat c0 c2
    go_enter Try.func42, Try.ntmps42
    go_wp2_with (first
      | (refine wpList_vlookS rfl (.tmp 11) (.tmp 12) 55 52 Try.underlying55 (zero_ptr _) rfl Y.tm Y.nt (fun t => (Y.tb t).map ptrV) t rfl rfl TT.out ht ?_; simp only [HB.out, Option.map_some, Option.getD_some, Option.isSome_some])
      | (go_at_call 41; refine CF.out.mono ?_; rintro e w1 ⟨rfl, b1⟩; have B1 : Hid (Below w.heap.size w w1) := b1; clear b1))
    go_ret
    exact ⟨rfl, B1.out⟩
set_option maxHeartbeats 2000000 in
set_option maxRecDepth 1000000 in
theorem eldest_any (t : ByteArray) (w : World) (lab : Nat → HK) (yb : Nat) (Y : Yd) (h : YAt w lab yb Y) (ht : t.size ≤ maxLen) (hn : Y.tb t = none → Y.hp (hkT 2 t) = none) :
    Calls Try.prog 43 #[ptrV yb, .string t] w fun x w' => x = .returned (.int .i64 (fstOf Y 2 t)) ∧ Below w.heap.size w w' := by
  obtain ⟨d, r, hd, hr⟩ := h.two
  have y1 := (h.cells hd hr).2.1
  have ylt := h.yb_lt
  have TT : Hid (VTabS w Y.tm Y.nt (fun t => (Y.tb t).map ptrV)) := h.tubs
  cases hb : Y.tb t with
  | none =>
    have e0 : fstOf Y 2 t = 0 := by unfold fstOf; rw [hn hb]
    have HB : Hid (Y.tb t = none ∧ fstOf Y 2 t = 0) := ⟨hb, e0⟩
    clear hb e0 hn h hd hr
    go_enter Try.func43, Try.ntmps43
    go_wp2_with (first
      | (refine wpList_vlookS rfl (.tmp 11) (.tmp 12) 55 52 Try.underlying55 (zero_ptr _) rfl Y.tm Y.nt (fun t => (Y.tb t).map ptrV) t rfl rfl TT.out ht ?_; simp only [HB.out.1, Option.map_none, Option.getD_none, Option.isSome_none]))
    go_ret
    exact ⟨by rw [HB.out.2]; rfl, Below.refl _ _⟩
  | some b =>
    obtain ⟨h0, h1, h2, e0, e1, e2, blt, c0, c1, c2⟩ := h.tubeCells hb
    have hat := (h.heap _ _ e2).2.at_
    have CF : Hid (Calls Try.prog 41 #[ptrV h2.hb] w fun x w' => x = .returned (.int .i64 (fstOf Y 2 t)) ∧ Below w.heap.size w w') := by
      have := firstOf_any h2 _ w hat
      unfold fstOf
      rw [e2]
      exact this
    have HB : Hid (Y.tb t = some b) := hb
    clear hb hn h hd hr e0 e1 e2 hat c0 c1
    go_enter Try.func43, Try.ntmps43
    go_wp2_with (first
      | (refine wpList_vlookS rfl (.tmp 11) (.tmp 12) 55 52 Try.underlying55 (zero_ptr _) rfl Y.tm Y.nt (fun t => (Y.tb t).map ptrV) t rfl rfl TT.out ht ?_; simp only [HB.out, Option.map_some, Option.getD_some, Option.isSome_some])
      | (go_at_call 41; refine CF.out.mono ?_; rintro e w1 ⟨rfl, b1⟩; have B1 : Hid (Below w.heap.size w w1) := b1; clear b1))
    go_ret
    exact ⟨rfl, B1.out⟩
/-- Which heap of a tube has the jobs of a state. -/
def kOf (st : Int) : Nat := if st = 1 then 0 else if st = 2 then 1 else 2
set_option maxHeartbeats 2000000 in
set_option maxRecDepth 1000000 in
theorem next_any (st : Int) (t : ByteArray) (w : World) (lab : Nat → HK) (yb : Nat) (Y : Yd) (h : YAt w lab yb Y) (ht : t.size ≤ maxLen) (hn : ∀ k, k ≤ 2 → Y.tb t = none → Y.hp (hkT k t) = none) :
    Calls Try.prog 21 #[ptrV yb, .string t, .int .i64 st] w fun x w' => x = .returned (.int .i64 (fstOf Y (kOf st) t)) ∧ Below w.heap.size w w' := by
  by_cases h1 : st = 1
  · have R := ready_any t w lab yb Y h ht (hn 0 (by omega))
    rw [show kOf st = 0 by unfold kOf; rw [if_pos h1]]
    subst h1
    have HR := R
    clear h hn R
    go_enter Try.func21, Try.ntmps21
    go_wp2_with fail
    refine HR.mono ?_
    rintro e w1 ⟨rfl, b1⟩
    have B1 : Hid (Below w.heap.size w w1) := b1
    clear b1
    go_wp2_with fail
    go_ret
    exact ⟨rfl, B1.out⟩
  · by_cases h2 : st = 2
    · have R := soonest_any t w lab yb Y h ht (hn 1 (by omega))
      rw [show kOf st = 1 by unfold kOf; rw [if_neg h1, if_pos h2]]
      subst h2
      have HR := R
      clear h hn R
      go_enter Try.func21, Try.ntmps21
      go_wp2_with fail
      refine HR.mono ?_
      rintro e w1 ⟨rfl, b1⟩
      have B1 : Hid (Below w.heap.size w w1) := b1
      clear b1
      go_wp2_with fail
      go_ret
      exact ⟨rfl, B1.out⟩
    · have R := eldest_any t w lab yb Y h ht (hn 2 (by omega))
      rw [show kOf st = 2 by unfold kOf; rw [if_neg h1, if_neg h2]]
      have b1 : (st == 1) = false := by simpa using h1
      have b2 : (st == 2) = false := by simpa using h2
      have HR := R
      clear h hn R h1 h2
      go_enter Try.func21, Try.ntmps21
      go_wp2_with fail
      refine HR.mono ?_
      rintro e w1 ⟨rfl, b1⟩
      have B1 : Hid (Below w.heap.size w w1) := b1
      clear b1
      go_wp2_with fail
      go_ret
      exact ⟨rfl, B1.out⟩
end Go.Proofs.Ytonfdmbcbfpgdaa
