/-
  The walks of Print, the program's and the document's.
-/
import Derived.Test.YtipbphflboooeaaDoorShelf
import Derived.Test.YtipbphflboooeaaDoorPlain
import Derived.WalkKit
import Derived.WalkSpells
import Derived.WalkLawsBesides
import Derived.WalkSmall
import Derived.Lib.LaidTab
import Derived.Lib.ItoaLen
namespace Go.Proofs.YtipbphflboooeaaDoor
open Go.RowKit Go.Lib Go.Sort

/-- What Print writes. -/
def printL (n : Int) : List UInt8 := if n < 0 then [] else Lib.itoa n

theorem gPow : Tryd.prog.globalNamed "internal/strconv.uint64pow10" = some 0 := by kernel_rfl
theorem below_grow (B : Nat) (w : World) (hB : B ≤ w.heap.size) (k : Nat) (os : Array Obj) : Below B w (grow (w.drewN k) os) :=
  ⟨rfl, rfl, rfl, by show w.heap.size ≤ (w.heap ++ os).size; rw [Array.size_append]; omega, fun j hj => by
    show (w.heap ++ os)[j]? = _
    rw [Array.getElem?_append_left (by omega)]⟩
theorem tab_lt {W : World} (h : Lib.TabIs Tryd.prog W "internal/strconv.uint64pow10" .u64 Lib.pow10Tab) : 0 < W.heap.size := by
  unfold Lib.TabIs World.var? at h
  simp only [gPow, Option.bind_some] at h
  rcases hx : W.heap[0]? with _ | o
  · simp [hx] at h
  · exact (Array.getElem?_eq_some_iff.1 hx).1
theorem tab_below {W W' : World} (hb : Below W.heap.size W W') (h : Lib.TabIs Tryd.prog W "internal/strconv.uint64pow10" .u64 Lib.pow10Tab) :
    Lib.TabIs Tryd.prog W' "internal/strconv.uint64pow10" .u64 Lib.pow10Tab := var?_below hb gPow (tab_lt h) h

set_option maxHeartbeats 400000 in
theorem print_any (n : Int) (w : World) (h0 : -9223372036854775808 ≤ n) (h1 : n ≤ 9223372036854775807) (htab : Lib.TabIs Tryd.prog w "internal/strconv.uint64pow10" .u64 Lib.pow10Tab) :
    Calls Tryd.prog 12 #[.int .i64 n] w fun e w' => e = .returned (.string ⟨(printL n).toArray⟩) ∧ Below w.heap.size w w' := by
  by_cases hn : n < 0
  · go_enter Tryd.func12, Tryd.ntmps12
    go_wp2
    go_ret
    exact ⟨by rw [printL, if_pos hn]; rfl, Below.refl _ _⟩
  · go_enter Tryd.func12, Tryd.ntmps12
    have HT : Hid (Lib.TabIs Tryd.prog w "internal/strconv.uint64pow10" .u64 Lib.pow10Tab) := htab
    clear htab
    go_wp2_with (go_at_call 23; refine (Tryd.strconv_Itoa n h0 h1 _ HT.out).mono ?_; rintro e w' ⟨rfl, k, os, rfl⟩)
    go_ret
    exact ⟨by rw [printL, if_neg (by omega)]; rfl, below_grow _ _ (Nat.le_refl _) _ _⟩

theorem dec_small {u : Nat} (h : u < 10) : Lib.decDigits u = [UInt8.ofNat (48 + u)] := Lib.decDigits_one h
theorem dec_big {u : Nat} (h : ¬ u < 10) : Lib.decDigits u = Lib.decDigits (u / 10) ++ [UInt8.ofNat (48 + u % 10)] := by rw [Lib.decDigits, dif_neg h]
/-- The digits that are still to be written ahead of the last one of m. -/
def ahead (m : Nat) : List UInt8 := if m < 10 then [] else Lib.decDigits (m / 10)
theorem dec_ahead (m : Nat) : Lib.decDigits m = ahead m ++ [UInt8.ofNat (48 + m % 10)] := by
  unfold ahead
  split
  · rename_i h; rw [dec_small h, Nat.mod_eq_of_lt h]; rfl
  · rename_i h; rw [dec_big h]

/-- 'string([]byte{x})', the byte in the newest block. -/
theorem conv_one (w : World) (x : Int) : (convert 42 9 (.slice (some ⟨w.heap.size, 0, none⟩) 1 1)).run Tryd.prog (w.alloc (.cells #[.int .u8 x] 5)) = .ok (.string ⟨[UInt8.ofNat x.toNat].toArray⟩) (w.alloc (.cells #[.int .u8 x] 5)) := by
  rw [run_convert_bytes_string _ _ _ 5 _ _ _ Tryd.underlying42 Tryd.underlying5 Tryd.underlying9,
    run_bytesToString _ _ 1 1 [x] (run_loadCells_list _ _ [.int .u8 x] (cell_one_new _ _ _))]
  rfl

set_option maxHeartbeats 1000000 in
set_option maxRecDepth 1000000 in
theorem refPrint_any (n : Int) (w : World) (h0 : -9223372036854775808 ≤ n) (h1 : n ≤ 9223372036854775807) :
    Calls Tryd.prog 13 #[.int .i64 n] w fun e w' => e = .returned (.string ⟨(printL n).toArray⟩) ∧ Below w.heap.size w w' := by
  by_cases hn : n < 0
  · go_enter Tryd.func13, Tryd.ntmps13
    go_wp2
    go_ret
    exact ⟨by rw [printL, if_pos hn]; rfl, Below.refl _ _⟩
  · obtain ⟨u, rfl⟩ := Int.eq_ofNat_of_zero_le (show 0 ≤ n by omega)
    go_enter Tryd.func13, Tryd.ntmps13
    have hconv := conv_one
    go_wp2
    go_loopw [0, 3] (fun a b wr => ∃ (m : Nat) (l : List UInt8), a = .int .i64 m ∧ b = .string ⟨l.toArray⟩ ∧ m ≤ u ∧ Below w.heap.size w wr ∧ Lib.decDigits u = ahead m ++ l) (fun a _ _ => (RowKit.intOf a).toNat)
    case atStart => exact ⟨u, [UInt8.ofNat (48 + u % 10)], rfl, by simp, Nat.le_refl _, (Below.refl _ _).alloc (Nat.le_refl _) _, dec_ahead u⟩
    case round =>
      obtain ⟨m, l, rfl, rfl, hm, hb, hd⟩ := hrel
      have HD : Hid (Lib.decDigits u = ahead m ++ l) := hd
      have hl : l.length ≤ 20 := by
        have e := congrArg List.length hd
        rw [List.length_append, Lib.decDigits_length] at e
        have := Lib.nDigits_le20 u (by omega)
        omega
      clear hd
      by_cases hlt : m < 10
      · go_wp2
        go_ret
        refine ⟨?_, hb⟩
        have := HD.out
        rw [ahead, if_pos hlt, List.nil_append] at this
        rw [printL, if_neg (by omega), Lib.itoa_nonneg, this]
        rfl
      · go_wp2
        go_roundw
        case rel =>
          refine ⟨m / 10, UInt8.ofNat (48 + m / 10 % 10) :: l, by go_num, ?_, by omega, hb.alloc hb.size _, ?_⟩
          · exact congrArg Value.string (ByteArray.ext (by simp))
          · rw [HD.out, ahead, if_neg hlt, dec_ahead (m / 10)]
            simp
        case measure => simp [RowKit.intOf]; omega
end Go.Proofs.YtipbphflboooeaaDoor
