/-
  Pow, Print, Parse, Valid.
-/
import Derived.Test.YtomgnailgddchaaDoorProg
import Derived.WalkKit
import Derived.WalkSpells
import Derived.WalkLawsBesides
import Derived.WalkSmall
import Derived.Lib.LaidTab
import Derived.Lib.ItoaLen
import Derived.Test.YtomgnailgddchaaDoorShelf
import Derived.Test.YtomgnailgddchaaDoorJB
import Derived.Deep.LoopGhost
namespace Go.Proofs.YtomgnailgddchaaDoor
open Go.RowKit Go.Lib Go.Sort

theorem gPow : Tryd.prog.globalNamed "internal/strconv.uint64pow10" = some 2 := by kernel_rfl
theorem below_grow (B : Nat) (w : World) (hB : B ≤ w.heap.size) (k : Nat) (os : Array Obj) : Below B w (grow (w.drewN k) os) :=
  ⟨rfl, rfl, rfl, by show w.heap.size ≤ (w.heap ++ os).size; rw [Array.size_append]; omega, fun j hj => by
    show (w.heap ++ os)[j]? = _
    rw [Array.getElem?_append_left (by omega)]⟩
theorem tab_lt {W : World} (h : Lib.TabIs Tryd.prog W "internal/strconv.uint64pow10" .u64 Lib.pow10Tab) : 2 < W.heap.size := by
  unfold Lib.TabIs World.var? at h
  simp only [gPow, Option.bind_some] at h
  rcases hx : W.heap[2]? with _ | o
  · simp [hx] at h
  · exact (Array.getElem?_eq_some_iff.1 hx).1
theorem tab_below {W W' : World} (hb : Below W.heap.size W W') (h : Lib.TabIs Tryd.prog W "internal/strconv.uint64pow10" .u64 Lib.pow10Tab) :
    Lib.TabIs Tryd.prog W' "internal/strconv.uint64pow10" .u64 Lib.pow10Tab := var?_below hb gPow (tab_lt h) h
end Go.Proofs.YtomgnailgddchaaDoor

namespace Go.Proofs.YtomgnailgddchaaDoor
open Go.RowKit Go.Lib Go.Sort


set_option maxHeartbeats 400000 in
theorem print_grew (n : Int) (w : World) (h0 : -9223372036854775808 ≤ n) (h1 : n ≤ 9223372036854775807) (htab : Lib.TabIs Tryd.prog w "internal/strconv.uint64pow10" .u64 Lib.pow10Tab) :
    Calls Tryd.prog 40 #[.int .i64 n] w fun e w' => e = .returned (.string ⟨(printL n).toArray⟩) ∧ ∃ k os, w' = grow (w.drewN k) os := by
  by_cases hn : n < 0
  · go_enter Tryd.func40, Tryd.ntmps40
    go_wp2
    go_ret
    exact ⟨by rw [printL, if_pos hn]; rfl, 0, #[], by simp; rfl⟩
  · go_enter Tryd.func40, Tryd.ntmps40
    have HT : Hid (Lib.TabIs Tryd.prog w "internal/strconv.uint64pow10" .u64 Lib.pow10Tab) := htab
    clear htab
    go_wp2_with (go_at_call 49; refine (Tryd.strconv_Itoa n h0 h1 _ HT.out).mono ?_; rintro e w' ⟨rfl, k, os, rfl⟩)
    go_ret
    exact ⟨by rw [printL, if_neg (by omega)]; rfl, k, os, rfl⟩

theorem print_any (n : Int) (w : World) (h0 : -9223372036854775808 ≤ n) (h1 : n ≤ 9223372036854775807) (htab : Lib.TabIs Tryd.prog w "internal/strconv.uint64pow10" .u64 Lib.pow10Tab) :
    Calls Tryd.prog 40 #[.int .i64 n] w fun e w' => e = .returned (.string ⟨(printL n).toArray⟩) ∧ Below w.heap.size w w' := by
  refine (print_grew n w h0 h1 htab).mono ?_
  rintro e w' ⟨rfl, k, os, rfl⟩
  exact ⟨rfl, below_grow _ _ (Nat.le_refl _) _ _⟩
end Go.Proofs.YtomgnailgddchaaDoor

namespace Go.Proofs.YtomgnailgddchaaDoor
open Go.RowKit

set_option maxHeartbeats 400000 in
set_option maxRecDepth 1000000 in
theorem parse_any (s : ByteArray) (most : Int) (w : World) (hm0 : -9223372036854775808 ≤ most) (hm1 : most ≤ 9223372036854775807) :
    Calls Tryd.prog 64 #[.string s, .int .i64 most] w fun e w' => e = .returned (.tuple #[.int .i64 (parseV s.data.toList most), .bool (parseB s.data.toList most)]) ∧ ∃ pos, w' = w.iter s pos := by
  go_enter Tryd.func64, Tryd.ntmps64
  go_wp2
  go_loopw [6] (fun v w' => ∃ (pos : Nat) (n : Int), w' = w.iter s pos ∧ v = .int .i64 n ∧ 0 ≤ n ∧ (n = 0 ∨ n ≤ most) ∧ pos ≤ s.size ∧ (pos = 0 → n = 0) ∧ parseFrom most (s.data.toList.drop pos) n = parseFrom most s.data.toList 0) (fun _ w' => s.size - w'.iterPos w.heap.size)
  case atStart => exact ⟨0, 0, rfl, rfl, by omega, .inl rfl, Nat.zero_le _, fun _ => rfl, by rw [List.drop_zero]⟩
  case round =>
    obtain ⟨pos, n, rfl, rfl, hn0, hn1, hps, hz, ha⟩ := hrel
    have HA : Hid (parseFrom most (s.data.toList.drop pos) n = parseFrom most s.data.toList 0) := ha
    clear ha
    have HZ : Hid (pos = 0 → n = 0) := hz
    clear hz
    have HN : Hid (n = 0 ∨ n ≤ most) := hn1
    have hn2 : n ≤ 9223372036854775807 := by omega
    clear hn1
    by_cases hp : pos < s.size
    · have hnx : ∀ ty, (Instr.next (.pointer (some ⟨w.heap.size, 0, none⟩)) true ty).run Tryd.prog (w.iter s pos) = _ := fun ty => run_next_any w s pos ty hp
      rcases rune_byte s pos hp with ⟨h1, h2, h3⟩ | ⟨h1, h2⟩
      · rw [h2, h3] at hnx
        rw [h2] at h1
        clear h2 h3
        go_wp2
        · go_ret2
          obtain ⟨e1, e2⟩ := parse_none s most (by rw [← HA.out]; exact parse_no s pos hp most n (by omega))
          exact ⟨by rw [e1, e2]; rfl, _, rfl⟩
        · go_ret2
          obtain ⟨e1, e2⟩ := parse_none s most (by rw [← HA.out]; exact parse_much s pos hp most n (by assumption))
          exact ⟨by rw [e1, e2]; rfl, _, rfl⟩
        · have hN := HN.out
          have hb : (s[pos].toNat : Int) - 48 ≤ most ∧ n ≤ (most - ((s[pos].toNat : Int) - 48)) / 10 := by assumption
          have hd : (48 : Int) ≤ (s[pos].toNat : Int) ∧ (s[pos].toNat : Int) ≤ 57 := by assumption
          go_roundw
          case rel => exact ⟨pos + 1, _, rfl, rfl, by omega, by omega, by omega, by omega, by rw [← parse_step s pos hp most n hd.1 hd.2 hb.1 hb.2]; exact HA.out⟩
          case measure => simp; omega
        · go_ret2
          obtain ⟨e1, e2⟩ := parse_none s most (by rw [← HA.out]; exact parse_much s pos hp most n (.inl (by omega)))
          exact ⟨by rw [e1, e2]; rfl, _, rfl⟩
        · go_ret2
          obtain ⟨e1, e2⟩ := parse_none s most (by rw [← HA.out]; exact parse_no s pos hp most n (by omega))
          exact ⟨by rw [e1, e2]; rfl, _, rfl⟩
      · go_wp2
        go_ret2
        obtain ⟨e1, e2⟩ := parse_none s most (by rw [← HA.out]; exact parse_no s pos hp most n (by omega))
        exact ⟨by rw [e1, e2]; rfl, _, rfl⟩
    · have hnx : ∀ ty, (Instr.next (.pointer (some ⟨w.heap.size, 0, none⟩)) true ty).run Tryd.prog (w.iter s pos) = _ := fun ty => run_next_end w s pos ty hp
      go_wp2
      go_ret2
      obtain ⟨e1, e2⟩ := parse_some s most n (by rw [← HA.out]; exact parse_end s pos hp most n) (fun he => HZ.out (by have := size_zero s he; omega))
      refine ⟨?_, _, rfl⟩
      rw [e1, e2, ← Array.isEmpty_toList, ← ByteArray.toList_eq]
      rfl
end Go.Proofs.YtomgnailgddchaaDoor

namespace Go.Proofs.YtomgnailgddchaaDoor
open Go.RowKit

theorem u8_of {c : UInt8} : UInt8.ofNat c.toNat = c := by simp
set_option maxHeartbeats 400000 in
set_option maxRecDepth 1000000 in
theorem mayStand_any (c : UInt8) (w : World) :
    Calls Tryd.prog 45 #[.int .u8 c.toNat] w fun e w' => e = .returned (.bool (okn c)) ∧ w' = w := by
  go_enter Tryd.func45, Tryd.ntmps45
  go_wp2_with (first
    | (go_at_call 59; refine (Tryd.strings_IndexByte _ _ _).mono ?_; rintro e w' ⟨rfl, rfl⟩))
  all_goals go_ret
  all_goals refine ⟨?_, rfl⟩
  all_goals first
    | (rw [okn_in (c := c) (by omega)]; rfl)
    | (rw [okn_out (c := c) (by omega) (by omega) (by omega), ← index_others]; rfl)

theorem no_bad {s : ByteArray} (h1 : 1 ≤ s.size) (h2 : ¬ 200 < s.size) (h3 : ¬ s[0].toNat = 45) : ¬ (((s.size : Int) < 1 ∨ 200 < (s.size : Int)) ∨ ((s[0].toNat : Int) == 45) = true) := by
  simp only [beq_iff_eq]
  omega
set_option maxHeartbeats 400000 in
set_option maxRecDepth 1000000 in
theorem valid_any (s : ByteArray) (w : World) :
    Calls Tryd.prog 37 #[.string s] w fun e w' => e = .returned (.bool (validB s.data.toList)) ∧ w' = w := by
  by_cases h1 : s.size < 1
  · go_enter Tryd.func37, Tryd.ntmps37
    go_wp2_with fail
    go_ret
    exact ⟨by rw [valid_short s h1]; rfl, rfl⟩
  by_cases h2 : 200 < s.size
  · go_enter Tryd.func37, Tryd.ntmps37
    go_wp2_with fail
    go_ret
    exact ⟨by rw [valid_long s h2]; rfl, rfl⟩
  by_cases h3 : s[0].toNat = 45
  · go_enter Tryd.func37, Tryd.ntmps37
    go_wp2_with fail
    go_ret
    exact ⟨by rw [valid_dash s (by omega) h3]; rfl, rfl⟩
  go_enter Tryd.func37, Tryd.ntmps37
  go_wp2_with fail
  · rename_i hbad
    exact absurd hbad (no_bad (show 1 ≤ s.size by omega) h2 h3)
  rename_i hgood _ _
  have H3 : Hid (¬ s[0].toNat = 45) := h3
  clear h3 hgood
  go_loopg [19] s.size (fun gk i wr => ∃ k : Nat, i = .int .i64 k ∧ k ≤ s.size ∧ s.size - k ≤ gk ∧ wr = w ∧ Hid ((s.data.toList.take k).all okn = true))
  case atStart => exact ⟨0, rfl, Nat.zero_le _, Nat.le_refl _, rfl, rfl⟩
  case round =>
    obtain ⟨k, rfl, hk, hgk, hwr, HA⟩ := hrel
    subst hwr
    by_cases hp : k < s.size
    · go_wp2_with (first
        | (go_at_call 45; refine (mayStand_any s[k] _).mono ?_; rintro e w' ⟨rfl, hw'⟩; obtain rfl := hw'.symm))
      · go_ret
        exact ⟨by rw [valid_no s k hp (by rename_i hq; simpa using hq)]; rfl, rfl⟩
      · rename_i hq
        go_roundg (s.size - (k + 1))
        case measure => omega
        case rel => exact ⟨k + 1, by go_num, by omega, Nat.le_refl _, rfl, valid_step s k hp HA.out (by simpa using hq)⟩
    · go_wp2_with fail
      go_ret
      exact ⟨by rw [valid_end s k hp (by omega) (by omega) H3.out HA.out]; rfl, rfl⟩
end Go.Proofs.YtomgnailgddchaaDoor
