/-
  The walks of Parse, the program's and the document's.
-/
import Derived.Test.YteaccpolmmkclaaDoorProg
import Derived.Test.YteaccpolmmkclaaDoorPlA
import Derived.WalkKit
import Derived.WalkSpells
import Derived.WalkLawsBesides
namespace Go.Proofs.YteaccpolmmkclaaDoor
open Go.RowKit

set_option maxHeartbeats 400000 in
set_option maxRecDepth 1000000 in
theorem parse_any (s : ByteArray) (most : Int) (w : World) (hm0 : -9223372036854775808 ≤ most) (hm1 : most ≤ 9223372036854775807) :
    Calls Tryd.prog 64 #[.string s, .int .i64 most] w fun e w' => e = .returned (.tuple #[.int .i64 (parseV s.data.toList most), .bool (parseB s.data.toList most)]) ∧ ∃ pos, w' = w.iter s pos := by
  go_enter Tryd.func64, Tryd.ntmps64
  go_wp2
  go_loopw [6] (fun v w' => ∃ (pos : Nat) (n : Int), w' = w.iter s pos ∧ v = .int .i64 n ∧ 0 ≤ n ∧ (n = 0 ∨ n ≤ most) ∧ pos ≤ s.size ∧ (pos = 0 → n = 0) ∧ parseFrom most (s.data.toList.drop pos) n = parseFrom most s.data.toList 0) (fun _ w' => s.size - w'.iterPos w.heap.size)
  case atStart => exact ⟨0, 0, rfl, rfl, by omega, .inl rfl, Nat.zero_le _, fun _ => rfl, by rw [List.drop_zero]⟩
  case round =>
    obtain ⟨pos, n, rfl, rfl, hn0, hn1, hps, hz, ha⟩ := hrel
    have HA : Hid (parseFrom most (s.data.toList.drop pos) n = parseFrom most s.data.toList 0) := ha
    clear ha
    have HZ : Hid (pos = 0 → n = 0) := hz
    clear hz
    have HN : Hid (n = 0 ∨ n ≤ most) := hn1
    have hn2 : n ≤ 9223372036854775807 := by omega
    clear hn1
    by_cases hp : pos < s.size
    · have hnx : ∀ ty, (Instr.next (.pointer (some ⟨w.heap.size, 0, none⟩)) true ty).run Tryd.prog (w.iter s pos) = _ := fun ty => run_next_any w s pos ty hp
      rcases rune_byte s pos hp with ⟨h1, h2, h3⟩ | ⟨h1, h2⟩
      · rw [h2, h3] at hnx
        rw [h2] at h1
        clear h2 h3
        go_wp2
        · go_ret2
          obtain ⟨e1, e2⟩ := parse_none s most (by rw [← HA.out]; exact parse_no s pos hp most n (by omega))
          exact ⟨by rw [e1, e2]; rfl, _, rfl⟩
        · go_ret2
          obtain ⟨e1, e2⟩ := parse_none s most (by rw [← HA.out]; exact parse_much s pos hp most n (by assumption))
          exact ⟨by rw [e1, e2]; rfl, _, rfl⟩
        · have hN := HN.out
          have hb : (s[pos].toNat : Int) - 48 ≤ most ∧ n ≤ (most - ((s[pos].toNat : Int) - 48)) / 10 := by assumption
          have hd : (48 : Int) ≤ (s[pos].toNat : Int) ∧ (s[pos].toNat : Int) ≤ 57 := by assumption
          go_roundw
          case rel => exact ⟨pos + 1, _, rfl, rfl, by omega, by omega, by omega, by omega, by rw [← parse_step s pos hp most n hd.1 hd.2 hb.1 hb.2]; exact HA.out⟩
          case measure => simp; omega
        · go_ret2
          obtain ⟨e1, e2⟩ := parse_none s most (by rw [← HA.out]; exact parse_much s pos hp most n (.inl (by omega)))
          exact ⟨by rw [e1, e2]; rfl, _, rfl⟩
        · go_ret2
          obtain ⟨e1, e2⟩ := parse_none s most (by rw [← HA.out]; exact parse_no s pos hp most n (by omega))
          exact ⟨by rw [e1, e2]; rfl, _, rfl⟩
      · go_wp2
        go_ret2
        obtain ⟨e1, e2⟩ := parse_none s most (by rw [← HA.out]; exact parse_no s pos hp most n (by omega))
        exact ⟨by rw [e1, e2]; rfl, _, rfl⟩
    · have hnx : ∀ ty, (Instr.next (.pointer (some ⟨w.heap.size, 0, none⟩)) true ty).run Tryd.prog (w.iter s pos) = _ := fun ty => run_next_end w s pos ty hp
      go_wp2
      go_ret2
      obtain ⟨e1, e2⟩ := parse_some s most n (by rw [← HA.out]; exact parse_end s pos hp most n) (fun he => HZ.out (by have := size_zero s he; omega))
      refine ⟨?_, _, rfl⟩
      rw [e1, e2, ← Array.isEmpty_toList, ← ByteArray.toList_eq]
      rfl
end Go.Proofs.YteaccpolmmkclaaDoor
