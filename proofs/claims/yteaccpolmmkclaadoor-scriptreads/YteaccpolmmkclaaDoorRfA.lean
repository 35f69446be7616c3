/-
  RefWord, RefSplit, RefParse, RefLines.
-/
import Derived.Test.YteaccpolmmkclaaDoorProg
import Derived.Test.YteaccpolmmkclaaDoorPlA
import Derived.WalkKit
import Derived.WalkSpells
import Derived.WalkLawsBesides
import Derived.Test.YteaccpolmmkclaaDoorWoS
import Derived.Test.YteaccpolmmkclaaDoorPlB
import Derived.Test.YteaccpolmmkclaaDoorStrs
import Derived.Test.YteaccpolmmkclaaDoorDatA
namespace Go.Proofs.YteaccpolmmkclaaDoor
open Go.RowKit

set_option maxHeartbeats 400000 in
set_option maxRecDepth 1000000 in
theorem refWord_any (s : ByteArray) (w : World) (hs : s.size ≤ maxLen) :
    Calls Tryd.prog 34 #[.string s] w fun e w' => e = .returned (.bool (wordB s.data.toList)) ∧ w' = w := by
  unfold maxLen at hs
  go_enter Tryd.func34, Tryd.ntmps34
  go_wp2
  go_loop [3] (fun i => ∃ k : Nat, k ≤ s.size ∧ i = .int .i64 k ∧ (s.data.toList.take k).all okc = true) (fun i => s.size - (intOf i).toNat)
  case atStart => exact ⟨0, Nat.zero_le _, rfl, rfl⟩
  case round =>
    obtain ⟨k, hk, rfl, ha⟩ := hrel
    have HA : Hid ((s.data.toList.take k).all okc = true) := ha
    clear ha
    by_cases hp : k < s.size
    · go_wp2
      · go_ret
        exact ⟨by rw [word_no s k hp (by omega)]; rfl, rfl⟩
      · go_round
        case rel => exact ⟨k + 1, by omega, by go_num, word_step s k hp HA.out (by omega) (by omega)⟩
        case measure => simp [intOf]; omega
      · go_ret
        exact ⟨by rw [word_no s k hp (by omega)]; rfl, rfl⟩
    · go_wp2
      go_ret
      refine ⟨?_, rfl⟩
      rw [word_end s k hp HA.out]
      simp [pos_empty]
end Go.Proofs.YteaccpolmmkclaaDoor

namespace Go.Proofs.YteaccpolmmkclaaDoor
open Go.RowKit Go.Lib

/-- The state of the document's loop at place k. -/
def RefAt (s : ByteArray) (k start : Nat) (acc : List ByteArray) : Prop :=
  (k ≤ s.size ∧ start ≤ k ∧ pieces s.data.toList [] = acc.map (·.data.toList) ++ pieces (s.data.toList.drop k) (s.extract start k).data.toList) ∨
  (k = s.size + 1 ∧ acc ≠ [] ∧ splitL s.data.toList = some (acc.map (·.data.toList)))

theorem refAt_zero (s : ByteArray) : RefAt s 0 0 [] := .inl ⟨Nat.zero_le _, Nat.le_refl _, by simp⟩
theorem refAt_step (s : ByteArray) (k start : Nat) (acc : List ByteArray) (hk : k < s.size) (hb : s[k].toNat ≠ 32) (h : RefAt s k start acc) : RefAt s (k + 1) start acc := by
  rcases h with ⟨h1, h2, h3⟩ | ⟨h1, _⟩
  · refine .inl ⟨by omega, by omega, ?_⟩
    rw [h3, drop_cons s k hk, pieces, if_neg hb, snoc_extract s start k h2 hk]
  · omega
theorem refAt_word (s : ByteArray) (k start : Nat) (acc : List ByteArray) (hk : k < s.size) (hb : s[k].toNat = 32) (h : RefAt s k start acc) : RefAt s (k + 1) (k + 1) (acc ++ [s.extract start k]) := by
  rcases h with ⟨h1, h2, h3⟩ | ⟨h1, _⟩
  · refine .inl ⟨by omega, Nat.le_refl _, ?_⟩
    rw [h3, drop_cons s k hk, pieces, if_pos hb]
    simp
  · omega
theorem refAt_no (s : ByteArray) (k start : Nat) (acc : List ByteArray) (hk : k ≤ s.size) (hb : ∀ h : k < s.size, (s[k]'h).toNat = 32) (h : RefAt s k start acc) (hw : wordB (s.extract start k).data.toList = false) : splitL s.data.toList = none := by
  rcases h with ⟨h1, h2, h3⟩ | ⟨h1, _⟩
  · refine piece_split _ _ _ _ h3 ?_ hw
    by_cases hlt : k < s.size
    · rw [drop_cons s k hlt, pieces, if_pos (hb hlt)]; simp
    · rw [List.drop_of_length_le (by simp; omega), pieces]; simp
  · omega
theorem refAt_last (s : ByteArray) (start : Nat) (acc : List ByteArray) (h : RefAt s s.size start acc) (ha : ∀ x ∈ acc, wordB x.data.toList = true) (hw : wordB (s.extract start s.size).data.toList = true) :
    RefAt s (s.size + 1) (s.size + 1) (acc ++ [s.extract start s.size]) := by
  rcases h with ⟨h1, h2, h3⟩ | ⟨h1, _⟩
  · refine .inr ⟨rfl, by simp, ?_⟩
    have e : pieces s.data.toList [] = (acc ++ [s.extract start s.size]).map (·.data.toList) := by
      rw [h3, List.drop_of_length_le (by simp), pieces]; simp
    unfold splitL
    rw [if_pos, e]
    rw [e, List.all_eq_true]
    intro x hx
    obtain ⟨y, hy, rfl⟩ := List.mem_map.1 hx
    rcases List.mem_append.1 hy with hy | hy
    · exact ha y hy
    · simp at hy; subst hy; exact hw
  · omega

set_option maxHeartbeats 1000000 in
set_option maxRecDepth 1000000 in
theorem refSplit_any (s : ByteArray) (w : World) (hs : s.size ≤ 4398046511104) :
    Calls Tryd.prog 15 #[.string s] w (SplitPost s w) := by
  obtain ⟨i9, hi, hz0, hz1, hz2⟩ := info_parts info_string
  go_enter Tryd.func15, Tryd.ntmps15
  go_wp2
  go_loopw [4, 5, 6] (fun v f i wr => ∃ (k start : Nat) (acc : List ByteArray), i = .int .i64 k ∧ f = .int .i64 start ∧ k ≤ s.size + 1 ∧ start ≤ k ∧ acc.length ≤ start ∧
      wr.ownsRow w.heap.size 9 1 v acc.length (acc.map Value.string) ∧ Below w.heap.size w wr ∧ (∀ x ∈ acc, wordB x.data.toList = true) ∧ RefAt s k start acc) (fun _ _ i _ => s.size + 1 - (RowKit.intOf i).toNat)
  case atStart => exact ⟨0, 0, [], rfl, rfl, by omega, by omega, by simp, World.ownsRow_lit _ _ _ (by omega) (by decide) (by simp), (Below.refl _ _).alloc (Nat.le_refl _) _, (fun x hx => by cases hx), refAt_zero s⟩
  case round =>
    obtain ⟨k, start, acc, rfl, rfl, hk, hsk, hal, hown, hbw, hok, hat⟩ := hrel
    have HOK : Hid (∀ x ∈ acc, wordB x.data.toList = true) := hok
    have HAT : Hid (RefAt s k start acc) := hat
    clear hok hat
    by_cases hend : k ≤ s.size
    · have hxm : (s.extract start k).size ≤ maxLen := by
        have : (s.extract start k).size = min k s.size - start := by simp
        unfold maxLen; omega
      have HXM : Hid ((s.extract start k).size ≤ maxLen) := hxm
      clear hxm
      by_cases hgo : ∃ h : k < s.size, (s[k]'h).toNat ≠ 32
      · obtain ⟨hlt, hb⟩ := hgo
        have hb' : ((s[k].toNat : Int) != 32) = true := by simp; omega
        have HB : Hid (s[k].toNat ≠ 32) := hb
        clear hb
        go_wp2
        go_roundw
        case rel => exact ⟨k + 1, start, acc, by go_num, rfl, by omega, by omega, hal, hown, hbw, HOK.out, refAt_step s k start acc hlt HB.out HAT.out⟩
        case measure => simp [RowKit.intOf]; omega
      · have hb32 : ∀ h : k < s.size, (s[k]'h).toNat = 32 := fun h => Classical.byContradiction fun hn => hgo ⟨h, hn⟩
        have HB : Hid (∀ h : k < s.size, (s[k]'h).toNat = 32) := hb32
        clear hgo
        cases hw : wordB (s.extract start k).data.toList
        · have HW : Hid (wordB (s.extract start k).data.toList = false) := hw
          clear hw
          by_cases hlt : k < s.size
          · have hb' : ((s[k].toNat : Int) != 32) = false := by simp [hb32 hlt]
            clear hb32
            go_wp2_with (go_at_call 34; refine (refWord_any _ _ HXM.out).mono ?_; rintro e W' ⟨rfl, hW⟩; have hW := hW.symm; subst hW; rw [HW.out])
            go_ret2
            exact ⟨hbw, .inl ⟨refAt_no s k start acc hend HB.out HAT.out HW.out, rfl⟩⟩
          · clear hb32
            go_wp2_with (go_at_call 34; refine (refWord_any _ _ HXM.out).mono ?_; rintro e W' ⟨rfl, hW⟩; have hW := hW.symm; subst hW; rw [HW.out])
            go_ret2
            exact ⟨hbw, .inl ⟨refAt_no s k start acc hend HB.out HAT.out HW.out, rfl⟩⟩
        · have HW : Hid (wordB (s.extract start k).data.toList = true) := hw
          clear hw
          have hok2 : Hid (∀ x ∈ acc ++ [s.extract start k], wordB x.data.toList = true) := by
            intro x hx
            rcases List.mem_append.1 hx with h | h
            · exact HOK.out x h
            · simp at h; subst h; exact HW.out
          by_cases hlt : k < s.size
          · have hb' : ((s[k].toNat : Int) != 32) = false := by simp [hb32 hlt]
            clear hb32
            go_wp2_with (first
              | (go_at_call 34; refine (refWord_any _ _ HXM.out).mono ?_; rintro e W' ⟨rfl, hW⟩; have hW := hW.symm; subst hW; rw [HW.out])
              | (at_builtin; go_must (refine wpList_append_own _ rfl (.tmp 30) (.tmp 35) 48 rfl w.heap.size 9 i9 (.string ⟨#[]⟩) 1 16 Tryd.underlying48 hi hz0 hz1 hz2 rfl (by decide) _ _ _ rfl (hown.alloc _) ⟨wr.heap.size, 0, none⟩ 1 1 [.string (s.extract start k)] rfl rfl (cell_one_new _ _ _) (by intro u hu; simp at hu; subst hu; rfl) (by unfold maxLen; omega) (by omega) (by have := hbw.size; simp; omega) ?_; intro v3 w3 hown3 hgrow3 hnil3)))
            go_roundw
            case rel =>
              have hX := hown.alloc (.cells #[.string (s.extract start k)] 9)
              exact ⟨k + 1, k + 1, acc ++ [s.extract start k], by go_num, by go_num, by omega, Nat.le_refl _, by simp; omega, by rw [List.length_append, List.map_append]; exact hown3, (hbw.alloc hbw.size _).grown hgrow3 (by have := hbw.size; simp; omega) (fun j hj => (hX.lt j hj).1), hok2.out, refAt_word s k start acc hlt (HB.out hlt) HAT.out⟩
            case measure => simp [RowKit.intOf]; omega
          · clear hb32
            obtain rfl : k = s.size := by omega
            go_wp2_with (first
              | (go_at_call 34; refine (refWord_any _ _ HXM.out).mono ?_; rintro e W' ⟨rfl, hW⟩; have hW := hW.symm; subst hW; rw [HW.out])
              | (at_builtin; go_must (refine wpList_append_own _ rfl (.tmp 30) (.tmp 35) 48 rfl w.heap.size 9 i9 (.string ⟨#[]⟩) 1 16 Tryd.underlying48 hi hz0 hz1 hz2 rfl (by decide) _ _ _ rfl (hown.alloc _) ⟨wr.heap.size, 0, none⟩ 1 1 [.string (s.extract start s.size)] rfl rfl (cell_one_new _ _ _) (by intro u hu; simp at hu; subst hu; rfl) (by unfold maxLen; omega) (by omega) (by have := hbw.size; simp; omega) ?_; intro v3 w3 hown3 hgrow3 hnil3)))
            go_roundw
            case rel =>
              have hX := hown.alloc (.cells #[.string (s.extract start s.size)] 9)
              exact ⟨s.size + 1, s.size + 1, acc ++ [s.extract start s.size], by go_num, by go_num, by omega, Nat.le_refl _, by simp; omega, by rw [List.length_append, List.map_append]; exact hown3, (hbw.alloc hbw.size _).grown hgrow3 (by have := hbw.size; simp; omega) (fun j hj => (hX.lt j hj).1), hok2.out, refAt_last s start acc HAT.out HOK.out HW.out⟩
            case measure => simp [RowKit.intOf]
    · obtain ⟨hne, hsp⟩ : acc ≠ [] ∧ splitL s.data.toList = some (acc.map (·.data.toList)) := by
        rcases HAT.out with ⟨h1, _⟩ | ⟨_, h2, h3⟩
        · omega
        · exact ⟨h2, h3⟩
      have HSP : Hid (splitL s.data.toList = some (acc.map (·.data.toList))) := hsp
      clear hsp
      obtain ⟨g3, cap3, rfl⟩ : ∃ g3 cap3, u4 = .slice (some ⟨g3, 0, none⟩) acc.length cap3 := by
        rcases hown.2 with ⟨h, h0⟩ | ⟨g5, cap5, _, h, _⟩
        · exact absurd (List.length_eq_zero_iff.1 h0) hne
        · exact ⟨g5, cap5, h⟩
      clear hne
      go_wp2
      go_ret2
      exact ⟨hbw, .inr ⟨acc, g3, cap3, HSP.out, rfl, (hown.lt g3 rfl).1, hown⟩⟩
end Go.Proofs.YteaccpolmmkclaaDoor

namespace Go.Proofs.YteaccpolmmkclaaDoor
open Go.RowKit

set_option maxHeartbeats 400000 in
set_option maxRecDepth 1000000 in
theorem refParse_any (s : ByteArray) (most : Int) (w : World) (hs : s.size ≤ maxLen) (hm0 : -9223372036854775808 ≤ most) (hm1 : most ≤ 9223372036854775807) :
    Calls Tryd.prog 35 #[.string s, .int .i64 most] w fun e w' => e = .returned (.tuple #[.int .i64 (parseV s.data.toList most), .bool (parseB s.data.toList most)]) ∧ w' = w := by
  unfold maxLen at hs
  by_cases hneg : s.size = 0 ∨ most < 0
  · have hv := parse_neg s most (by
      rcases hneg with h | h
      · left; have := pos_empty s; simp [h] at this; simpa using this
      · exact .inr h)
    have HV : Hid (parseV s.data.toList most = 0 ∧ parseB s.data.toList most = false) := hv
    clear hv
    by_cases h0 : s.size = 0
    · have h0' : ((s.size : Int) == 0) = true := by simp [h0]
      clear h0 hneg
      go_enter Tryd.func35, Tryd.ntmps35
      go_wp2
      go_ret2
      exact ⟨by rw [HV.out.1, HV.out.2]; rfl, rfl⟩
    · have h0' : ((s.size : Int) == 0) = false := by simp [h0]
      have h1 : most < 0 := by omega
      clear h0 hneg
      go_enter Tryd.func35, Tryd.ntmps35
      go_wp2
      go_ret2
      exact ⟨by rw [HV.out.1, HV.out.2]; rfl, rfl⟩
  · have h0' : ((s.size : Int) == 0) = false := beq_zero (by omega)
    have h1 : 0 ≤ most := by omega
    have hsz : 0 < s.size := by omega
    clear hneg
    go_enter Tryd.func35, Tryd.ntmps35
    go_wp2
    go_loop [6, 7] (fun v i => ∃ (k : Nat) (n : Int), i = .int .i64 k ∧ v = .int .i64 n ∧ 0 ≤ n ∧ n ≤ most ∧ k ≤ s.size ∧ parseFrom most (s.data.toList.drop k) n = parseFrom most s.data.toList 0) (fun _ i => s.size - (intOf i).toNat)
    case atStart => exact ⟨0, 0, rfl, rfl, by omega, by omega, Nat.zero_le _, by rw [List.drop_zero]⟩
    case round =>
      obtain ⟨k, n, rfl, rfl, hn0, hn1, hk, ha⟩ := hrel
      have HA : Hid (parseFrom most (s.data.toList.drop k) n = parseFrom most s.data.toList 0) := ha
      clear ha
      by_cases hp : k < s.size
      · go_wp2
        · go_ret2
          obtain ⟨e1, e2⟩ := parse_none s most (by rw [← HA.out]; exact parse_no s k hp most n (by omega))
          exact ⟨by rw [e1, e2]; rfl, rfl⟩
        · go_ret2
          obtain ⟨e1, e2⟩ := parse_none s most (by rw [← HA.out]; exact parse_much s k hp most n (by assumption))
          exact ⟨by rw [e1, e2]; rfl, rfl⟩
        · have hb : (s[k].toNat : Int) - 48 ≤ most ∧ n ≤ (most - ((s[k].toNat : Int) - 48)) / 10 := by assumption
          have hd : (48 : Int) ≤ (s[k].toNat : Int) ∧ (s[k].toNat : Int) ≤ 57 := by assumption
          go_round
          case rel => exact ⟨k + 1, _, by go_num, rfl, by omega, by omega, by omega, by rw [Int.mul_comm 10 n, ← parse_step s k hp most n hd.1 hd.2 hb.1 hb.2]; exact HA.out⟩
          case measure => simp [intOf]; omega
        · go_ret2
          obtain ⟨e1, e2⟩ := parse_none s most (by rw [← HA.out]; exact parse_much s k hp most n (.inl (by omega)))
          exact ⟨by rw [e1, e2]; rfl, rfl⟩
        · go_ret2
          obtain ⟨e1, e2⟩ := parse_none s most (by rw [← HA.out]; exact parse_no s k hp most n (by omega))
          exact ⟨by rw [e1, e2]; rfl, rfl⟩
      · go_wp2
        go_ret2
        obtain ⟨e1, e2⟩ := parse_some s most n (by rw [← HA.out]; exact parse_end s k hp most n) (fun he => by have := size_zero s he; omega)
        refine ⟨?_, rfl⟩
        rw [e1, e2, ← pos_empty]
        simp [hsz]
end Go.Proofs.YteaccpolmmkclaaDoor

namespace Go.Proofs.YteaccpolmmkclaaDoor
open Go.RowKit Go.Lib

def LnAt (s : ByteArray) (k start : Nat) (acc : List ByteArray) : Prop := k ≤ s.size ∧ start ≤ k ∧ linesP s.data.toList = acc.map (·.data.toList) ++ linesA (s.data.toList.drop k) (s.extract start k).data.toList
theorem lnAt_zero (s : ByteArray) : LnAt s 0 0 [] := ⟨Nat.zero_le _, Nat.le_refl _, by simp [linesP]⟩
theorem lnAt_step (s : ByteArray) (k start : Nat) (acc : List ByteArray) (hk : k < s.size) (hb : s[k] ≠ 10) (h : LnAt s k start acc) : LnAt s (k + 1) start acc := by
  obtain ⟨h1, h2, h3⟩ := h
  refine ⟨by omega, by omega, ?_⟩
  rw [h3, drop_cons s k hk, linesA, if_neg hb, snoc_extract s start k h2 hk]
theorem lnAt_line (s : ByteArray) (k start : Nat) (acc : List ByteArray) (hk : k < s.size) (hb : s[k] = 10) (h : LnAt s k start acc) : LnAt s (k + 1) (k + 1) (acc ++ [s.extract start k]) := by
  obtain ⟨h1, h2, h3⟩ := h
  refine ⟨by omega, Nat.le_refl _, ?_⟩
  rw [h3, drop_cons s k hk, linesA, if_pos hb]
  simp
theorem lnAt_end (s : ByteArray) (start : Nat) (acc : List ByteArray) (h : LnAt s s.size start acc) : linesP s.data.toList = acc.map (·.data.toList) ++ if start < s.size then [(s.extract start s.size).data.toList] else [] := by
  obtain ⟨h1, h2, h3⟩ := h
  rw [h3, List.drop_of_length_le (by simp), linesA]
  congr 1
  by_cases hl : start < s.size
  · rw [if_pos hl, if_neg]
    intro e
    have := congrArg List.length e
    simp at this
    have hz : s.data.size = s.size := rfl
    omega
  · rw [if_neg hl, if_pos]
    apply List.eq_nil_of_length_eq_zero
    simp
    have hz : s.data.size = s.size := rfl
    omega
def LinesPost (s : ByteArray) (w : World) (e : Ending) (w' : World) : Prop :=
  Below w.heap.size w w' ∧ ∃ (ss : List ByteArray) (g cap : Nat), e = .returned (.slice (some ⟨g, 0, none⟩) ss.length cap) ∧ w'.ownsRow w.heap.size 9 1 (.slice (some ⟨g, 0, none⟩) ss.length cap) ss.length (ss.map Value.string) ∧ ss.map (·.data.toList) = linesP s.data.toList ∧ ss.length ≤ s.size
theorem form_some {w : World} {B e n : Nat} {v : Value} {xs : List Value} (h : w.ownsRow B e 1 v n xs) (hn : v ≠ .slice none 0 0) : ∃ g c, v = .slice (some ⟨g, 0, none⟩) n c := by
  rcases h.2 with ⟨e, _⟩ | ⟨g, c, _, e, _⟩
  · exact absurd e hn
  · exact ⟨g, c, e⟩
set_option maxHeartbeats 1000000 in
set_option maxRecDepth 1000000 in
theorem refLines_any (s : ByteArray) (w : World) (hs : s.size ≤ 1048576) :
    Calls Tryd.prog 14 #[.string s] w (LinesPost s w) := by
  obtain ⟨i9, hi, hz0, hz1, hz2⟩ := info_parts info_string
  go_enter Tryd.func14, Tryd.ntmps14
  go_wp2
  go_loopw [3, 4, 5] (fun v f i wr => ∃ (k start : Nat) (acc : List ByteArray), i = .int .i64 k ∧ f = .int .i64 start ∧ k ≤ s.size ∧ start ≤ k ∧ acc.length ≤ start ∧ v ≠ .slice none 0 0 ∧
      wr.ownsRow w.heap.size 9 1 v acc.length (acc.map Value.string) ∧ Below w.heap.size w wr ∧ LnAt s k start acc) (fun _ _ i _ => s.size - (RowKit.intOf i).toNat)
  case atStart => exact ⟨0, 0, [], rfl, rfl, by omega, by omega, by simp, by simp, World.ownsRow_lit _ _ _ (by omega) (by decide) (by simp), (Below.refl _ _).alloc (Nat.le_refl _) _, lnAt_zero s⟩
  case round =>
    obtain ⟨k, start, acc, rfl, rfl, hk, hsk, hal, hnn, hown, hbw, hat⟩ := hrel
    have HAT : Hid (LnAt s k start acc) := hat
    have HN : Hid (u3 ≠ .slice none 0 0) := hnn
    clear hat hnn
    by_cases hlt : k < s.size
    · by_cases hb : s[k] = 10
      · have hb' : ((s[k].toNat : Int) == 10) = true := by rw [hb]; rfl
        have HB : Hid (s[k] = 10) := hb
        clear hb
        go_wp2_with (at_builtin; go_must (refine wpList_append_own _ rfl (.tmp 17) (.tmp 22) 48 rfl w.heap.size 9 i9 (.string ⟨#[]⟩) 1 16 Tryd.underlying48 hi hz0 hz1 hz2 rfl (by decide) _ _ _ rfl (hown.alloc _) ⟨wr.heap.size, 0, none⟩ 1 1 [.string (s.extract start k)] rfl rfl (cell_one_new _ _ _) (by intro u hu; simp at hu; subst hu; rfl) (by unfold maxLen; omega) (by omega) (by have := hbw.size; simp; omega) ?_; intro v3 w3 hown3 hgrow3 hnil3))
        go_roundw
        case rel =>
          have hX := hown.alloc (.cells #[.string (s.extract start k)] 9)
          exact ⟨k + 1, k + 1, acc ++ [s.extract start k], by go_num, by go_num, by omega, Nat.le_refl _, by simp; omega, (fun e => by subst e; rcases hown3.2 with ⟨_, h0⟩ | ⟨_, _, _, h0, _⟩ <;> simp at h0), by rw [List.length_append, List.map_append]; exact hown3, (hbw.alloc hbw.size _).grown hgrow3 (by have := hbw.size; simp; omega) (fun j hj => (hX.lt j hj).1), lnAt_line s k start acc hlt HB.out HAT.out⟩
        case measure => simp [RowKit.intOf]; omega
      · have hb' : ((s[k].toNat : Int) == 10) = false := by
          rw [beq_eq_false_iff_ne]
          intro e
          exact hb (UInt8.toNat_inj.1 (by have : (10 : UInt8).toNat = 10 := rfl; omega))
        have HB : Hid (s[k] ≠ 10) := hb
        clear hb
        go_wp2
        go_roundw
        case rel => exact ⟨k + 1, start, acc, by go_num, rfl, by omega, by omega, hal, HN.out, hown, hbw, lnAt_step s k start acc hlt HB.out HAT.out⟩
        case measure => simp [RowKit.intOf]; omega
    · have hke : k = s.size := by omega
      subst hke
      have hend := lnAt_end s start acc HAT.out
      by_cases hl : start < s.size
      · rw [if_pos hl] at hend
        have HE : Hid (linesP s.data.toList = acc.map (·.data.toList) ++ [(s.extract start s.size).data.toList]) := hend
        clear hend
        have hx : (s.extract start s.size) = s.extract start s.size := rfl
        go_wp2_with (at_builtin; go_must (refine wpList_append_own _ rfl (.tmp 30) (.tmp 34) 48 rfl w.heap.size 9 i9 (.string ⟨#[]⟩) 1 16 Tryd.underlying48 hi hz0 hz1 hz2 rfl (by decide) _ _ _ rfl (hown.alloc _) ⟨wr.heap.size, 0, none⟩ 1 1 [.string (s.extract start s.size)] rfl rfl (cell_one_new _ _ _) (by intro u hu; simp at hu; subst hu; rfl) (by unfold maxLen; omega) (by omega) (by have := hbw.size; simp; omega) ?_; intro v3 w3 hown3 hgrow3 hnil3))
        go_ret
        have hX := hown.alloc (.cells #[.string (s.extract start s.size)] 9)
        have ho : w3.ownsRow w.heap.size 9 1 v3 (acc ++ [s.extract start s.size]).length ((acc ++ [s.extract start s.size]).map Value.string) := by rw [List.length_append, List.map_append]; exact hown3
        obtain ⟨g, cap, rfl⟩ := form_some ho (fun e => by subst e; rcases hown3.2 with ⟨_, h0⟩ | ⟨_, _, _, h0, _⟩ <;> simp at h0)
        exact ⟨(hbw.alloc hbw.size _).grown hgrow3 (by have := hbw.size; simp; omega) (fun j hj => (hX.lt j hj).1), acc ++ [s.extract start s.size], g, cap, rfl, ho, by rw [HE.out, List.map_append]; rfl, by simp; omega⟩
      · rw [if_neg hl, List.append_nil] at hend
        have HE : Hid (linesP s.data.toList = acc.map (·.data.toList)) := hend
        clear hend
        go_wp2
        go_ret
        obtain ⟨g, cap, rfl⟩ := form_some hown HN.out
        exact ⟨hbw, acc, g, cap, rfl, hown, HE.out.symm, by omega⟩
/-- What a digit of sixteen says. -/
def digI (c : UInt8) : Int := match hexP c with | some a => (a.toNat : Int) | none => -1
set_option maxHeartbeats 1000000 in
theorem refDigit_any (c : UInt8) (w : World) : Calls Tryd.prog 54 #[.int .u8 (c.toNat : Int)] w fun e w' => e = .returned (.int .i64 (digI c)) ∧ w' = w := by
  obtain ⟨n, hn⟩ : ∃ n, c.toNat = n := ⟨_, rfl⟩
  have h8 : n < 256 := by rw [← hn]; exact UInt8.toNat_lt c
  have hd : digI c = if 48 ≤ n ∧ n ≤ 57 then (n : Int) - 48 else if 97 ≤ n ∧ n ≤ 102 then (n : Int) - 87 else -1 := by
    unfold digI hexP
    rw [hn]
    by_cases h1 : 48 ≤ n ∧ n ≤ 57
    · rw [if_pos h1, if_pos h1]
      simp only [UInt8.toNat_ofNat']
      omega
    · rw [if_neg h1, if_neg h1]
      by_cases h2 : 97 ≤ n ∧ n ≤ 102
      · rw [if_pos h2, if_pos h2]
        simp only [UInt8.toNat_ofNat']
        omega
      · rw [if_neg h2, if_neg h2]
  have HD := hide hd
  clear hd
  rw [hn]
  by_cases a1 : 48 ≤ n
  · by_cases a2 : n ≤ 57
    · have t1 : (48 : Int) ≤ (n : Int) := by omega
      have t2 : (n : Int) ≤ 57 := by omega
      have w1 : IntKind.u8.wrap ((n : Int) - 48) = (n : Int) - 48 := wrap_u8 (by omega) (by omega)
      go_enter Tryd.func54, Tryd.ntmps54
      go_wp2
      go_ret
      exact ⟨by rw [HD.out, if_pos ⟨a1, a2⟩]; rfl, rfl⟩
    · by_cases b1 : 97 ≤ n
      · by_cases b2 : n ≤ 102
        · have w1 : IntKind.u8.wrap ((n : Int) - 97) = (n : Int) - 97 := wrap_u8 (by omega) (by omega)
          go_enter Tryd.func54, Tryd.ntmps54
          go_wp2
          go_ret
          exact ⟨by
            rw [HD.out, if_neg (by omega), if_pos ⟨b1, b2⟩]
            show Ending.returned (.int .i64 ((n : Int) - 97 + 10)) = _
            congr 2
            omega, rfl⟩
        · go_enter Tryd.func54, Tryd.ntmps54
          go_wp2
          go_ret
          exact ⟨by rw [HD.out, if_neg (by omega), if_neg (by omega)]; rfl, rfl⟩
      · go_enter Tryd.func54, Tryd.ntmps54
        go_wp2
        go_ret
        exact ⟨by rw [HD.out, if_neg (by omega), if_neg (by omega)]; rfl, rfl⟩
  · go_enter Tryd.func54, Tryd.ntmps54
    go_wp2
    go_ret
    exact ⟨by rw [HD.out, if_neg (by omega), if_neg (by omega)]; rfl, rfl⟩
theorem first_word1 (l : Tx) : ∃ kk, 1 ≤ kk ∧ kk ≤ 8 ∧ (∀ j, 1 ≤ j → j < kk → wordP j ≠ l) ∧ (kk < 8 → wordP kk = l) ∧ kindP l = (if kk < 8 then (kk : Int) else 0) := by
  obtain ⟨kk, h1, h2, h3, h4⟩ := first_word l
  by_cases h0 : kk = 0
  · subst h0
    have hl : l = [] := (h3 (by omega)).symm
    subst hl
    refine ⟨8, by omega, by omega, fun j hj hj2 => ?_, fun h => by omega, by rfl⟩
    rcases (show j = 1 ∨ j = 2 ∨ j = 3 ∨ j = 4 ∨ j = 5 ∨ j = 6 ∨ j = 7 by omega) with rfl | rfl | rfl | rfl | rfl | rfl | rfl <;> simp [wordP]
  · exact ⟨kk, by omega, h1, fun j _ hj => h2 j hj, h3, h4⟩
theorem words_cell (w : World) (k : Nat) (hk : k < 8) : (w.alloc (.cells #[.string ⟨#[]⟩, .string ⟨#[111, 112, 101, 110]⟩, .string ⟨#[102, 101, 101, 100]⟩, .string ⟨#[104, 97, 110, 103]⟩, .string ⟨#[116, 105, 99, 107]⟩, .string ⟨#[100, 114, 97, 105, 110]⟩, .string ⟨#[99, 114, 97, 115, 104]⟩, .string ⟨#[115, 116, 97, 114, 116]⟩] 9)).cell? ⟨w.heap.size, k, none⟩ = some (.string ⟨(wordP k).toArray⟩) := by
  have h := heap_alloc_new w (.cells #[.string ⟨#[]⟩, .string ⟨#[111, 112, 101, 110]⟩, .string ⟨#[102, 101, 101, 100]⟩, .string ⟨#[104, 97, 110, 103]⟩, .string ⟨#[116, 105, 99, 107]⟩, .string ⟨#[100, 114, 97, 105, 110]⟩, .string ⟨#[99, 114, 97, 115, 104]⟩, .string ⟨#[115, 116, 97, 114, 116]⟩] 9)
  unfold World.cell?
  simp only [h]
  rcases (show k = 0 ∨ k = 1 ∨ k = 2 ∨ k = 3 ∨ k = 4 ∨ k = 5 ∨ k = 6 ∨ k = 7 by omega) with rfl | rfl | rfl | rfl | rfl | rfl | rfl | rfl <;> rfl
set_option maxHeartbeats 2000000 in
set_option maxRecDepth 1000000 in
theorem refKind_any (s : ByteArray) (w : World) :
    Calls Tryd.prog 16 #[.string s] w fun e w' => e = .returned (.int .i64 (kindP s.data.toList)) ∧ Below w.heap.size w w' := by
  obtain ⟨kk, h0, h1, h2, h3, h4⟩ := first_word1 s.data.toList
  have HC := hide (words_cell w)
  have HB : Hid (Below w.heap.size w (w.alloc (.cells #[.string ⟨#[]⟩, .string ⟨#[111, 112, 101, 110]⟩, .string ⟨#[102, 101, 101, 100]⟩, .string ⟨#[104, 97, 110, 103]⟩, .string ⟨#[116, 105, 99, 107]⟩, .string ⟨#[100, 114, 97, 105, 110]⟩, .string ⟨#[99, 114, 97, 115, 104]⟩, .string ⟨#[115, 116, 97, 114, 116]⟩] 9))) := (Below.refl _ w).alloc (Nat.le_refl _) _
  generalize hw1 : w.alloc (.cells #[.string ⟨#[]⟩, .string ⟨#[111, 112, 101, 110]⟩, .string ⟨#[102, 101, 101, 100]⟩, .string ⟨#[104, 97, 110, 103]⟩, .string ⟨#[116, 105, 99, 107]⟩, .string ⟨#[100, 114, 97, 105, 110]⟩, .string ⟨#[99, 114, 97, 115, 104]⟩, .string ⟨#[115, 116, 97, 114, 116]⟩] 9) = w1 at HC HB
  have HW := hide hw1
  have H2 := hide h2
  have H3 := hide h3
  have H4 := hide h4
  clear h2 h3 h4 hw1
  go_enter Tryd.func16, Tryd.ntmps16
  go_upto_region 2 with fail
  rw [HW.out]
  go_wp2_with fail
  go_loopg [4] 8 (fun gk i wr => ∃ k : Nat, i = .int .i64 (k : Int) ∧ 1 ≤ k ∧ k ≤ kk ∧ 8 - k ≤ gk ∧ wr = w1)
  case atStart => exact ⟨1, rfl, by omega, by omega, by omega, rfl⟩
  case round =>
    obtain ⟨k, rfl, hk1, hk2, hgk, rfl⟩ := hrel
    by_cases hlt : k < 8
    · have tlt : (k : Int) < 8 := by omega
      obtain ⟨y, hy⟩ : ∃ y : ByteArray, y = ⟨(wordP k).toArray⟩ := ⟨_, rfl⟩
      have hc := HC.out k hlt
      rw [← hy] at hc
      have hyl : y.data.toList = wordP k := by rw [hy]
      have HY := hide hyl
      clear hy hyl
      by_cases hke : k < kk
      · have hnm : (y.toList == s.toList) = false := by
          rw [ByteArray.toList_eq, ByteArray.toList_eq, HY.out, beq_eq_false_iff_ne]
          exact H2.out k hk1 hke
        go_wp2_with fail
        go_roundg (8 - (k + 1))
        case measure => omega
        case rel => exact ⟨k + 1, by go_num, by omega, by omega, Nat.le_refl _, rfl⟩
      · have hkk : kk = k := by omega
        have hnm : (y.toList == s.toList) = true := by
          rw [ByteArray.toList_eq, ByteArray.toList_eq, HY.out, beq_iff_eq, ← hkk]
          exact H3.out (by omega)
        have HK := hide hkk
        clear hkk
        go_wp2_with fail
        go_ret
        exact ⟨by rw [H4.out, HK.out, if_pos hlt]; rfl, HB.out⟩
    · have tlt : ¬ (k : Int) < 8 := by omega
      go_wp2_with fail
      go_ret
      exact ⟨by rw [H4.out, if_neg (by omega)]; rfl, HB.out⟩
end Go.Proofs.YteaccpolmmkclaaDoor
