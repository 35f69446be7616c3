/-
  The walk of the document's Split.
-/
import Derived.Test.YtfecbepleeoibaaDoorRefWord
import Derived.Test.YtfecbepleeoibaaDoorSplit
namespace Go.Proofs.YtfecbepleeoibaaDoor
open Go.RowKit Go.Lib

/-- The state of the document's loop at place k. -/
def RefAt (s : ByteArray) (k start : Nat) (acc : List ByteArray) : Prop :=
  (k ≤ s.size ∧ start ≤ k ∧ pieces s.data.toList [] = acc.map (·.data.toList) ++ pieces (s.data.toList.drop k) (s.extract start k).data.toList) ∨
  (k = s.size + 1 ∧ acc ≠ [] ∧ splitL s.data.toList = some (acc.map (·.data.toList)))

theorem refAt_zero (s : ByteArray) : RefAt s 0 0 [] := .inl ⟨Nat.zero_le _, Nat.le_refl _, by simp⟩
theorem refAt_step (s : ByteArray) (k start : Nat) (acc : List ByteArray) (hk : k < s.size) (hb : s[k].toNat ≠ 32) (h : RefAt s k start acc) : RefAt s (k + 1) start acc := by
  rcases h with ⟨h1, h2, h3⟩ | ⟨h1, _⟩
  · refine .inl ⟨by omega, by omega, ?_⟩
    rw [h3, drop_cons s k hk, pieces, if_neg hb, snoc_extract s start k h2 hk]
  · omega
theorem refAt_word (s : ByteArray) (k start : Nat) (acc : List ByteArray) (hk : k < s.size) (hb : s[k].toNat = 32) (h : RefAt s k start acc) : RefAt s (k + 1) (k + 1) (acc ++ [s.extract start k]) := by
  rcases h with ⟨h1, h2, h3⟩ | ⟨h1, _⟩
  · refine .inl ⟨by omega, Nat.le_refl _, ?_⟩
    rw [h3, drop_cons s k hk, pieces, if_pos hb]
    simp
  · omega
theorem refAt_no (s : ByteArray) (k start : Nat) (acc : List ByteArray) (hk : k ≤ s.size) (hb : ∀ h : k < s.size, (s[k]'h).toNat = 32) (h : RefAt s k start acc) (hw : wordB (s.extract start k).data.toList = false) : splitL s.data.toList = none := by
  rcases h with ⟨h1, h2, h3⟩ | ⟨h1, _⟩
  · refine piece_split _ _ _ _ h3 ?_ hw
    by_cases hlt : k < s.size
    · rw [drop_cons s k hlt, pieces, if_pos (hb hlt)]; simp
    · rw [List.drop_of_length_le (by simp; omega), pieces]; simp
  · omega
theorem refAt_last (s : ByteArray) (start : Nat) (acc : List ByteArray) (h : RefAt s s.size start acc) (ha : ∀ x ∈ acc, wordB x.data.toList = true) (hw : wordB (s.extract start s.size).data.toList = true) :
    RefAt s (s.size + 1) (s.size + 1) (acc ++ [s.extract start s.size]) := by
  rcases h with ⟨h1, h2, h3⟩ | ⟨h1, _⟩
  · refine .inr ⟨rfl, by simp, ?_⟩
    have e : pieces s.data.toList [] = (acc ++ [s.extract start s.size]).map (·.data.toList) := by
      rw [h3, List.drop_of_length_le (by simp), pieces]; simp
    unfold splitL
    rw [if_pos, e]
    rw [e, List.all_eq_true]
    intro x hx
    obtain ⟨y, hy, rfl⟩ := List.mem_map.1 hx
    rcases List.mem_append.1 hy with hy | hy
    · exact ha y hy
    · simp at hy; subst hy; exact hw
  · omega

set_option maxHeartbeats 1000000 in
set_option maxRecDepth 1000000 in
theorem refSplit_any (s : ByteArray) (w : World) (hs : s.size ≤ 4398046511104) :
    Calls Tryd.prog 28 #[.string s] w (SplitPost s w) := by
  obtain ⟨i9, hi, hz0, hz1, hz2⟩ := info_parts info_string
  go_enter Tryd.func28, Tryd.ntmps28
  go_wp2
  go_loopw [4, 5, 6] (fun v f i wr => ∃ (k start : Nat) (acc : List ByteArray), i = .int .i64 k ∧ f = .int .i64 start ∧ k ≤ s.size + 1 ∧ start ≤ k ∧ acc.length ≤ start ∧
      wr.ownsRow w.heap.size 9 1 v acc.length (acc.map Value.string) ∧ Below w.heap.size w wr ∧ (∀ x ∈ acc, wordB x.data.toList = true) ∧ RefAt s k start acc) (fun _ _ i _ => s.size + 1 - (RowKit.intOf i).toNat)
  case atStart => exact ⟨0, 0, [], rfl, rfl, by omega, by omega, by simp, World.ownsRow_lit _ _ _ (by omega) (by decide) (by simp), (Below.refl _ _).alloc (Nat.le_refl _) _, (fun x hx => by cases hx), refAt_zero s⟩
  case round =>
    obtain ⟨k, start, acc, rfl, rfl, hk, hsk, hal, hown, hbw, hok, hat⟩ := hrel
    have HOK : Hid (∀ x ∈ acc, wordB x.data.toList = true) := hok
    have HAT : Hid (RefAt s k start acc) := hat
    clear hok hat
    by_cases hend : k ≤ s.size
    · have hxm : (s.extract start k).size ≤ maxLen := by
        have : (s.extract start k).size = min k s.size - start := by simp
        unfold maxLen; omega
      have HXM : Hid ((s.extract start k).size ≤ maxLen) := hxm
      clear hxm
      by_cases hgo : ∃ h : k < s.size, (s[k]'h).toNat ≠ 32
      · obtain ⟨hlt, hb⟩ := hgo
        have hb' : ((s[k].toNat : Int) != 32) = true := by simp; omega
        have HB : Hid (s[k].toNat ≠ 32) := hb
        clear hb
        go_wp2
        go_roundw
        case rel => exact ⟨k + 1, start, acc, by go_num, rfl, by omega, by omega, hal, hown, hbw, HOK.out, refAt_step s k start acc hlt HB.out HAT.out⟩
        case measure => simp [RowKit.intOf]; omega
      · have hb32 : ∀ h : k < s.size, (s[k]'h).toNat = 32 := fun h => Classical.byContradiction fun hn => hgo ⟨h, hn⟩
        have HB : Hid (∀ h : k < s.size, (s[k]'h).toNat = 32) := hb32
        clear hgo
        cases hw : wordB (s.extract start k).data.toList
        · have HW : Hid (wordB (s.extract start k).data.toList = false) := hw
          clear hw
          by_cases hlt : k < s.size
          · have hb' : ((s[k].toNat : Int) != 32) = false := by simp [hb32 hlt]
            clear hb32
            go_wp2_with (go_at_call 46; refine (refWord_any _ _ HXM.out).mono ?_; rintro e W' ⟨rfl, hW⟩; have hW := hW.symm; subst hW; rw [HW.out])
            go_ret2
            exact ⟨hbw, .inl ⟨refAt_no s k start acc hend HB.out HAT.out HW.out, rfl⟩⟩
          · clear hb32
            go_wp2_with (go_at_call 46; refine (refWord_any _ _ HXM.out).mono ?_; rintro e W' ⟨rfl, hW⟩; have hW := hW.symm; subst hW; rw [HW.out])
            go_ret2
            exact ⟨hbw, .inl ⟨refAt_no s k start acc hend HB.out HAT.out HW.out, rfl⟩⟩
        · have HW : Hid (wordB (s.extract start k).data.toList = true) := hw
          clear hw
          have hok2 : Hid (∀ x ∈ acc ++ [s.extract start k], wordB x.data.toList = true) := by
            intro x hx
            rcases List.mem_append.1 hx with h | h
            · exact HOK.out x h
            · simp at h; subst h; exact HW.out
          by_cases hlt : k < s.size
          · have hb' : ((s[k].toNat : Int) != 32) = false := by simp [hb32 hlt]
            clear hb32
            go_wp2_with (first
              | (go_at_call 46; refine (refWord_any _ _ HXM.out).mono ?_; rintro e W' ⟨rfl, hW⟩; have hW := hW.symm; subst hW; rw [HW.out])
              | (at_builtin; go_must (refine wpList_append_own _ rfl (.tmp 30) (.tmp 35) 39 rfl w.heap.size 9 i9 (.string ⟨#[]⟩) 1 16 Tryd.underlying39 hi hz0 hz1 hz2 rfl (by decide) _ _ _ rfl (hown.alloc _) ⟨wr.heap.size, 0, none⟩ 1 1 [.string (s.extract start k)] rfl rfl (cell_one_new _ _ _) (by intro u hu; simp at hu; subst hu; rfl) (by unfold maxLen; omega) (by omega) (by have := hbw.size; simp; omega) ?_; intro v3 w3 hown3 hgrow3 hnil3)))
            go_roundw
            case rel =>
              have hX := hown.alloc (.cells #[.string (s.extract start k)] 9)
              exact ⟨k + 1, k + 1, acc ++ [s.extract start k], by go_num, by go_num, by omega, Nat.le_refl _, by simp; omega, by rw [List.length_append, List.map_append]; exact hown3, (hbw.alloc hbw.size _).grown hgrow3 (by have := hbw.size; simp; omega) (fun j hj => (hX.lt j hj).1), hok2.out, refAt_word s k start acc hlt (HB.out hlt) HAT.out⟩
            case measure => simp [RowKit.intOf]; omega
          · clear hb32
            obtain rfl : k = s.size := by omega
            go_wp2_with (first
              | (go_at_call 46; refine (refWord_any _ _ HXM.out).mono ?_; rintro e W' ⟨rfl, hW⟩; have hW := hW.symm; subst hW; rw [HW.out])
              | (at_builtin; go_must (refine wpList_append_own _ rfl (.tmp 30) (.tmp 35) 39 rfl w.heap.size 9 i9 (.string ⟨#[]⟩) 1 16 Tryd.underlying39 hi hz0 hz1 hz2 rfl (by decide) _ _ _ rfl (hown.alloc _) ⟨wr.heap.size, 0, none⟩ 1 1 [.string (s.extract start s.size)] rfl rfl (cell_one_new _ _ _) (by intro u hu; simp at hu; subst hu; rfl) (by unfold maxLen; omega) (by omega) (by have := hbw.size; simp; omega) ?_; intro v3 w3 hown3 hgrow3 hnil3)))
            go_roundw
            case rel =>
              have hX := hown.alloc (.cells #[.string (s.extract start s.size)] 9)
              exact ⟨s.size + 1, s.size + 1, acc ++ [s.extract start s.size], by go_num, by go_num, by omega, Nat.le_refl _, by simp; omega, by rw [List.length_append, List.map_append]; exact hown3, (hbw.alloc hbw.size _).grown hgrow3 (by have := hbw.size; simp; omega) (fun j hj => (hX.lt j hj).1), hok2.out, refAt_last s start acc HAT.out HOK.out HW.out⟩
            case measure => simp [RowKit.intOf]
    · obtain ⟨hne, hsp⟩ : acc ≠ [] ∧ splitL s.data.toList = some (acc.map (·.data.toList)) := by
        rcases HAT.out with ⟨h1, _⟩ | ⟨_, h2, h3⟩
        · omega
        · exact ⟨h2, h3⟩
      have HSP : Hid (splitL s.data.toList = some (acc.map (·.data.toList))) := hsp
      clear hsp
      obtain ⟨g3, cap3, rfl⟩ : ∃ g3 cap3, u4 = .slice (some ⟨g3, 0, none⟩) acc.length cap3 := by
        rcases hown.2 with ⟨h, h0⟩ | ⟨g5, cap5, _, h, _⟩
        · exact absurd (List.length_eq_zero_iff.1 h0) hne
        · exact ⟨g5, cap5, h⟩
      clear hne
      go_wp2
      go_ret2
      exact ⟨hbw, .inr ⟨acc, g3, cap3, HSP.out, rfl, (hown.lt g3 rfl).1, hown⟩⟩
end Go.Proofs.YtfecbepleeoibaaDoor
