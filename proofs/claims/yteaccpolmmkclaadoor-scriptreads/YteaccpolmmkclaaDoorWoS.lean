/-
  Word, Split.
-/
import Derived.Test.YteaccpolmmkclaaDoorProg
import Derived.Test.YteaccpolmmkclaaDoorPlA
import Derived.WalkKit
import Derived.WalkSpells
import Derived.WalkLawsBesides
import Derived.Lib.OthersKept
import Derived.Deep.LoopGhost
import Derived.Maps.AppendAt
import Derived.Deep.DeepMust
namespace Go.Proofs.YteaccpolmmkclaaDoor
open Go.RowKit

set_option maxHeartbeats 400000 in
set_option maxRecDepth 1000000 in
theorem word_any (s : ByteArray) (w : World) :
    Calls Tryd.prog 48 #[.string s] w fun e w' => e = .returned (.bool (wordB s.data.toList)) ∧ ∃ pos, w' = w.iter s pos := by
  go_enter Tryd.func48, Tryd.ntmps48
  go_wp2
  go_loopw [4] (fun _ w' => ∃ pos, w' = w.iter s pos ∧ (s.data.toList.take pos).all okc = true) (fun _ w' => s.size - w'.iterPos w.heap.size)
  case atStart => exact ⟨0, rfl, rfl⟩
  case round =>
    obtain ⟨pos, rfl, ha⟩ := hrel
    have HA : Hid ((s.data.toList.take pos).all okc = true) := ha
    clear ha
    by_cases hp : pos < s.size
    · have hnx : ∀ ty, (Instr.next (.pointer (some ⟨w.heap.size, 0, none⟩)) true ty).run Tryd.prog (w.iter s pos) = _ := fun ty => run_next_any w s pos ty hp
      have hwd := width_pos s pos hp
      rcases rune_byte s pos hp with ⟨h1, h2, h3⟩ | ⟨h1, h2⟩
      · rw [h2, h3] at hnx
        rw [h2] at h1
        clear h2 h3 hwd
        go_wp2
        · go_ret
          exact ⟨by rw [word_no s pos hp (by omega)]; rfl, _, rfl⟩
        · go_roundw
          case rel => exact ⟨pos + 1, rfl, word_step s pos hp HA.out (by omega) (by omega)⟩
          case measure => simp; omega
        · go_ret
          exact ⟨by rw [word_no s pos hp (by omega)]; rfl, _, rfl⟩
      · go_wp2
        go_ret
        exact ⟨by rw [word_no s pos hp (by omega)]; rfl, _, rfl⟩
    · have hnx : ∀ ty, (Instr.next (.pointer (some ⟨w.heap.size, 0, none⟩)) true ty).run Tryd.prog (w.iter s pos) = _ := fun ty => run_next_end w s pos ty hp
      go_wp2
      go_ret
      refine ⟨?_, _, rfl⟩
      rw [word_end s pos hp HA.out, ← ByteArray.toList_eq]
      simp
end Go.Proofs.YteaccpolmmkclaaDoor

namespace Go.Proofs.YteaccpolmmkclaaDoor
open Go.RowKit Go.Lib

theorem info_string : (Tryd.prog.info? 9).map (fun i => (i.zero, i.size, i.bytes)) = some (some (.string ⟨#[]⟩), 1, 16) := by kernel_rfl

theorem own_iterAt {w : World} {B e size n : Nat} {v : Value} {xs : List Value} {k : Nat} {s : ByteArray} {pos : Nat} (h : w.ownsRow B e size v n xs) (hk : w.heap[k]? = some (.stringIter s pos)) (pos' : Nat) : (w.iterAt k s pos').ownsRow B e size v n xs := by
  refine ⟨h.1, ?_⟩
  rcases h.2 with h0 | ⟨g, cap, cur, hv, hb, hg, rest⟩
  · exact .inl h0
  · refine .inr ⟨g, cap, cur, hv, hb, ?_, rest⟩
    rw [Lib.iterAt_other _ _ _ _ _ (fun e => by subst e; rw [hk] at hg; cases hg)]
    exact hg
theorem own_ne_iter {w : World} {B e size n : Nat} {v : Value} {xs : List Value} {k : Nat} {s : ByteArray} {pos : Nat} (h : w.ownsRow B e size v n xs) (hk : w.heap[k]? = some (.stringIter s pos)) : some k ≠ v.ownBlock := by
  rcases h.2 with ⟨rfl, _⟩ | ⟨g, cap, cur, rfl, hb, hg, rest⟩
  · simp [Value.ownBlock]
  · intro e
    simp only [Value.ownBlock, Option.some.injEq] at e
    subst e
    rw [hk] at hg
    cases hg

/-- What Split answers. -/
def SplitPost (s : ByteArray) (w : World) (e : Ending) (w' : World) : Prop :=
  Below w.heap.size w w' ∧ ((splitL s.data.toList = none ∧ e = .returned (.tuple #[.slice none 0 0, .bool false])) ∨
    ∃ (ws : List ByteArray) (g cap : Nat), splitL s.data.toList = some (ws.map (·.data.toList)) ∧ e = .returned (.tuple #[.slice (some ⟨g, 0, none⟩) ws.length cap, .bool true]) ∧
      w.heap.size ≤ g ∧ w'.ownsRow w.heap.size 9 1 (.slice (some ⟨g, 0, none⟩) ws.length cap) ws.length (ws.map Value.string))

set_option maxHeartbeats 1000000 in
set_option maxRecDepth 1000000 in
theorem split_any (s : ByteArray) (w : World) (hs : s.size ≤ 4398046511104) :
    Calls Tryd.prog 31 #[.string s] w (SplitPost s w) := by
  obtain ⟨i9, hi, hz0, hz1, hz2⟩ := info_parts info_string
  go_enter Tryd.func31, Tryd.ntmps31
  go_wp2
  go_loopg [4, 5] s.size (fun gf s4 s5 wx => ∃ (pos start : Nat) (acc : List ByteArray), s5 = .int .i64 start ∧
      wx.ownsRow w.heap.size 9 1 s4 acc.length (acc.map Value.string) ∧ wx.heap[w.heap.size]? = some (.stringIter s pos) ∧ Below w.heap.size w wx ∧
      s.size ≤ pos + gf ∧ start ≤ pos ∧ start ≤ s.size ∧ acc.length ≤ start ∧ (∀ x ∈ acc, wordB x.data.toList = true) ∧ SplitAt s pos start acc)
  case atStart =>
    exact ⟨0, 0, [], rfl, World.ownsRow_nil _ _ _ _, World.iter_heap w s 0, (Below.refl _ _).alloc (Nat.le_refl _) _, by omega, by omega, by omega, by simp, (fun x hx => by cases hx), splitAt_zero s⟩
  case round =>
    obtain ⟨pos, start, acc, rfl, hown, hit, hbw, hfu, hsp, hss, hal, hok, hst⟩ := hrel
    have HOK : Hid (∀ x ∈ acc, wordB x.data.toList = true) := hok
    have HST : Hid (SplitAt s pos start acc) := hst
    clear hok hst
    by_cases hlt : pos < s.size
    · obtain ⟨g', rfl⟩ : ∃ g', gk = g' + 1 := ⟨gk - 1, by omega⟩
      have hnx : ∀ ty, (Instr.next (.pointer (some ⟨w.heap.size, 0, none⟩)) true ty).run Tryd.prog wr = _ := fun ty => Lib.run_next_any_at wr w.heap.size s pos ty hit hlt
      have hwd := width_pos s pos hlt
      rcases rune_byte s pos hlt with ⟨h1, h2, h3⟩ | ⟨h1, h2⟩
      · rw [h2, h3] at hnx
        rw [h2] at h1
        clear h2 h3 hwd
        have hit2 := Lib.iterAt_heap wr w.heap.size s pos (pos + 1) hit
        have hbw2 := Lib.below_iterAt hbw (k := w.heap.size) (Nat.le_refl _) s (pos + 1)
        have hown2 := own_iterAt hown hit (pos + 1)
        obtain ⟨W, hWd⟩ : ∃ W, wr.iterAt w.heap.size s (pos + 1) = W := ⟨_, rfl⟩
        rw [hWd] at hnx hit2 hbw2 hown2
        clear hWd hown hit hbw
        by_cases hb : s[pos].toNat = 32
        · have HB : Hid (s[pos].toNat = 32) := hb
          rw [hb] at hnx
          clear hb h1
          cases hw : wordB (s.extract start pos).data.toList
          · have HW : Hid (wordB (s.extract start pos).data.toList = false) := hw
            clear hw
            go_wp2_with (go_at_call 48; refine (word_any _ _).mono ?_; rintro e W' ⟨rfl, p, rfl⟩; rw [HW.out])
            go_ret2
            exact ⟨hbw2.alloc hbw2.size _, .inl ⟨splitAt_no s pos start acc hlt HB.out HST.out HW.out, rfl⟩⟩
          · have HW : Hid (wordB (s.extract start pos).data.toList = true) := hw
            clear hw
            go_wp2_with (first
              | (go_at_call 48; refine (word_any _ _).mono ?_; rintro e W' ⟨rfl, p, rfl⟩; rw [HW.out])
              | (at_builtin; go_must (refine wpList_append_own _ rfl (.tmp 22) (.tmp 27) 48 rfl w.heap.size 9 i9 (.string ⟨#[]⟩) 1 16 Tryd.underlying48 hi hz0 hz1 hz2 rfl (by decide) _ _ _ rfl ((hown2.alloc _).alloc _) ⟨(W.iter (s.extract start pos) p).heap.size, 0, none⟩ 1 1 [.string (s.extract start pos)] rfl rfl (cell_one_new _ _ _) (by intro u hu; simp at hu; subst hu; rfl) (by unfold maxLen; omega) (by omega) (by have := hbw2.size; simp [World.iter]; omega) ?_; intro v3 w3 hown3 hgrow3 hnil3)))
            go_roundg g'
            case measure => omega
            case rel =>
              have hIT : w.heap.size < W.heap.size := (Array.getElem?_eq_some_iff.1 hit2).1
              have hX := (hown2.alloc (.stringIter (s.extract start pos) p)).alloc (.cells #[.string (s.extract start pos)] 9)
              have hB2 := (hbw2.alloc hbw2.size (.stringIter (s.extract start pos) p)).alloc (by have := hbw2.size; simp; omega) (.cells #[.string (s.extract start pos)] 9)
              refine ⟨pos + 1, pos + 1, acc ++ [s.extract start pos], by go_num, by rw [List.length_append, List.map_append]; exact hown3, ?_, ?_, by omega, by omega, by omega, by simp; omega, ?_, splitAt_word s pos start acc hlt HB.out HST.out HW.out⟩
              · exact (hgrow3.block w.heap.size (by simp [World.iter]; omega) (own_ne_iter hown2 hit2)).trans ((Below.heap_alloc _ _ _ (by simp [World.iter]; omega)).trans ((Below.heap_alloc _ _ _ hIT).trans hit2))
              · exact hB2.grown hgrow3 (by have := hbw2.size; simp; omega) (fun j hj => (hX.lt j hj).1)
              · intro x hx
                rcases List.mem_append.1 hx with h | h
                · exact HOK.out x h
                · simp at h; subst h; exact HW.out
        · have hb' : ((s[pos].toNat : Int) != 32) = true := by simp; omega
          have HB : Hid (s[pos].toNat ≠ 32) := hb
          clear hb
          go_wp2
          go_roundg g'
          case measure => omega
          case rel => exact ⟨pos + 1, start, acc, rfl, hown2, hit2, hbw2, by omega, by omega, hss, hal, HOK.out, splitAt_step s pos start acc hsp hlt HB.out HST.out⟩
      · have hb' : (((Utf8.decode s pos).1 : Int) != 32) = true := by simp; omega
        have hit2 := Lib.iterAt_heap wr w.heap.size s pos (pos + (Utf8.decode s pos).2) hit
        have hbw2 := Lib.below_iterAt hbw (k := w.heap.size) (Nat.le_refl _) s (pos + (Utf8.decode s pos).2)
        have hown2 := own_iterAt hown hit (pos + (Utf8.decode s pos).2)
        go_wp2
        go_roundg g'
        case measure => omega
        case rel => exact ⟨pos + (Utf8.decode s pos).2, start, acc, rfl, hown2, hit2, hbw2, by omega, by omega, hss, hal, HOK.out, splitAt_high s pos start _ acc hsp hlt hwd h2⟩
    · have hnx : ∀ ty, (Instr.next (.pointer (some ⟨w.heap.size, 0, none⟩)) true ty).run Tryd.prog wr = _ := fun ty => Lib.run_next_end_at wr w.heap.size s pos ty hit hlt
      cases hw : wordB (s.extract start s.size).data.toList
      · have HW : Hid (wordB (s.extract start s.size).data.toList = false) := hw
        clear hw
        go_wp2_with (go_at_call 48; refine (word_any _ _).mono ?_; rintro e W' ⟨rfl, p, rfl⟩; rw [HW.out])
        go_ret2
        exact ⟨hbw.alloc hbw.size _, .inl ⟨splitAt_endNo s pos start acc hlt HST.out HW.out, rfl⟩⟩
      · have HW : Hid (wordB (s.extract start s.size).data.toList = true) := hw
        clear hw
        go_wp2_with (first
          | (go_at_call 48; refine (word_any _ _).mono ?_; rintro e W' ⟨rfl, p, rfl⟩; rw [HW.out])
          | (at_builtin; go_must (refine wpList_append_own _ rfl (.tmp 36) (.tmp 40) 48 rfl w.heap.size 9 i9 (.string ⟨#[]⟩) 1 16 Tryd.underlying48 hi hz0 hz1 hz2 rfl (by decide) _ _ _ rfl ((hown.alloc _).alloc _) ⟨(wr.iter (s.extract start s.size) p).heap.size, 0, none⟩ 1 1 [.string (s.extract start s.size)] rfl rfl (cell_one_new _ _ _) (by intro u hu; simp at hu; subst hu; rfl) (by unfold maxLen; omega) (by omega) (by have := hbw.size; simp [World.iter]; omega) ?_; intro v3 w3 hown3 hgrow3 hnil3)))
        go_ret2
        have hX := (hown.alloc (.stringIter (s.extract start s.size) p)).alloc (.cells #[.string (s.extract start s.size)] 9)
        have hB2 := (hbw.alloc hbw.size (.stringIter (s.extract start s.size) p)).alloc (by have := hbw.size; simp; omega) (.cells #[.string (s.extract start s.size)] 9)
        have hB3 := hB2.grown hgrow3 (by have := hbw.size; simp; omega) (fun j hj => (hX.lt j hj).1)
        have hown4 : w3.ownsRow w.heap.size 9 1 v3 (acc ++ [s.extract start s.size]).length ((acc ++ [s.extract start s.size]).map Value.string) := by rw [List.length_append, List.map_append]; exact hown3
        obtain ⟨g3, cap3, rfl⟩ : ∃ g3 cap3, v3 = .slice (some ⟨g3, 0, none⟩) (acc ++ [s.extract start s.size]).length cap3 := by
          rcases hown4.2 with ⟨h, _⟩ | ⟨g5, cap5, _, h, _⟩
          · exact absurd (hnil3.1 h).2 (by decide)
          · exact ⟨g5, cap5, h⟩
        exact ⟨hB3, .inr ⟨acc ++ [s.extract start s.size], g3, cap3, splitAt_end s pos start acc hlt HST.out HOK.out HW.out, rfl, (hown4.lt g3 rfl).1, hown4⟩⟩
end Go.Proofs.YteaccpolmmkclaaDoor
