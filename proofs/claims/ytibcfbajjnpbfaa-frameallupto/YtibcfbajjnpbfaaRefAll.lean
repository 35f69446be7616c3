/-
  The document's All and Whole.
-/
import Derived.Test.YtibcfbajjnpbfaaOnes
namespace Go.Proofs.Ytibcfbajjnpbfaa
open Go.RowKit

theorem frames_len (f : Int) (l : List UInt8) : ∀ k p, (framesN f l k p).length * 9 ≤ l.length + 9 - p := by
  intro k
  induction k with
  | zero => intro p; simp [framesN]
  | succ k ih =>
    intro p
    simp only [framesN]
    split
    · rename_i hE
      have ht := take_len hE
      simp at ht
      have := ih (p + (8 + takeLen (l.drop p)))
      simp only [List.length_cons]
      omega
    · simp
theorem frames_len0 (f : Int) (l : List UInt8) : (frames f l 0).length * 9 ≤ l.length + 9 := by
  have := frames_len f l (l.length + 1 - 0) 0
  unfold frames
  omega

set_option maxHeartbeats 2000000 in
set_option maxRecDepth 1000000 in
theorem refAll_any (f : Int) (a : Option Addr) (c : Nat) (l : List UInt8) (w : World) (hl : IsBytes w a c l) (hb : l.length ≤ 1048576) :
    Calls Try.prog 23 #[.int .i64 f, .slice a l.length c] w fun e w' => ∃ v ys, e = .returned v ∧ OnesAt w' w.heap.size v ys ∧ ys.map Given.pr = frames f l 0 ∧ Below w.heap.size w w' := by
  have HL := hide hl
  clear hl
  have hcb := HL.out.1
  have hcm := HL.out.2.1
  unfold maxLen at hcm
  go_enter Try.func23, Try.ntmps23
  go_wp2_with fail
  obtain ⟨W1, hW1⟩ : ∃ W1, W1 = w.alloc (.cells #[] 57) := ⟨_, rfl⟩
  rw [← hW1]
  have B1 : Below w.heap.size w W1 := by rw [hW1]; exact (Below.refl _ w).alloc (Nat.le_refl _) _
  have O1 : Hid (OnesAt W1 w.heap.size (.slice (some ⟨w.heap.size, 0, none⟩) 0 0) []) := by
    refine ⟨?_, fun y hy => by simp at hy⟩
    rw [hW1]
    exact World.ownsRow_made (base := w.heap.size) (e := 57) (size := 2) w #[] 0 (Nat.le_refl _) (by unfold maxLen; omega) (by simp)
  have HB1 := hide B1
  clear hW1 B1
  go_loopw [5, 6] (fun v i wr => ∃ (p : Nat) (ys : List Given), i = .int .i64 p ∧ p ≤ l.length ∧ Hid (frames f l 0 = ys.map Given.pr ++ frames f l p) ∧ Hid (OnesAt wr w.heap.size v ys) ∧ Hid (Below w.heap.size w wr)) (fun _ i _ => l.length - (intOf i).toNat)
  case atStart => exact ⟨0, [], rfl, Nat.zero_le _, (show _ = _ by simp), O1, HB1⟩
  case round =>
    clear O1 HB1
    obtain ⟨p, ys, rfl, hp, HFR, HO, HB⟩ := hrel
    have IS := hide (HL.out.below HB.out)
    by_cases hE : takeE f p (l.drop p) = 0
    · have hT := take_len hE
      rw [List.length_drop] at hT
      have hN : takeN f p (l.drop p) = ((8 + takeLen (l.drop p) : Nat) : Int) := by unfold takeN; rw [if_pos hE]
      have hL : takeL f p (l.drop p) = takePay (l.drop p) := by unfold takeL; rw [if_pos hE]
      have hstep := frames_step hE
      obtain ⟨sz, hsz⟩ : ∃ sz, sz = 8 + takeLen (l.drop p) := ⟨_, rfl⟩
      rw [← hsz] at hN hT hstep
      obtain ⟨g, o, rfl, hg, hcell⟩ : ∃ g o, a = some ⟨g, o, none⟩ ∧ g < wr.heap.size ∧ ∀ (j : Nat) x, l[j]? = some x → wr.cell? ⟨g, o + j, none⟩ = some (.int .u8 (x.toNat : Int)) := by
        rcases IS.out.2.2 with h | h
        · exfalso
          have := congrArg List.length h
          rw [List.length_nil] at this
          omega
        · exact h
      have hcp : ¬ c = p := by omega
      have hs9 : 9 ≤ sz := by omega
      have TK : Hid (Calls Try.prog 22 #[.int .i64 f, .int .i64 p, .slice (some ⟨g, o + p, none⟩) (l.length - p) (c - p)] wr fun e w1 => ∃ v, e = .returned (.tuple #[v, .int .i64 (sz : Int), .int .i64 0]) ∧ Own w1 wr.heap.size v (takePay (l.drop p)) ∧ Below wr.heap.size wr w1) := by
        have his : IsBytes wr (some ⟨g, o + p, none⟩) (c - p) (l.drop p) := ⟨by simp; omega, by unfold maxLen; omega, .inr ⟨g, o + p, rfl, hg, fun j x hj => by rw [List.getElem?_drop] at hj; rw [Nat.add_assoc]; exact hcell _ x hj⟩⟩
        have := refTake_any f p (some ⟨g, o + p, none⟩) (c - p) (l.drop p) wr his
        rw [List.length_drop] at this
        refine this.mono ?_
        rintro e w1 ⟨v, rfl, own1, B1⟩
        exact ⟨v, by rw [hN, hE], by rw [← hL]; exact own1, B1⟩
      have HSTEP := hide hstep
      obtain ⟨py, hpy⟩ : ∃ py, py = takePay (l.drop p) := ⟨_, rfl⟩
      rw [← hpy] at TK HSTEP
      have hyl : ys.length ≤ 1048576 := by
        have h1 := frames_len0 f l
        have h2 := congrArg List.length HFR.out
        rw [List.length_append, List.length_map] at h2
        omega
      obtain ⟨av, cv, hav, _⟩ := rowG_shape HO.out.1
      subst hav
      clear hE hN hL hsz hstep hcell hpy
      go_upto_region 6 with (go_at_call 22; refine TK.out.mono ?_; rintro e w1 ⟨v1, rfl, own1, b1⟩; obtain ⟨a1, c1, hv1, _⟩ := own1.shape; subst hv1; have OWN1 := hide own1; have B1 := hide b1; clear own1 b1)
      have HO1 := hide (HO.out.below B1.out)
      have HB1 := hide (HB.out.trans (B1.out.mono HB.out.size))
      have hz1 := HB1.out.size
      have hz0 := HB.out.size
      go_wp2_with (at_builtin; refine wpList_one rfl (.tmp 24) (.tmp 28) rfl w1 w.heap.size hz1 (.slice av ys.length cv) ys (p, .slice a1 py.length c1, py) HO1.out (OWN1.out.mono hz0) hyl rfl rfl ?_; intro v2 w2 o2 b2; have O2 := hide o2; have B2 := hide b2; clear o2 b2)
      go_roundw
      case rel =>
        refine ⟨p + sz, ys ++ [(p, .slice a1 py.length c1, py)], by go_num, by omega, (show _ = _ from ?_), O2, (show Below _ _ _ from HB1.out.trans B2.out)⟩
        rw [HFR.out, HSTEP.out]
        simp [Given.pr]
      case measure => simp [intOf]; omega
    · obtain ⟨x, hx⟩ : ∃ x, x = takeE f p (l.drop p) := ⟨_, rfl⟩
      rw [← hx] at hE
      have hxb : (x != 0) = true := by simpa using hE
      have HEND := hide (frames_end (f := f) (l := l) (p := p) (by rw [← hx]; exact hE))
      have hN : takeN f p (l.drop p) = 0 := by unfold takeN; rw [← hx, if_neg hE]
      have TK : Hid (∀ X, IsBytes wr X (c - p) (l.drop p) → Calls Try.prog 22 #[.int .i64 f, .int .i64 p, .slice X (l.length - p) (c - p)] wr fun e w1 => ∃ v, e = .returned (.tuple #[v, .int .i64 0, .int .i64 x]) ∧ Below wr.heap.size wr w1) := by
        intro X his
        have := refTake_any f p X (c - p) (l.drop p) wr his
        rw [List.length_drop] at this
        refine this.mono ?_
        rintro e w1 ⟨v, rfl, own1, B1⟩
        exact ⟨v, by rw [hN, hx], B1⟩
      clear hE hN hx
      rcases IS.out.2.2 with hnil | ⟨g, o, rfl, hg, hcell⟩
      · subst hnil
        obtain rfl : p = 0 := by simpa using hp
        have TK2 : Hid (∀ X c2, c2 = c → Calls Try.prog 22 #[.int .i64 f, .int .i64 0, .slice X 0 c2] wr fun e w1 => ∃ v, e = .returned (.tuple #[v, .int .i64 0, .int .i64 x]) ∧ Below wr.heap.size wr w1) := by
          intro X c2 e
          have := TK.out X ⟨by simp, by unfold maxLen; omega, .inl rfl⟩
          rw [Nat.sub_zero] at this
          rw [e]
          exact this
        clear TK
        cases a with
        | none =>
          go_wp2_with (go_at_call 22; refine (TK2.out _ _ rfl).mono ?_; rintro e w1 ⟨v1, rfl, b1⟩; have B1 := hide b1; clear b1)
          go_ret
          exact ⟨_, ys, rfl, HO.out.below B1.out, by rw [HFR.out, HEND.out]; simp, HB.out.trans (B1.out.mono HB.out.size)⟩
        | some ad =>
          go_wp2_with (go_at_call 22; refine (TK2.out _ _ rfl).mono ?_; rintro e w1 ⟨v1, rfl, b1⟩; have B1 := hide b1; clear b1)
          go_ret
          exact ⟨_, ys, rfl, HO.out.below B1.out, by rw [HFR.out, HEND.out]; simp, HB.out.trans (B1.out.mono HB.out.size)⟩
      · by_cases hcp : c = p
        · have hlp : l.length = p := by omega
          have TK2 := TK.out (some ⟨g, o, none⟩) ⟨by simp; omega, by unfold maxLen; omega, .inl (List.drop_eq_nil_of_le (by omega))⟩
          subst hcp
          rw [Nat.sub_self, Nat.sub_eq_zero_of_le hcb] at TK2
          have HTK := hide TK2
          clear TK TK2 hcell hlp
          go_wp2_with (go_at_call 22; refine (HTK.out).mono ?_; rintro e w1 ⟨v1, rfl, b1⟩; have B1 := hide b1; clear b1)
          go_ret
          exact ⟨_, ys, rfl, HO.out.below B1.out, by rw [HFR.out, HEND.out]; simp, HB.out.trans (B1.out.mono HB.out.size)⟩
        · have TK2 := hide (TK.out (some ⟨g, o + p, none⟩) ⟨by simp; omega, by unfold maxLen; omega, .inr ⟨g, o + p, rfl, hg, fun j x hj => by rw [List.getElem?_drop] at hj; rw [Nat.add_assoc]; exact hcell _ x hj⟩⟩)
          clear hcell TK
          go_wp2_with (go_at_call 22; refine (TK2.out).mono ?_; rintro e w1 ⟨v1, rfl, b1⟩; have B1 := hide b1; clear b1)
          go_ret
          exact ⟨_, ys, rfl, HO.out.below B1.out, by rw [HFR.out, HEND.out]; simp, HB.out.trans (B1.out.mono HB.out.size)⟩
end Go.Proofs.Ytibcfbajjnpbfaa
