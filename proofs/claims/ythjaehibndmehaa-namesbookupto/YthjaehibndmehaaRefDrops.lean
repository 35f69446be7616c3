/-
  The document's book: Drop, All, New.
-/
import Derived.Test.YthjaehibndmehaaRefHolds
namespace Go.Proofs.Ythjaehibndmehaa
open Go.RowKit

set_option maxHeartbeats 4000000 in
set_option maxRecDepth 1000000 in
theorem refNew_any (w lo : World) (hlo : lo.heap.size ≤ w.heap.size) : Calls Try.prog 12 #[] w fun e w' => e = .returned (.pointer (some ⟨w.heap.size, 0, none⟩)) ∧ RefB w' lo.heap.size w.heap.size (.slice none 0 0) [] ∧ Below w.heap.size w w' := by
  go_enter Try.func12, Try.ntmps12
  go_wp2_with fail
  go_ret
  exact ⟨rfl, ⟨heap_alloc_new _ _, World.ownsRow_nil _ _ _ _, hlo, List.Pairwise.nil⟩, (Below.refl _ w).alloc (Nat.le_refl _) _⟩
set_option maxHeartbeats 4000000 in
set_option maxRecDepth 1000000 in
theorem refDrop_any (w : World) (lo db : Nat) (lv : Value) (S : List RowT) (g : Text → Option Int) (s : ByteArray) (h : RefB w lo db lv S) (hL : Listed g S) (hpos : ∀ t v, g t = some v → 1 ≤ v) (hS : S.length ≤ 1073741822) (hu : held g s.data.toList < 9223372036854775807) (hlo : lo ≤ w.heap.size) :
    Calls Try.prog 37 #[.pointer (some ⟨db, 0, none⟩), .string s] w fun e w' => e = dropE g s.data.toList ∧ WentR w lo db lv (dropG g s.data.toList) w' := by
  obtain ⟨⟨t⟩⟩ := s
  replace hu : held g t < 9223372036854775807 := hu
  show Calls Try.prog 37 #[.pointer (some ⟨db, 0, none⟩), .string ⟨⟨t⟩⟩] w fun e w' => e = dropE g t ∧ WentR w lo db lv (dropG g t) w'
  obtain ⟨a, c, rfl, hSc⟩ := h.form
  have HH := hide (And.intro h (And.intro hL (And.intro hpos hlo)))
  have HP := hide (place_any w lo db (.slice a S.length c) S ⟨⟨t⟩⟩ h (by omega))
  have HU := hide hu
  clear h hL hpos hu
  go_enter Try.func37, Try.ntmps37
  go_wp2_with fail
  refine HP.out.mono ?_
  rintro e w1 ⟨⟨k, hk⟩, q, hq⟩
  have B1 : Below w.heap.size w w1 := by rw [hq]; exact below_q (Below.refl _ w) q
  have H1 := hide (And.intro B1 (HH.out.1.below B1))
  clear hq B1 HP
  rcases hk with ⟨x, rfl, hT⟩ | ⟨rfl, hT⟩
  · replace hT : There S t k x := hT
    have hkl := hT.le
    have hki : (k : Int) < (S.length : Int) := by omega
    have hg := hT.held HH.out.2.1
    have hx1 := HH.out.2.2.1 _ _ hg
    have hx2 : x < 9223372036854775807 := by have := HU.out; unfold held at this; rw [hg] at this; exact this
    obtain ⟨gr, rfl, _, c1, f1⟩ := H1.out.2.cell hT.get
    simp only [] at c1
    have m0 : w1.cell? ⟨db, 0, none⟩ = some (.slice (some ⟨gr, 0, none⟩) S.length c) := by simp [World.cell?, H1.out.2.box]
    have HT := hide (And.intro hT hg)
    have hE : dropE g t = .returned (.tuple #[.int .i64 (x - 1), .bool true]) := by
      unfold dropE held
      rw [hg]
      simp only [Option.getD_some]
      rw [if_neg (show ¬ x = 0 by omega)]
    have hG : dropG g t = setG g t (x - 1) := by
      unfold dropG held
      rw [hg]
      simp only [Option.getD_some]
      rw [if_neg (show ¬ x = 0 by omega)]
    have HEG := hide (And.intro hE hG)
    clear hT hg hE hG
    by_cases hx3 : 0 < x - 1
    · go_wp2_with fail
      go_ret2
      have hG2 : dropG g t = putAt g t (x - 1) := by rw [HEG.out.2]; unfold setG; rw [if_neg (by omega)]
      have hLs := HT.out.1.set HH.out.2.1 (x - 1)
      refine ⟨HEG.out.1.symm, (.slice (some ⟨gr, 0, none⟩) S.length c), S.set k (t, x - 1), H1.out.2.setAt HT.out.1.get (x - 1) hLs.up, hG2 ▸ hLs, ?_, fun k hk => .inl hk⟩
      exact (Kept.ofBelow H1.out.1).trans (Kept.setCell _ w1 gr _ _ (.inr rfl))
    · obtain rfl : x = 1 := by omega
      have htk : (S.take k).length = k := by simp; omega
      have hdk : (S.drop (k + 1)).length = S.length - (k + 1) := by simp
      have HA : Hid (RefB (w1.alloc (.cells #[] 46)) lo db (.slice (some ⟨gr, 0, none⟩) S.length c) S ∧ Below w1.heap.size w1 (w1.alloc (.cells #[] 46)) ∧ (w1.alloc (.cells #[] 46)).ownsRow w1.heap.size 46 2 (.slice (some ⟨w1.heap.size, 0, none⟩) 0 0) ([] : List RowT).length (flatS [])) := by
        have hb : Below w1.heap.size w1 (w1.alloc (.cells #[] 46)) := (Below.refl _ w1).alloc (Nat.le_refl _) _
        exact ⟨H1.out.2.below hb, hb, ones_nil w1 _ (Nat.le_refl _)⟩
      have ma : (w1.alloc (.cells #[] 46)).cell? ⟨db, 0, none⟩ = some (.slice (some ⟨gr, 0, none⟩) S.length c) := by simp [World.cell?, HA.out.1.box]
      go_upto_region 8 with fail
      go_wp2_with (first
          | (at_builtin; refine wpList_ones rfl (.tmp 38) (.tmp 44) rfl w1.heap.size (.slice (some ⟨w1.heap.size, 0, none⟩) 0 0) [] (by rfl) HA.out.2.2 (some ⟨gr, 0, none⟩) c (S.take k) (by rw [htk]; rfl) (HA.out.1.front k (by omega)) (by simp; omega) HA.out.2.1.size ?_
             intro v2 w2 r2 g2 l2
             have H2 := hide (grow_below HA.out.2.1 HA.out.2.1.size (fun k e => by cases e; exact Nat.le_refl _) g2 l2)
             have R2 := hide (H1.out.2.below H2.out.1)
             have s2 := H2.out.2.1
             have m2 : w2.cell? ⟨db, 0, none⟩ = some (.slice (some ⟨gr, 0, none⟩) S.length c) := by simp [World.cell?, R2.out.box]
             clear g2 l2)
          | (at_builtin; refine wpList_ones rfl (.tmp 47) (.tmp 54) rfl w1.heap.size v2 ([] ++ S.take k) (by rfl) r2 (if c = k + 1 then some ⟨gr, 0, none⟩ else some ⟨gr, (k + 1) * 2, none⟩) (c - (k + 1)) (S.drop (k + 1)) (by rw [hdk]; rfl) (R2.out.backIf (k + 1) (by omega) hSc) (by simp; omega) s2 ?_
             intro v4 w4 r4 g4 l4
             have H4 := hide (grow_below H2.out.1 H2.out.2.1 H2.out.2.2 g4 l4)
             have R4 := hide (H1.out.2.below H4.out.1)
             have m4 : w4.cell? ⟨db, 0, none⟩ = some (.slice (some ⟨gr, 0, none⟩) S.length c) := by simp [World.cell?, R4.out.box]
             have f4 : w4.frozen? ⟨db, 0, none⟩ = false := by simp [World.frozen?, R4.out.box]
             obtain ⟨a4, n4, c4, rfl⟩ := row_slice r4
             clear g4 l4))
      all_goals
        go_ret2
        have hG2 : dropG g t = delAt g t := by rw [HEG.out.2]; unfold setG; rw [if_pos (by omega)]
        have hLs := HT.out.1.del HH.out.2.1
        have e : [] ++ S.take k ++ S.drop (k + 1) = S.take k ++ S.drop (k + 1) := by simp
        rw [e] at r4
        refine ⟨HEG.out.1.symm, _, _, RefB.stored R4.out (H4.out.2.2) r4 (Nat.le_trans hlo H1.out.1.size) hLs.up, hG2 ▸ hLs, ?_, ?_⟩
        · exact (Kept.ofBelow (H1.out.1.trans (H4.out.1.mono H1.out.1.size))).trans (Kept.setCell _ w4 db _ _ (.inl rfl))
        · rintro j (rfl | hj)
          · exact .inl (.inl rfl)
          · exact .inr (Nat.le_trans H1.out.1.size (H4.out.2.2 j hj))
  · replace hT : Away S t k := hT
    have hg := hT.none HH.out.2.1
    have HG := hide hg
    clear hT hg
    go_wp2_with fail
    go_ret2
    refine ⟨by unfold dropE held; rw [HG.out]; rfl, (.slice a S.length c), S, H1.out.2, ?_, Kept.ofBelow H1.out.1, fun k hk => .inl hk⟩
    unfold dropG held
    rw [HG.out]
    exact HH.out.2.1
set_option maxHeartbeats 4000000 in
set_option maxRecDepth 1000000 in
/-- All: a copy of the rows. -/
theorem refAll_any (w : World) (lo db : Nat) (lv : Value) (S : List RowT) (h : RefB w lo db lv S) (hS : S.length ≤ 1073741822) :
    Calls Try.prog 21 #[.pointer (some ⟨db, 0, none⟩)] w fun e w' => ∃ v, e = .returned v ∧ w'.ownsRow w.heap.size 46 2 v S.length (flatS S) ∧ Below w.heap.size w w' := by
  obtain ⟨a, c, rfl, hSc⟩ := h.form
  have HA : Hid (RefB (w.alloc (.cells #[] 46)) lo db (.slice a S.length c) S ∧ Below w.heap.size w (w.alloc (.cells #[] 46)) ∧ (w.alloc (.cells #[] 46)).ownsRow w.heap.size 46 2 (.slice (some ⟨w.heap.size, 0, none⟩) 0 0) ([] : List RowT).length (flatS [])) := by
    have hb : Below w.heap.size w (w.alloc (.cells #[] 46)) := (Below.refl _ w).alloc (Nat.le_refl _) _
    exact ⟨h.below hb, hb, ones_nil w _ (Nat.le_refl _)⟩
  have ma : (w.alloc (.cells #[] 46)).cell? ⟨db, 0, none⟩ = some (.slice a S.length c) := by simp [World.cell?, HA.out.1.box]
  have HF : Hid ((a = none ∧ S.length = 0) ∨ ∃ p, a = some p ∧ ∀ j u, (flatS S)[j]? = some u → (w.alloc (.cells #[] 46)).cell? (p.add j) = some u) := by
    have := HA.out.1.front S.length (Nat.le_refl _)
    rw [List.take_length] at this
    exact this
  clear h
  go_enter Try.func21, Try.ntmps21
  go_wp2_with (at_builtin; refine wpList_ones rfl (.tmp 3) (.tmp 7) rfl w.heap.size (.slice (some ⟨w.heap.size, 0, none⟩) 0 0) [] (by rfl) HA.out.2.2 a c S (by rfl) HF.out (by simp; omega) HA.out.2.1.size ?_; intro v2 w2 r2 g2 l2; have H2 := hide (grow_below HA.out.2.1 HA.out.2.1.size (fun k e => by cases e; exact Nat.le_refl _) g2 l2); clear g2 l2)
  go_ret
  rw [List.nil_append] at r2
  exact ⟨_, rfl, r2, H2.out.1⟩
end Go.Proofs.Ythjaehibndmehaa
