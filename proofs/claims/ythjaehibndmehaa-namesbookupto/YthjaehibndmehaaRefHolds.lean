/-
  The document's book: Hold.
-/
import Derived.Test.YthjaehibndmehaaRefHold
namespace Go.Proofs.Ythjaehibndmehaa
open Go.RowKit

theorem below_q {B : Nat} {w w' : World} (h : Below B w w') (n : Nat) : Below B w (w'.drewN n) := ⟨h.os, h.tape, h.output, h.size, h.block⟩
theorem grow_below {n : Nat} {w1 w2 w3 : World} {v v' : Value} (h : Below n w1 w2) (hn : n ≤ w2.heap.size) (hv : ∀ k, v.ownBlock = some k → n ≤ k) (g : w2.grownBy w3 v.ownBlock) (l : v'.ownBlock = v.ownBlock ∨ v'.ownBlock = some w2.heap.size) : Below n w1 w3 ∧ n ≤ w3.heap.size ∧ ∀ k, v'.ownBlock = some k → n ≤ k := by
  have K : Kept (fun k => v.ownBlock = some k) w2 w3 := Kept.ofGrown g (fun _ e => e)
  refine ⟨h.trans (K.below hn (fun k hk e => by have := hv k e; omega)), Nat.le_trans hn g.size, fun k hk => ?_⟩
  rcases l with l | l
  · exact hv k (l ▸ hk)
  · rw [l] at hk
    cases hk
    exact hn
theorem RefB.backIf {w : World} {lo db gr n c : Nat} {S : List RowT} (h : RefB w lo db (.slice (some ⟨gr, 0, none⟩) n c) S) (k : Nat) (hk : k ≤ S.length) (hc : S.length ≤ c) : ((if c = k then some (⟨gr, 0, none⟩ : Addr) else some ⟨gr, k * 2, none⟩) = none ∧ (S.drop k).length = 0) ∨ ∃ p, (if c = k then some (⟨gr, 0, none⟩ : Addr) else some ⟨gr, k * 2, none⟩) = some p ∧ ∀ j u, (flatS (S.drop k))[j]? = some u → w.cell? (p.add j) = some u := by
  right
  by_cases e : c = k
  · refine ⟨_, if_pos e, fun j u hu => ?_⟩
    rw [List.drop_eq_nil_of_le (by omega)] at hu
    simp [flatS] at hu
  · refine ⟨_, if_neg e, fun j u hu => ?_⟩
    rcases h.back k hk with ⟨h0, _⟩ | ⟨g, hg, hh⟩
    · cases h0
    · simp only [Option.some.injEq, Addr.mk.injEq, and_true] at hg
      subst hg
      exact hh j u hu
theorem RefB.stored {w : World} {lo n1 db : Nat} {lv v : Value} {S U : List RowT} (h : RefB w lo db lv S) (hv : ∀ k, v.ownBlock = some k → n1 ≤ k) (hr : w.ownsRow n1 46 2 v U.length (flatS U)) (hn : lo ≤ n1) (hup : U.Pairwise (fun x y => less x.1 y.1 = true)) : RefB (w.setCell ⟨db, 0, none⟩ v) lo db v U := by
  obtain ⟨h1, h2⟩ := set_cells h.box 0 v
  have hne : ∀ g, v.ownBlock = some g → g ≠ db := by
    rintro g hg rfl
    rcases hr.2 with ⟨rfl, _⟩ | ⟨g', cap, cur, rfl, _, hc, _⟩
    · cases hg
    · simp only [Value.ownBlock, Option.some.injEq] at hg
      subst hg
      have := h.box
      rw [hc] at this
      simp at this
  refine ⟨by rw [h1]; simp, ⟨hr.1, ?_⟩, h.low, hup⟩
  rcases hr.2 with h0 | ⟨g, cap, cur, rfl, hB, hg, rest⟩
  · exact .inl h0
  · exact .inr ⟨g, cap, cur, rfl, Nat.le_trans hn hB, (h2.block g (Array.getElem?_eq_some_iff.1 hg).1 (fun e => hne g rfl (by cases e; rfl))).trans hg, rest⟩
theorem row_slice {w : World} {B : Nat} {e : TypeId} {s : Nat} {v : Value} {n : Nat} {xs : List Value} (h : w.ownsRow B e s v n xs) : ∃ a m c, v = .slice a m c := by
  rcases h.2 with ⟨rfl, _⟩ | ⟨g, cap, cur, rfl, _⟩
  · exact ⟨_, _, _, rfl⟩
  · exact ⟨_, _, _, rfl⟩
theorem cells_two (w : World) (x y : Value) (t : TypeId) : ∀ j u, [x, y][j]? = some u → (w.alloc (.cells #[x, y] t)).cell? ((⟨w.heap.size, 0, none⟩ : Addr).add j) = some u := by
  intro j u hu
  have e : ((⟨w.heap.size, 0, none⟩ : Addr).add j) = ⟨w.heap.size, j, none⟩ := by unfold Addr.add; split <;> simp_all
  rw [e]
  have hb := heap_alloc_new w (.cells #[x, y] t)
  simp only [World.cell?, hb]
  match j, hu with
  | 0, hu => simpa using hu
  | 1, hu => simpa using hu
set_option maxHeartbeats 4000000 in
set_option maxRecDepth 1000000 in
theorem refHold_any (w : World) (lo db : Nat) (lv : Value) (S : List RowT) (g : Text → Option Int) (s : ByteArray) (h : RefB w lo db lv S) (hL : Listed g S) (hpos : ∀ t v, g t = some v → 1 ≤ v) (hS : S.length ≤ 1073741822) (hu : held g s.data.toList < 9223372036854775807) (hlo : lo ≤ w.heap.size) :
    Calls Try.prog 36 #[.pointer (some ⟨db, 0, none⟩), .string s] w fun e w' => e = holdE g s.data.toList ∧ WentR w lo db lv (holdG g s.data.toList) w' := by
  obtain ⟨⟨t⟩⟩ := s
  replace hu : held g t < 9223372036854775807 := hu
  show Calls Try.prog 36 #[.pointer (some ⟨db, 0, none⟩), .string ⟨⟨t⟩⟩] w fun e w' => e = holdE g t ∧ WentR w lo db lv (holdG g t) w'
  obtain ⟨a, c, rfl, hSc⟩ := h.form
  have HH := hide (And.intro h (And.intro hL (And.intro hpos hlo)))
  have HP := hide (place_any w lo db (.slice a S.length c) S ⟨⟨t⟩⟩ h (by omega))
  cases hv : validB t
  · have HV := hide hv
    clear h hL hpos hv
    go_enter Try.func36, Try.ntmps36
    go_wp2_with fail
    refine (refValid_any ⟨⟨t⟩⟩ w).mono ?_
    rintro e w1 ⟨rfl, hW⟩
    have hW := hW.symm
    subst hW
    rw [show validB (⟨⟨t⟩⟩ : ByteArray).data.toList = validB t from rfl, HV.out]
    go_wp2_with fail
    go_ret2
    refine ⟨by unfold holdE; rw [HV.out]; rfl, (.slice a S.length c), S, HH.out.1, ?_, Kept.refl _ _, fun k hk => .inl hk⟩
    unfold holdG
    rw [HV.out]
    exact HH.out.2.1
  · have HV := hide hv
    have HU := hide hu
    clear h hL hpos hv hu
    go_enter Try.func36, Try.ntmps36
    go_wp2_with fail
    refine (refValid_any ⟨⟨t⟩⟩ w).mono ?_
    rintro e w1 ⟨rfl, hW⟩
    have hW := hW.symm
    subst hW
    rw [show validB (⟨⟨t⟩⟩ : ByteArray).data.toList = validB t from rfl, HV.out]
    go_wp2_with fail
    refine HP.out.mono ?_
    rintro e w1 ⟨⟨k, hk⟩, q, hq⟩
    have B1 : Below w.heap.size w w1 := by rw [hq]; exact below_q (Below.refl _ w) q
    have H1 := hide (And.intro B1 (HH.out.1.below B1))
    clear hq B1 HP
    rcases hk with ⟨x, rfl, hT⟩ | ⟨rfl, hT⟩
    · replace hT : There S t k x := hT
      have hkl := hT.le
      have hki : (k : Int) < (S.length : Int) := by omega
      have hg := hT.held HH.out.2.1
      have hx1 := HH.out.2.2.1 _ _ hg
      have hx2 : x < 9223372036854775807 := by have := HU.out; unfold held at this; rw [hg] at this; exact this
      obtain ⟨gr, rfl, _, c1, f1⟩ := H1.out.2.cell hT.get
      simp only [] at c1
      have m0 : w1.cell? ⟨db, 0, none⟩ = some (.slice (some ⟨gr, 0, none⟩) S.length c) := by simp [World.cell?, H1.out.2.box]
      have hne : gr ≠ db := by
        intro e
        obtain ⟨cur, hc, _⟩ := H1.out.2.block (k := gr) rfl
        rw [e, H1.out.2.box] at hc
        simp at hc
      have m1 : (w1.setCell ⟨gr, k * 2 + 1, none⟩ (.int .i64 (x + 1))).cell? ⟨db, 0, none⟩ = some (.slice (some ⟨gr, 0, none⟩) S.length c) := by
        rw [← m0]
        exact World.cell?_of_block ((Kept.setCell (fun k => k = gr) w1 gr _ _ rfl).block db (cell_lt m0) (fun e => hne e.symm))
      have HT := hide (And.intro hT hg)
      clear hT hg
      go_wp2_with fail
      go_ret2
      have hG : holdG g t = putAt g t (x + 1) := by
        unfold holdG setG held
        rw [HV.out, HT.out.2]
        simp only [if_true, Option.getD_some]
        rw [if_neg (show ¬ x + 1 = 0 by omega)]
      have hLs := HT.out.1.set HH.out.2.1 (x + 1)
      refine ⟨by unfold holdE held; rw [HV.out, HT.out.2]; rfl, (.slice (some ⟨gr, 0, none⟩) S.length c), S.set k (t, x + 1), H1.out.2.setAt HT.out.1.get (x + 1) hLs.up, hG ▸ hLs, ?_, fun k hk => .inl hk⟩
      exact (Kept.ofBelow H1.out.1).trans (Kept.setCell _ w1 gr _ _ (.inr rfl))
    · replace hT : Away S t k := hT
      have hkl := hT.le
      have hki : (k : Int) ≤ (S.length : Int) := by omega
      have hg := hT.none HH.out.2.1
      have HT := hide (And.intro hT hg)
      have htk : (S.take k).length = k := by simp; omega
      clear hT hg
      have hform : (a = none ∧ S = [] ∧ c = 0) ∨ ∃ gr, a = some ⟨gr, 0, none⟩ := by
        rcases H1.out.2.row.2 with ⟨e, h0⟩ | ⟨gr, cap, cur, e, _⟩
        · simp only [Value.slice.injEq] at e
          exact .inl ⟨e.1, List.eq_nil_of_length_eq_zero h0, e.2.2⟩
        · simp only [Value.slice.injEq] at e
          exact .inr ⟨gr, e.1⟩
      rcases hform with ⟨rfl, hS0, rfl⟩ | ⟨gr, rfl⟩
      · have hS1 : S.length = 0 := by rw [hS0]; rfl
        obtain rfl : k = 0 := by omega
        have HS0 := hide hS0
        have m0 : w1.cell? ⟨db, 0, none⟩ = some (.slice none 0 0) := by simp [World.cell?, H1.out.2.box, hS1]
        have HA : Hid (RefB (w1.alloc (.cells #[] 46)) lo db (.slice none S.length 0) S ∧ Below w1.heap.size w1 (w1.alloc (.cells #[] 46)) ∧ (w1.alloc (.cells #[] 46)).ownsRow w1.heap.size 46 2 (.slice (some ⟨w1.heap.size, 0, none⟩) 0 0) ([] : List RowT).length (flatS [])) := by
          have hb : Below w1.heap.size w1 (w1.alloc (.cells #[] 46)) := (Below.refl _ w1).alloc (Nat.le_refl _) _
          exact ⟨H1.out.2.below hb, hb, ones_nil w1 _ (Nat.le_refl _)⟩
        have ma : (w1.alloc (.cells #[] 46)).cell? ⟨db, 0, none⟩ = some (.slice none 0 0) := by simp [World.cell?, HA.out.1.box, hS1]
        have HS1 := hide hS1
        clear hS0 hS1 hki hkl htk hSc
        go_upto_region 7 with fail
        go_wp2_with (first
            | (at_builtin; refine wpList_ones rfl (.tmp 38) (.tmp 44) rfl w1.heap.size (.slice (some ⟨w1.heap.size, 0, none⟩) 0 0) [] (by rfl) HA.out.2.2 none 0 [] (by rfl) (.inl ⟨rfl, rfl⟩) (by simp) HA.out.2.1.size ?_
               intro v2 w2 r2 g2 l2
               have H2 := hide (grow_below HA.out.2.1 HA.out.2.1.size (fun k e => by cases e; exact Nat.le_refl _) g2 l2)
               have R2 := hide (H1.out.2.below H2.out.1)
               have s2 := H2.out.2.1
               clear g2 l2)
            | (at_builtin; refine wpList_ones rfl (.tmp 46) (.tmp 49) rfl w1.heap.size v2 ([] ++ []) (by rfl) (World.ownsRow.alloc r2 _) (some ⟨w2.heap.size, 0, none⟩) 1 [(t, 1)] (by rfl) (.inr ⟨_, rfl, cells_two _ _ _ _⟩) (by simp) (by simp; omega) ?_
               intro v3 w3 r3 g3 l3
               have H3 := hide (grow_below (H2.out.1.alloc H2.out.2.1 _) (by simp; omega) H2.out.2.2 g3 l3)
               have R3 := hide (H1.out.2.below H3.out.1)
               have s3 := H3.out.2.1
               have m3 : w3.cell? ⟨db, 0, none⟩ = some (.slice none 0 0) := by simp [World.cell?, R3.out.box, HS1.out]
               clear g3 l3)
            | (at_builtin; refine wpList_ones rfl (.tmp 52) (.tmp 58) rfl w1.heap.size v3 ([] ++ [] ++ [(t, 1)]) (by rfl) r3 none 0 [] (by rfl) (.inl ⟨rfl, rfl⟩) (by simp) s3 ?_
               intro v4 w4 r4 g4 l4
               have H4 := hide (grow_below H3.out.1 H3.out.2.1 H3.out.2.2 g4 l4)
               have R4 := hide (H1.out.2.below H4.out.1)
               have m4 : w4.cell? ⟨db, 0, none⟩ = some (.slice none 0 0) := by simp [World.cell?, R4.out.box, HS1.out]
               have f4 : w4.frozen? ⟨db, 0, none⟩ = false := by simp [World.frozen?, R4.out.box]
               obtain ⟨a4, n4, c4, rfl⟩ := row_slice r4
               clear g4 l4))
        go_ret2
        have hG : holdG g t = putAt g t 1 := by
          unfold holdG setG held
          rw [HV.out, HT.out.2]
          rfl
        have hLs := HT.out.1.put HH.out.2.1 1
        have e : [] ++ [] ++ [(t, (1 : Int))] ++ [] = S.take 0 ++ (t, 1) :: S.drop 0 := by rw [HS0.out]; rfl
        rw [e] at r4
        refine ⟨by unfold holdE held; rw [HV.out, HT.out.2]; rfl, _, _, RefB.stored R4.out (H4.out.2.2) r4 (Nat.le_trans hlo H1.out.1.size) hLs.up, hG ▸ hLs, ?_, ?_⟩
        · exact (Kept.ofBelow (H1.out.1.trans (H4.out.1.mono H1.out.1.size))).trans (Kept.setCell _ w4 db _ _ (.inl rfl))
        · rintro j (rfl | hj)
          · exact .inl (.inl rfl)
          · exact .inr (Nat.le_trans H1.out.1.size (H4.out.2.2 j hj))
      · have m0 : w1.cell? ⟨db, 0, none⟩ = some (.slice (some ⟨gr, 0, none⟩) S.length c) := by simp [World.cell?, H1.out.2.box]
        have HA : Hid (RefB (w1.alloc (.cells #[] 46)) lo db (.slice (some ⟨gr, 0, none⟩) S.length c) S ∧ Below w1.heap.size w1 (w1.alloc (.cells #[] 46)) ∧ (w1.alloc (.cells #[] 46)).ownsRow w1.heap.size 46 2 (.slice (some ⟨w1.heap.size, 0, none⟩) 0 0) ([] : List RowT).length (flatS [])) := by
          have hb : Below w1.heap.size w1 (w1.alloc (.cells #[] 46)) := (Below.refl _ w1).alloc (Nat.le_refl _) _
          exact ⟨H1.out.2.below hb, hb, ones_nil w1 _ (Nat.le_refl _)⟩
        have ma : (w1.alloc (.cells #[] 46)).cell? ⟨db, 0, none⟩ = some (.slice (some ⟨gr, 0, none⟩) S.length c) := by simp [World.cell?, HA.out.1.box]
        have hdk : (S.drop k).length = S.length - k := by simp
        go_upto_region 7 with fail
        go_wp2_with (first
            | (at_builtin; refine wpList_ones rfl (.tmp 38) (.tmp 44) rfl w1.heap.size (.slice (some ⟨w1.heap.size, 0, none⟩) 0 0) [] (by rfl) HA.out.2.2 (some ⟨gr, 0, none⟩) c (S.take k) (by rw [htk]; rfl) (HA.out.1.front k hkl) (by simp; omega) HA.out.2.1.size ?_
               intro v2 w2 r2 g2 l2
               have H2 := hide (grow_below HA.out.2.1 HA.out.2.1.size (fun k e => by cases e; exact Nat.le_refl _) g2 l2)
               have R2 := hide (H1.out.2.below H2.out.1)
               have s2 := H2.out.2.1
               clear g2 l2)
            | (at_builtin; refine wpList_ones rfl (.tmp 46) (.tmp 49) rfl w1.heap.size v2 ([] ++ S.take k) (by rfl) (World.ownsRow.alloc r2 _) (some ⟨w2.heap.size, 0, none⟩) 1 [(t, 1)] (by rfl) (.inr ⟨_, rfl, cells_two _ _ _ _⟩) (by simp; omega) (by simp; omega) ?_
               intro v3 w3 r3 g3 l3
               have H3 := hide (grow_below (H2.out.1.alloc H2.out.2.1 _) (by simp; omega) H2.out.2.2 g3 l3)
               have R3 := hide (H1.out.2.below H3.out.1)
               have s3 := H3.out.2.1
               have m3 : w3.cell? ⟨db, 0, none⟩ = some (.slice (some ⟨gr, 0, none⟩) S.length c) := by simp [World.cell?, R3.out.box]
               clear g3 l3)
            | (at_builtin; refine wpList_ones rfl (.tmp 52) (.tmp 58) rfl w1.heap.size v3 ([] ++ S.take k ++ [(t, 1)]) (by rfl) r3 (if c = k then some ⟨gr, 0, none⟩ else some ⟨gr, k * 2, none⟩) (c - k) (S.drop k) (by rw [hdk]; rfl) (R3.out.backIf k hkl hSc) (by simp; omega) s3 ?_
               intro v4 w4 r4 g4 l4
               have H4 := hide (grow_below H3.out.1 H3.out.2.1 H3.out.2.2 g4 l4)
               have R4 := hide (H1.out.2.below H4.out.1)
               have m4 : w4.cell? ⟨db, 0, none⟩ = some (.slice (some ⟨gr, 0, none⟩) S.length c) := by simp [World.cell?, R4.out.box]
               have f4 : w4.frozen? ⟨db, 0, none⟩ = false := by simp [World.frozen?, R4.out.box]
               obtain ⟨a4, n4, c4, rfl⟩ := row_slice r4
               clear g4 l4))
        all_goals
          go_ret2
          have hG : holdG g t = putAt g t 1 := by
            unfold holdG setG held
            rw [HV.out, HT.out.2]
            rfl
          have hLs := HT.out.1.put HH.out.2.1 1
          have e : [] ++ S.take k ++ [(t, (1 : Int))] ++ S.drop k = S.take k ++ (t, 1) :: S.drop k := by simp
          rw [e] at r4
          refine ⟨by unfold holdE held; rw [HV.out, HT.out.2]; rfl, _, _, RefB.stored R4.out (H4.out.2.2) r4 (Nat.le_trans hlo H1.out.1.size) hLs.up, hG ▸ hLs, ?_, ?_⟩
          · exact (Kept.ofBelow (H1.out.1.trans (H4.out.1.mono H1.out.1.size))).trans (Kept.setCell _ w4 db _ _ (.inl rfl))
          · rintro j (rfl | hj)
            · exact .inl (.inl rfl)
            · exact .inr (Nat.le_trans H1.out.1.size (H4.out.2.2 j hj))
end Go.Proofs.Ythjaehibndmehaa
