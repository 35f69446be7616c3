/-
  The document's disk: Do, a file is made.
-/
import Derived.Test.YtnpofjeiamjioaaRDoK
namespace Go.Proofs.Ytnpofjeiamjioaa
open Go.RowKit

set_option maxHeartbeats 4000000 in
set_option maxRecDepth 1000000 in
theorem rcreate_any (w : World) (B rb : Nat) (q : Int) (fv : Value) (F : List (Fl × Value)) (h : RfAt w B rb q fv F) (hF : F.length ≤ 1073741823) (hR : Rising (F.map (·.1))) (hB : B ≤ w.heap.size) (n z : Int) (ad : Option Addr) (dl dc : Nat) :
    Calls Try.prog 41 #[.pointer (some ⟨rb, 0, none⟩), .agg #[.int .i64 1, .int .i64 n, .slice ad dl dc, .int .i64 z]] w (RDoPost w B rb q fv F (actCreate (F.map (·.1)) n)) := by
  obtain ⟨w1, hw1⟩ : ∃ w1, w1 = w.alloc (.cells #[.int .i64 1, .int .i64 n, .slice ad dl dc, .int .i64 z] 39) := ⟨_, rfl⟩
  have B1 : Below w.heap.size w w1 := by rw [hw1]; exact (Below.refl _ w).alloc (Nat.le_refl _) _
  have x1 : w1.heap[w.heap.size]? = some (.cells #[.int .i64 1, .int .i64 n, .slice ad dl dc, .int .i64 z] 39 (0, 0)) := by rw [hw1]; exact heap_alloc_new w _
  have HR := hideR h
  have H1 := hideR (h.later B1)
  have HB1 := hideR B1
  have HX1 := hideR x1
  obtain ⟨c0, c1⟩ : w1.cell? ⟨w.heap.size, 0, none⟩ = some (.int .i64 1) ∧ w1.cell? ⟨w.heap.size, 1, none⟩ = some (.int .i64 n) := by simp [World.cell?, x1]
  have CP := hideR (place_any11 w1 B rb q fv F (h.later B1) n hF)
  obtain ⟨i, hi⟩ : ∃ i, i = (plP (F.map (·.1)) n).1 := ⟨_, rfl⟩
  obtain ⟨is, his⟩ : ∃ is, is = (plP (F.map (·.1)) n).2 := ⟨_, rfl⟩
  have HP := hideR (And.intro hi his)
  have HRS := hideR hR
  rw [← hi, ← his] at CP
  clear h B1 x1 hi his hR
  by_cases h1 : 1 ≤ n ∧ n ≤ 1099511627776
  · cases is with
    | true =>
      obtain ⟨f1, f2⟩ := h1
      have HA : HidR (actCreate (F.map (·.1)) n = (112, F.map (·.1))) := ⟨by
        obtain ⟨f, hl, _⟩ := (plP_spec (F.map (·.1)) n HRS.out).1 HP.out.2.symm
        rw [actCreate, if_pos ⟨f1, f2⟩, hl]⟩
      go_enter Try.func41, Try.ntmps41
      go_wp2_with (first
        | (go_at_call 57
           rw [← hw1]
           refine CP.out.mono ?_
           rintro e w2 ⟨rfl, b2⟩
           obtain ⟨d0, d1⟩ : w2.cell? ⟨w.heap.size, 0, none⟩ = some (.int .i64 1) ∧ w2.cell? ⟨w.heap.size, 1, none⟩ = some (.int .i64 n) := by
             have := (b2.block _ (Array.getElem?_eq_some_iff.1 HX1.out).1).trans HX1.out
             simp [World.cell?, this]
           have HB2 := hideR b2
           have CNb := hideR (numbered_any11 w2 n)
           have eb : (decide (1 ≤ n) && decide (n ≤ 1099511627776)) = true := by simp [f1, f2]
           rw [eb] at CNb
           clear b2 eb)
        | (go_at_call 56
           refine CNb.out.mono ?_
           rintro e w3 ⟨rfl, hw⟩
           have hw := hw.symm
           subst hw))
      go_ret
      rw [HA.out]
      exact RDoPost.none HR.out (HB1.out.trans (HB2.out.mono HB1.out.size))
    | false =>
      obtain ⟨f1, f2⟩ := h1
      obtain ⟨fa, fc, efv⟩ := HR.out.form
      obtain ⟨N, hN⟩ : ∃ N, N = F.length := ⟨_, rfl⟩
      rw [← hN] at efv hF
      have HN := hideR hN
      subst efv
      have hiN : i ≤ N := by have := (plP_spec (F.map (·.1)) n HRS.out).2.2; rw [← HP.out.1] at this; simpa [hN] using this
      obtain ⟨s1, s2, s3, s4⟩ := HR.out.src
      rw [← hN] at s2
      unfold maxLen at s3
      clear s1
      rcases s4 with ⟨rfl, hF0, rfl⟩ | ⟨g, rfl, _⟩
      · obtain rfl : N = 0 := by rw [hN, hF0]; rfl
        obtain rfl : i = 0 := by omega
        have HF0 := hideR hF0
        clear hF0
        have HA : HidR (actCreate (F.map (·.1)) n = (0, (F.map (·.1)).take 0 ++ (⟨n, [], 0⟩ : Fl) :: (F.map (·.1)).drop 0)) := ⟨by
          have hl := (plP_spec (F.map (·.1)) n HRS.out).2.1 HP.out.2.symm
          have hin := ins_new (F.map (·.1)) ⟨n, [], 0⟩ HRS.out HP.out.2.symm
          rw [actCreate, if_pos ⟨f1, f2⟩, hl]
          simp only [hin, ← HP.out.1]⟩
        clear hN
        have hi0 : (0 : Int) ≤ (0 : Int) := by omega
        have hi1 : (0 : Int) ≤ (0 : Int) := by omega
        have hi2 : (0 : Int) ≤ (0 : Int) := by omega
        go_enter Try.func41, Try.ntmps41
        go_wp2_with (first
          | (go_at_call 57
             rw [← hw1]
             refine CP.out.mono ?_
             rintro e w2 ⟨rfl, b2⟩
             obtain ⟨d0, d1⟩ : w2.cell? ⟨w.heap.size, 0, none⟩ = some (.int .i64 1) ∧ w2.cell? ⟨w.heap.size, 1, none⟩ = some (.int .i64 n) := by
               have := (b2.block _ (Array.getElem?_eq_some_iff.1 HX1.out).1).trans HX1.out
               simp [World.cell?, this]
             have HX2 := hideR ((b2.block _ (Array.getElem?_eq_some_iff.1 HX1.out).1).trans HX1.out)
             have B2 := hideR (HB1.out.trans (b2.mono HB1.out.size))
             have H2 := hideR (HR.out.later B2.out)
             have CNb := hideR (numbered_any11 w2 n)
             have eb : (decide (1 ≤ n) && decide (n ≤ 1099511627776)) = true := by simp [f1, f2]
             rw [eb] at CNb
             have k1 : (w2.alloc (.cells #[] 62)).cell? ⟨rb, 1, none⟩ = some (.slice (none) 0 0) := (H2.out.later ((Below.refl _ w2).alloc (Nat.le_refl _) _)).cells.2.1
             clear b2 eb)
          | (go_at_call 56
             refine CNb.out.mono ?_
             rintro e w3 ⟨rfl, hw⟩
             have hw := hw.symm
             subst hw)
          | (refine wpList_fapp rfl (.tmp 25) (.tmp 31) rfl w2.heap.size (.slice (some ⟨w2.heap.size, 0, none⟩) 0 0) 0 [] rfl (World.ownsRow_made w2 #[] 0 (Nat.le_refl _) (by unfold maxLen; omega) (by simp)) (none) 0 0 (flatR (F.take 0)) rfl (by rw [flatR_length, List.length_take, Nat.min_eq_left (by have := HN.out; omega)])
               (.inl ⟨rfl, rfl⟩) (fun u hu => HR.out.one u (flatR_mem_take hu)) (by omega) (by simp) ?_
             intro v3 w3 o3 g3 _ _ _
             rw [Nat.zero_add, List.nil_append] at o3
             obtain ⟨a3, c3, rfl⟩ := row_formR o3
             have b3 : Below w2.heap.size w2 w3 := ((Below.refl _ w2).alloc (Nat.le_refl _) _).grown g3 (by simp) (fun j hj => by simp [Value.ownBlock] at hj; omega)
             have HO3 := hideR o3
             have HB3 := hideR b3
             have d13 : w3.cell? ⟨w.heap.size, 1, none⟩ = some (.int .i64 n) := by
               have := (b3.block _ (Array.getElem?_eq_some_iff.1 HX2.out).1).trans HX2.out
               simp [World.cell?, this]
             have hz3 := b3.size
             clear o3 g3 b3)
          | (refine wpList_fapp rfl (.tmp 33) (.tmp 37) rfl w2.heap.size (.slice a3 0 c3) 0 (flatR (F.take 0)) rfl (HO3.out.alloc _) (some ⟨w3.heap.size, 0, none⟩) 1 1 [.int .i64 n, .slice none 0 0, .int .i64 0] rfl rfl (.inr (src_one w3 n 0 (.slice none 0 0))) one_file (by omega) (by simp; omega) ?_
             intro v4 w4 o4 g4 _ _ _
             obtain ⟨a4, c4, rfl⟩ := row_formR o4
             have b4 : Below w2.heap.size w2 w4 := (HB3.out.alloc hz3 _).grown g4 (by simp; omega) (fun j hj => (HO3.out.lt j hj).1)
             have HO4 := hideR o4
             have HB4 := hideR b4
             have H4 := hideR (H2.out.later b4)
             have k4 := H4.out.cells.2.1
             have hz4 := b4.size
             clear o4 g4 b4)
          | (refine wpList_fapp rfl (.tmp 40) (.tmp 46) rfl w2.heap.size (.slice a4 (0 + 1) c4) (0 + 1) (flatR (F.take 0) ++ [.int .i64 n, .slice none 0 0, .int .i64 0]) rfl HO4.out (none) (0 - 0) (0) (flatR (F.drop 0)) (by simp [Act.eval]) (by rw [flatR_length, List.length_drop]; have := HN.out; omega)
               (.inl ⟨rfl, rfl⟩) (fun u hu => HR.out.one u (flatR_mem_drop hu)) (by omega) (by omega) ?_
             intro v5 w5 o5 g5 _ _ _
             have b5 : Below w2.heap.size w2 w5 := HB4.out.grown g5 hz4 (fun j hj => (HO4.out.lt j hj).1)
             have o5' : w5.ownsRow w2.heap.size 62 3 v5 (F.take 0 ++ ((⟨n, [], 0⟩ : Fl), Value.slice none 0 0) :: F.drop 0).length (flatR (F.take 0 ++ ((⟨n, [], 0⟩ : Fl), Value.slice none 0 0) :: F.drop 0)) := by
               have e1 : flatR (F.take 0 ++ ((⟨n, [], 0⟩ : Fl), Value.slice none 0 0) :: F.drop 0) = flatR (F.take 0) ++ [.int .i64 n, .slice none 0 0, .int .i64 0] ++ flatR (F.drop 0) := by
                 rw [flatR_append, List.append_assoc]
                 rfl
               have e2 : (F.take 0 ++ ((⟨n, [], 0⟩ : Fl), Value.slice none 0 0) :: F.drop 0).length = 0 + 1 + (0 - 0) := by
                 rw [List.length_append, List.length_cons, List.length_take, List.length_drop]
                 have := HN.out
                 omega
               rw [e1, e2]
               exact o5
             obtain ⟨r1, r2, r3, r4⟩ := HR.out.reset (B2.out.trans (b5.mono B2.out.size)) (o5'.monoR (Nat.le_trans hB B2.out.size)) (fun p hp => by
               rcases List.mem_append.1 hp with hp | hp
               · exact (HR.out.own p (List.mem_of_mem_take hp)).below (B2.out.trans (b5.mono B2.out.size))
               · rcases List.mem_cons.1 hp with rfl | hp
                 · exact Own.nil _ _
                 · exact (HR.out.own p (List.mem_of_mem_drop hp)).below (B2.out.trans (b5.mono B2.out.size)))
             obtain ⟨a5, c5, e5⟩ := row_formR o5
             rw [show 0 + 1 + (0 - 0) = 0 + 1 by omega] at e5
             have L5 := hideR (o5'.lt)
             have R5 := hideR (And.intro r1 ((Kept.ofBelow (P := fun jj => jj = rb ∨ (Value.slice (none) 0 0).ownBlock = some jj) (B2.out.trans (b5.mono B2.out.size))).trans (r2.mono (fun g _ e => .inl e))))
             subst e5
             clear o5 g5 b5 o5' r1 r2))
        go_ret
        rw [HA.out]
        refine ⟨rfl, R5.out.2, _, _, R5.out.1, by simp, fun g e => .inr ?_, fun p hp g e => ?_⟩
        · have := (L5.out g e).1
          have := B2.out.size
          omega
        · rcases List.mem_append.1 hp with hp | hp
          · exact .inl ⟨p, List.mem_of_mem_take hp, e⟩
          · rcases List.mem_cons.1 hp with rfl | hp
            · cases e
            · exact .inl ⟨p, List.mem_of_mem_drop hp, e⟩
      · by_cases hfi : fc = i
        · subst hfi
          obtain rfl : N = fc := by omega
          have hz0 : N - N = 0 := by omega
          have HA : HidR (actCreate (F.map (·.1)) n = (0, (F.map (·.1)).take N ++ (⟨n, [], 0⟩ : Fl) :: (F.map (·.1)).drop N)) := ⟨by
            have hl := (plP_spec (F.map (·.1)) n HRS.out).2.1 HP.out.2.symm
            have hin := ins_new (F.map (·.1)) ⟨n, [], 0⟩ HRS.out HP.out.2.symm
            rw [actCreate, if_pos ⟨f1, f2⟩, hl]
            simp only [hin, ← HP.out.1]⟩
          clear hN
          have hi0 : (0 : Int) ≤ (N : Int) := by omega
          have hi1 : (N : Int) ≤ (N : Int) := by omega
          have hi2 : (N : Int) ≤ (N : Int) := by omega
          go_enter Try.func41, Try.ntmps41
          go_wp2_with (first
            | (go_at_call 57
               rw [← hw1]
               refine CP.out.mono ?_
               rintro e w2 ⟨rfl, b2⟩
               obtain ⟨d0, d1⟩ : w2.cell? ⟨w.heap.size, 0, none⟩ = some (.int .i64 1) ∧ w2.cell? ⟨w.heap.size, 1, none⟩ = some (.int .i64 n) := by
                 have := (b2.block _ (Array.getElem?_eq_some_iff.1 HX1.out).1).trans HX1.out
                 simp [World.cell?, this]
               have HX2 := hideR ((b2.block _ (Array.getElem?_eq_some_iff.1 HX1.out).1).trans HX1.out)
               have B2 := hideR (HB1.out.trans (b2.mono HB1.out.size))
               have H2 := hideR (HR.out.later B2.out)
               have CNb := hideR (numbered_any11 w2 n)
               have eb : (decide (1 ≤ n) && decide (n ≤ 1099511627776)) = true := by simp [f1, f2]
               rw [eb] at CNb
               have k1 : (w2.alloc (.cells #[] 62)).cell? ⟨rb, 1, none⟩ = some (.slice (some ⟨g, 0, none⟩) N N) := (H2.out.later ((Below.refl _ w2).alloc (Nat.le_refl _) _)).cells.2.1
               clear b2 eb)
            | (go_at_call 56
               refine CNb.out.mono ?_
               rintro e w3 ⟨rfl, hw⟩
               have hw := hw.symm
               subst hw)
            | (refine wpList_fapp rfl (.tmp 25) (.tmp 31) rfl w2.heap.size (.slice (some ⟨w2.heap.size, 0, none⟩) 0 0) 0 [] rfl (World.ownsRow_made w2 #[] 0 (Nat.le_refl _) (by unfold maxLen; omega) (by simp)) (some ⟨g, 0, none⟩) N N (flatR (F.take N)) rfl (by rw [flatR_length, List.length_take, Nat.min_eq_left (by have := HN.out; omega)])
                 (.inr ⟨_, rfl, fun j u hj => (H2.out.later ((Below.refl _ w2).alloc (Nat.le_refl _) (.cells #[] 62))).row.cells (g := g) rfl j u (flatR_take F N j u hj)⟩) (fun u hu => HR.out.one u (flatR_mem_take hu)) (by omega) (by simp) ?_
               intro v3 w3 o3 g3 _ _ _
               rw [Nat.zero_add, List.nil_append] at o3
               obtain ⟨a3, c3, rfl⟩ := row_formR o3
               have b3 : Below w2.heap.size w2 w3 := ((Below.refl _ w2).alloc (Nat.le_refl _) _).grown g3 (by simp) (fun j hj => by simp [Value.ownBlock] at hj; omega)
               have HO3 := hideR o3
               have HB3 := hideR b3
               have d13 : w3.cell? ⟨w.heap.size, 1, none⟩ = some (.int .i64 n) := by
                 have := (b3.block _ (Array.getElem?_eq_some_iff.1 HX2.out).1).trans HX2.out
                 simp [World.cell?, this]
               have hz3 := b3.size
               clear o3 g3 b3)
            | (refine wpList_fapp rfl (.tmp 33) (.tmp 37) rfl w2.heap.size (.slice a3 N c3) N (flatR (F.take N)) rfl (HO3.out.alloc _) (some ⟨w3.heap.size, 0, none⟩) 1 1 [.int .i64 n, .slice none 0 0, .int .i64 0] rfl rfl (.inr (src_one w3 n 0 (.slice none 0 0))) one_file (by omega) (by simp; omega) ?_
               intro v4 w4 o4 g4 _ _ _
               obtain ⟨a4, c4, rfl⟩ := row_formR o4
               have b4 : Below w2.heap.size w2 w4 := (HB3.out.alloc hz3 _).grown g4 (by simp; omega) (fun j hj => (HO3.out.lt j hj).1)
               have HO4 := hideR o4
               have HB4 := hideR b4
               have H4 := hideR (H2.out.later b4)
               have k4 := H4.out.cells.2.1
               have hz4 := b4.size
               clear o4 g4 b4)
            | (refine wpList_fapp rfl (.tmp 40) (.tmp 46) rfl w2.heap.size (.slice a4 (N + 1) c4) (N + 1) (flatR (F.take N) ++ [.int .i64 n, .slice none 0 0, .int .i64 0]) rfl HO4.out (some ⟨g, 0, none⟩) (N - N) (0) (flatR (F.drop N)) (by simp [Act.eval]) (by rw [flatR_length, List.length_drop]; have := HN.out; omega)
                 (.inr ⟨_, rfl, fun j u hj => by rw [List.drop_of_length_le (by have := HN.out; omega)] at hj; simp [flatR] at hj⟩) (fun u hu => HR.out.one u (flatR_mem_drop hu)) (by omega) (by omega) ?_
               intro v5 w5 o5 g5 _ _ _
               have b5 : Below w2.heap.size w2 w5 := HB4.out.grown g5 hz4 (fun j hj => (HO4.out.lt j hj).1)
               have o5' : w5.ownsRow w2.heap.size 62 3 v5 (F.take N ++ ((⟨n, [], 0⟩ : Fl), Value.slice none 0 0) :: F.drop N).length (flatR (F.take N ++ ((⟨n, [], 0⟩ : Fl), Value.slice none 0 0) :: F.drop N)) := by
                 have e1 : flatR (F.take N ++ ((⟨n, [], 0⟩ : Fl), Value.slice none 0 0) :: F.drop N) = flatR (F.take N) ++ [.int .i64 n, .slice none 0 0, .int .i64 0] ++ flatR (F.drop N) := by
                   rw [flatR_append, List.append_assoc]
                   rfl
                 have e2 : (F.take N ++ ((⟨n, [], 0⟩ : Fl), Value.slice none 0 0) :: F.drop N).length = N + 1 + (N - N) := by
                   rw [List.length_append, List.length_cons, List.length_take, List.length_drop]
                   have := HN.out
                   omega
                 rw [e1, e2]
                 exact o5
               obtain ⟨r1, r2, r3, r4⟩ := HR.out.reset (B2.out.trans (b5.mono B2.out.size)) (o5'.monoR (Nat.le_trans hB B2.out.size)) (fun p hp => by
                 rcases List.mem_append.1 hp with hp | hp
                 · exact (HR.out.own p (List.mem_of_mem_take hp)).below (B2.out.trans (b5.mono B2.out.size))
                 · rcases List.mem_cons.1 hp with rfl | hp
                   · exact Own.nil _ _
                   · exact (HR.out.own p (List.mem_of_mem_drop hp)).below (B2.out.trans (b5.mono B2.out.size)))
               obtain ⟨a5, c5, e5⟩ := row_formR o5
               rw [show N + 1 + (N - N) = N + 1 by omega] at e5
               have L5 := hideR (o5'.lt)
               have R5 := hideR (And.intro r1 ((Kept.ofBelow (P := fun jj => jj = rb ∨ (Value.slice (some ⟨g, 0, none⟩) N N).ownBlock = some jj) (B2.out.trans (b5.mono B2.out.size))).trans (r2.mono (fun g _ e => .inl e))))
               subst e5
               clear o5 g5 b5 o5' r1 r2))
          go_ret
          rw [HA.out]
          refine ⟨rfl, R5.out.2, _, _, R5.out.1, by simp, fun g e => .inr ?_, fun p hp g e => ?_⟩
          · have := (L5.out g e).1
            have := B2.out.size
            omega
          · rcases List.mem_append.1 hp with hp | hp
            · exact .inl ⟨p, List.mem_of_mem_take hp, e⟩
            · rcases List.mem_cons.1 hp with rfl | hp
              · cases e
              · exact .inl ⟨p, List.mem_of_mem_drop hp, e⟩
        · have hfi2 : ¬ (fc : Int) = (i : Int) := by omega
          have HA : HidR (actCreate (F.map (·.1)) n = (0, (F.map (·.1)).take i ++ (⟨n, [], 0⟩ : Fl) :: (F.map (·.1)).drop i)) := ⟨by
            have hl := (plP_spec (F.map (·.1)) n HRS.out).2.1 HP.out.2.symm
            have hin := ins_new (F.map (·.1)) ⟨n, [], 0⟩ HRS.out HP.out.2.symm
            rw [actCreate, if_pos ⟨f1, f2⟩, hl]
            simp only [hin, ← HP.out.1]⟩
          clear hN
          have hi0 : (0 : Int) ≤ (i : Int) := by omega
          have hi1 : (i : Int) ≤ (fc : Int) := by omega
          have hi2 : (i : Int) ≤ (N : Int) := by omega
          go_enter Try.func41, Try.ntmps41
          go_wp2_with (first
            | (go_at_call 57
               rw [← hw1]
               refine CP.out.mono ?_
               rintro e w2 ⟨rfl, b2⟩
               obtain ⟨d0, d1⟩ : w2.cell? ⟨w.heap.size, 0, none⟩ = some (.int .i64 1) ∧ w2.cell? ⟨w.heap.size, 1, none⟩ = some (.int .i64 n) := by
                 have := (b2.block _ (Array.getElem?_eq_some_iff.1 HX1.out).1).trans HX1.out
                 simp [World.cell?, this]
               have HX2 := hideR ((b2.block _ (Array.getElem?_eq_some_iff.1 HX1.out).1).trans HX1.out)
               have B2 := hideR (HB1.out.trans (b2.mono HB1.out.size))
               have H2 := hideR (HR.out.later B2.out)
               have CNb := hideR (numbered_any11 w2 n)
               have eb : (decide (1 ≤ n) && decide (n ≤ 1099511627776)) = true := by simp [f1, f2]
               rw [eb] at CNb
               have k1 : (w2.alloc (.cells #[] 62)).cell? ⟨rb, 1, none⟩ = some (.slice (some ⟨g, 0, none⟩) N fc) := (H2.out.later ((Below.refl _ w2).alloc (Nat.le_refl _) _)).cells.2.1
               clear b2 eb)
            | (go_at_call 56
               refine CNb.out.mono ?_
               rintro e w3 ⟨rfl, hw⟩
               have hw := hw.symm
               subst hw)
            | (refine wpList_fapp rfl (.tmp 25) (.tmp 31) rfl w2.heap.size (.slice (some ⟨w2.heap.size, 0, none⟩) 0 0) 0 [] rfl (World.ownsRow_made w2 #[] 0 (Nat.le_refl _) (by unfold maxLen; omega) (by simp)) (some ⟨g, 0, none⟩) i fc (flatR (F.take i)) rfl (by rw [flatR_length, List.length_take, Nat.min_eq_left (by have := HN.out; omega)])
                 (.inr ⟨_, rfl, fun j u hj => (H2.out.later ((Below.refl _ w2).alloc (Nat.le_refl _) (.cells #[] 62))).row.cells (g := g) rfl j u (flatR_take F i j u hj)⟩) (fun u hu => HR.out.one u (flatR_mem_take hu)) (by omega) (by simp) ?_
               intro v3 w3 o3 g3 _ _ _
               rw [Nat.zero_add, List.nil_append] at o3
               obtain ⟨a3, c3, rfl⟩ := row_formR o3
               have b3 : Below w2.heap.size w2 w3 := ((Below.refl _ w2).alloc (Nat.le_refl _) _).grown g3 (by simp) (fun j hj => by simp [Value.ownBlock] at hj; omega)
               have HO3 := hideR o3
               have HB3 := hideR b3
               have d13 : w3.cell? ⟨w.heap.size, 1, none⟩ = some (.int .i64 n) := by
                 have := (b3.block _ (Array.getElem?_eq_some_iff.1 HX2.out).1).trans HX2.out
                 simp [World.cell?, this]
               have hz3 := b3.size
               clear o3 g3 b3)
            | (refine wpList_fapp rfl (.tmp 33) (.tmp 37) rfl w2.heap.size (.slice a3 i c3) i (flatR (F.take i)) rfl (HO3.out.alloc _) (some ⟨w3.heap.size, 0, none⟩) 1 1 [.int .i64 n, .slice none 0 0, .int .i64 0] rfl rfl (.inr (src_one w3 n 0 (.slice none 0 0))) one_file (by omega) (by simp; omega) ?_
               intro v4 w4 o4 g4 _ _ _
               obtain ⟨a4, c4, rfl⟩ := row_formR o4
               have b4 : Below w2.heap.size w2 w4 := (HB3.out.alloc hz3 _).grown g4 (by simp; omega) (fun j hj => (HO3.out.lt j hj).1)
               have HO4 := hideR o4
               have HB4 := hideR b4
               have H4 := hideR (H2.out.later b4)
               have k4 := H4.out.cells.2.1
               have hz4 := b4.size
               clear o4 g4 b4)
            | (refine wpList_fapp rfl (.tmp 40) (.tmp 46) rfl w2.heap.size (.slice a4 (i + 1) c4) (i + 1) (flatR (F.take i) ++ [.int .i64 n, .slice none 0 0, .int .i64 0]) rfl HO4.out (some ⟨g, i * 3, none⟩) (N - i) (fc - i) (flatR (F.drop i)) (by simp [Act.eval]) (by rw [flatR_length, List.length_drop]; have := HN.out; omega)
                 (.inr ⟨_, rfl, fun j u hj => ?_⟩) (fun u hu => HR.out.one u (flatR_mem_drop hu)) (by omega) (by omega) ?_
               · have := H4.out.row.cells (g := g) rfl (i * 3 + j) u (flatR_drop F i j (by have := HN.out; omega) u hj)
                 exact at_cell (cell_at this)
               intro v5 w5 o5 g5 _ _ _
               have b5 : Below w2.heap.size w2 w5 := HB4.out.grown g5 hz4 (fun j hj => (HO4.out.lt j hj).1)
               have o5' : w5.ownsRow w2.heap.size 62 3 v5 (F.take i ++ ((⟨n, [], 0⟩ : Fl), Value.slice none 0 0) :: F.drop i).length (flatR (F.take i ++ ((⟨n, [], 0⟩ : Fl), Value.slice none 0 0) :: F.drop i)) := by
                 have e1 : flatR (F.take i ++ ((⟨n, [], 0⟩ : Fl), Value.slice none 0 0) :: F.drop i) = flatR (F.take i) ++ [.int .i64 n, .slice none 0 0, .int .i64 0] ++ flatR (F.drop i) := by
                   rw [flatR_append, List.append_assoc]
                   rfl
                 have e2 : (F.take i ++ ((⟨n, [], 0⟩ : Fl), Value.slice none 0 0) :: F.drop i).length = i + 1 + (N - i) := by
                   rw [List.length_append, List.length_cons, List.length_take, List.length_drop]
                   have := HN.out
                   omega
                 rw [e1, e2]
                 exact o5
               obtain ⟨r1, r2, r3, r4⟩ := HR.out.reset (B2.out.trans (b5.mono B2.out.size)) (o5'.monoR (Nat.le_trans hB B2.out.size)) (fun p hp => by
                 rcases List.mem_append.1 hp with hp | hp
                 · exact (HR.out.own p (List.mem_of_mem_take hp)).below (B2.out.trans (b5.mono B2.out.size))
                 · rcases List.mem_cons.1 hp with rfl | hp
                   · exact Own.nil _ _
                   · exact (HR.out.own p (List.mem_of_mem_drop hp)).below (B2.out.trans (b5.mono B2.out.size)))
               obtain ⟨a5, c5, e5⟩ := row_formR o5
               rw [show i + 1 + (N - i) = N + 1 by omega] at e5
               have L5 := hideR (o5'.lt)
               have R5 := hideR (And.intro r1 ((Kept.ofBelow (P := fun jj => jj = rb ∨ (Value.slice (some ⟨g, 0, none⟩) N fc).ownBlock = some jj) (B2.out.trans (b5.mono B2.out.size))).trans (r2.mono (fun g _ e => .inl e))))
               subst e5
               clear o5 g5 b5 o5' r1 r2))
          go_ret
          rw [HA.out]
          refine ⟨rfl, R5.out.2, _, _, R5.out.1, by simp, fun g e => .inr ?_, fun p hp g e => ?_⟩
          · have := (L5.out g e).1
            have := B2.out.size
            omega
          · rcases List.mem_append.1 hp with hp | hp
            · exact .inl ⟨p, List.mem_of_mem_take hp, e⟩
            · rcases List.mem_cons.1 hp with rfl | hp
              · cases e
              · exact .inl ⟨p, List.mem_of_mem_drop hp, e⟩
  · have HA : HidR (actCreate (F.map (·.1)) n = (111, F.map (·.1))) := ⟨by rw [actCreate, if_neg h1]⟩
    have eb : (decide (1 ≤ n) && decide (n ≤ 1099511627776)) = false := by rw [Bool.and_eq_false_iff]; simp; omega
    go_enter Try.func41, Try.ntmps41
    go_wp2_with (first
      | (go_at_call 57
         rw [← hw1]
         refine CP.out.mono ?_
         rintro e w2 ⟨rfl, b2⟩
         obtain ⟨d0, d1⟩ : w2.cell? ⟨w.heap.size, 0, none⟩ = some (.int .i64 1) ∧ w2.cell? ⟨w.heap.size, 1, none⟩ = some (.int .i64 n) := by
           have := (b2.block _ (Array.getElem?_eq_some_iff.1 HX1.out).1).trans HX1.out
           simp [World.cell?, this]
         have HB2 := hideR b2
         have CNb := hideR (numbered_any11 w2 n)
         rw [eb] at CNb
         clear b2 eb)
      | (go_at_call 56
         refine CNb.out.mono ?_
         rintro e w3 ⟨rfl, hw⟩
         have hw := hw.symm
         subst hw))
    go_ret
    rw [HA.out]
    exact RDoPost.none HR.out (HB1.out.trans (HB2.out.mono HB1.out.size))
end Go.Proofs.Ytnpofjeiamjioaa
