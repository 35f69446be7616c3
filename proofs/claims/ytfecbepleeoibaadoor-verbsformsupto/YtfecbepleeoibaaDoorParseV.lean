/-
  The walk of verbs.Parse.
-/
import Derived.Test.YtfecbepleeoibaaDoorRead
namespace Go.Proofs.YtfecbepleeoibaaDoor
open Go.RowKit Go.Lib

theorem below_drewN (B : Nat) (w : World) (n : Nat) : Below B w (w.drewN n) := ⟨rfl, rfl, rfl, Nat.le_refl _, fun _ _ => rfl⟩
theorem parse_unknown {l : List UInt8} (h : kindL (firstL l) = 0) : parseC l = zeroC ∧ parseE l = 70 := by
  unfold parseC parseE
  rw [if_pos h, if_pos h]
  exact ⟨rfl, rfl⟩
theorem parse_form {l : List UInt8} (h : kindL (firstL l) ≠ 0) (h2 : readL (kindL (firstL l)) l = none) : parseC l = zeroC ∧ parseE l = 71 := by
  unfold parseC parseE
  rw [if_neg h, if_neg h, h2]
  exact ⟨rfl, rfl⟩
theorem parse_ok {l : List UInt8} (h : kindL (firstL l) ≠ 0) {v : Nat → Int} {t : List UInt8} (h2 : readL (kindL (firstL l)) l = some (v, t)) : parseC l = readC (kindL (firstL l)) l ∧ parseE l = 0 := by
  unfold parseC parseE readC
  rw [if_neg h, if_neg h, h2]
  exact ⟨rfl, rfl⟩

set_option maxHeartbeats 2000000 in
set_option maxRecDepth 1000000 in
theorem parseV_any (s : ByteArray) (w : World) (T : Tabs w) (hs : s.size < 4294967281) :
    Calls Tryd.prog 12 #[.string s] w fun e w' => e = .returned (.tuple #[cmdV (parseC s.data.toList) (.slice none 0 0), .int .i64 (parseE s.data.toList)]) ∧ Below w.heap.size w w' := by
  have HT := hide T
  have HS := hide hs
  clear T hs
  obtain ⟨cv, hcv⟩ : ∃ cv, parseC s.data.toList = cv := ⟨_, rfl⟩
  obtain ⟨ev, hev⟩ : ∃ ev, parseE s.data.toList = ev := ⟨_, rfl⟩
  have HCV := hide hcv
  have HEV := hide hev
  rw [hcv, hev]
  clear hcv hev
  go_enter Tryd.func12, Tryd.ntmps12
  go_wp2_with fail
  obtain ⟨m, hm⟩ := (HT.out.alloc (.cells #[.int .i64 0, .int .i64 0, .int .i64 0, .int .i64 0, .int .i64 0, .int .i64 0, .string ⟨#[]⟩, .slice none 0 0] 27)).max
  refine (Tryd.strings_Cut s ⟨#[32]⟩ m _ HS.out hm).mono ?_
  rintro e w1 ⟨rfl, nd, hw1⟩
  have B1 := hw1 ▸ below_drewN (w.heap.size + 1) (w.alloc (.cells #[.int .i64 0, .int .i64 0, .int .i64 0, .int .i64 0, .int .i64 0, .int .i64 0, .string ⟨#[]⟩, .slice none 0 0] 27)) nd
  clear hw1 hm
  have HT1 := hide ((HT.out.alloc _).below (show Below (w.alloc (.cells #[.int .i64 0, .int .i64 0, .int .i64 0, .int .i64 0, .int .i64 0, .int .i64 0, .string ⟨#[]⟩, .slice none 0 0] 27)).heap.size _ w1 by simpa using B1))
  have HG1 : Hid (w1.heap[w.heap.size]? = some (.cells zero8A 27 (0, 0))) := (B1.block w.heap.size (by omega)).trans (heap_alloc_new _ _)
  have HB1 : Hid (Below w.heap.size w w1) := ((Below.refl _ w).alloc (Nat.le_refl _) _).trans (B1.mono (by omega))
  have hs1 : w.heap.size + 1 ≤ w1.heap.size := by simpa using B1.size
  clear B1
  obtain ⟨fw, hfw⟩ : ∃ fw : ByteArray, fw = ⟨(cut s.data.toList (⟨#[32]⟩ : ByteArray).data.toList).1.toArray⟩ := ⟨_, rfl⟩
  rw [← hfw]
  have hfl : fw.data.toList = firstL s.data.toList := by rw [hfw]; rfl
  obtain ⟨k, hk⟩ : ∃ k, kindL (firstL s.data.toList) = k := ⟨_, rfl⟩
  have HK := hide hk
  have hkl : k ≤ 25 := by rw [← hk]; exact kindL_le _
  have HKO : Hid (∀ w' : World, Tabs w' → Calls Tryd.prog 25 #[.string fw] w' fun e w'' => e = .returned (.int .i64 k) ∧ w'' = w') := fun w' T' => by
    have := kindOf_any fw w' T'
    rw [hfl, hk] at this
    exact this
  clear hfl hfw hk
  obtain ⟨r1, hr1⟩ : ∃ r1 : List UInt8, r1 = (cut s.data.toList (⟨#[32]⟩ : ByteArray).data.toList).2.1 := ⟨_, rfl⟩
  obtain ⟨r2, hr2⟩ : ∃ r2 : Bool, r2 = (cut s.data.toList (⟨#[32]⟩ : ByteArray).data.toList).2.2 := ⟨_, rfl⟩
  rw [← hr1, ← hr2]
  clear hr1 hr2
  by_cases hk0 : k = 0
  · subst hk0
    obtain ⟨c0, c1, c2, c3, c4, c5, c6, c7, fz⟩ := zero8 HG1.out
    have f0 := fz 0; have f1 := fz 1; have f2 := fz 2; have f3 := fz 3; have f4 := fz 4; have f5 := fz 5; have f6 := fz 6; have f7 := fz 7
    clear fz
    go_wp2_with (go_at_call 25; refine (HKO.out _ HT1.out).mono ?_; rintro e w2 ⟨rfl, hw2⟩; have hw2 := hw2.symm; subst hw2)
    have hz := parse_unknown HK.out
    obtain ⟨g1, g2⟩ := set8 HG1.out (.int .i64 0) (.int .i64 0) (.int .i64 0) (.int .i64 0) (.int .i64 0) (.int .i64 0) (.string ⟨#[]⟩) (.slice none 0 0)
    refine bodyPost_ret (results_cmd rfl _ _ w.heap.size _ rfl rfl g1) rfl ⟨?_, grown_below HB1.out g2 (Nat.le_refl _) (Nat.le_refl _)⟩
    rw [← HCV.out, ← HEV.out, hz.1, hz.2]
    rfl
  · have hkb : ((k : Int) == 0) = false := by rw [beq_eq_false_iff_ne]; omega
    have HRD := hide (read_any k (by omega) s w1 HT1.out (by have := HS.out; omega))
    cases hrd : readL k s.data.toList with
    | none =>
      have hz := read_none hrd
      rw [hz.1, hz.2] at HRD
      have HP : Hid (parseC s.data.toList = zeroC ∧ parseE s.data.toList = 71) := parse_form (by rw [HK.out]; exact hk0) (by rw [HK.out]; exact hrd)
      clear hz hrd
      go_wp2_with (first
        | (go_at_call 25; refine (HKO.out _ HT1.out).mono ?_; rintro e w2 ⟨rfl, hw2⟩; have hw2 := hw2.symm; subst hw2)
        | (go_at_call 26
           refine HRD.out.mono ?_
           rintro e w3 ⟨rfl, B3⟩
           rw [show cmdV zeroC (.slice none 0 0) = .agg #[.int .i64 0, .int .i64 0, .int .i64 0, .int .i64 0, .int .i64 0, .int .i64 0, .string ⟨#[]⟩, .slice none 0 0] from rfl]
           have HG3 := hide ((B3.block w.heap.size (by omega)).trans HG1.out)
           have HB3 : Hid (Below w.heap.size w w3) := HB1.out.trans (B3.mono HB1.out.size)
           obtain ⟨c0, c1, c2, c3, c4, c5, c6, c7, fz⟩ := zero8 HG3.out
           have f0 := fz 0; have f1 := fz 1; have f2 := fz 2; have f3 := fz 3; have f4 := fz 4; have f5 := fz 5; have f6 := fz 6; have f7 := fz 7
           have hs3 := B3.size
           have hlt3 : w.heap.size < w3.heap.size := by omega
           clear fz B3 hs3))
      obtain ⟨g1, g2⟩ := set8 HG3.out (.int .i64 0) (.int .i64 0) (.int .i64 0) (.int .i64 0) (.int .i64 0) (.int .i64 0) (.string ⟨#[]⟩) (.slice none 0 0)
      have hB := grown_below HB3.out g2 (Nat.le_refl _) (Nat.le_refl _)
      refine bodyPost_ret (results_cmd rfl _ _ w.heap.size _ rfl rfl (alloc_heap g1)) rfl ⟨?_, hB.alloc hB.size _⟩
      rw [← HCV.out, ← HEV.out, HP.out.1, HP.out.2]
      rfl
    | some p =>
      obtain ⟨v, t⟩ := p
      have hz := read_some hrd
      have HP : Hid (parseC s.data.toList = readC k s.data.toList ∧ parseE s.data.toList = 0) := by
        have := parse_ok (l := s.data.toList) (by rw [HK.out]; exact hk0) (by rw [HK.out]; exact hrd)
        rw [HK.out] at this
        exact this
      rw [hz.2] at HRD
      obtain ⟨rc, hrc⟩ : ∃ rc, readC k s.data.toList = rc := ⟨_, rfl⟩
      rw [hrc] at HRD HP
      clear hz hrd hrc
      obtain ⟨q0, q1, q2, q3, q4, q5, q6⟩ := rc
      go_wp2_with (first
        | (go_at_call 25; refine (HKO.out _ HT1.out).mono ?_; rintro e w2 ⟨rfl, hw2⟩; have hw2 := hw2.symm; subst hw2)
        | (go_at_call 26
           refine HRD.out.mono ?_
           rintro e w3 ⟨rfl, B3⟩
           rw [show cmdV ⟨q0, q1, q2, q3, q4, q5, q6⟩ (.slice none 0 0) = .agg #[.int .i64 q0, .int .i64 q1, .int .i64 q2, .int .i64 q3, .int .i64 q4, .int .i64 q5, .string ⟨q6.toArray⟩, .slice none 0 0] from rfl]
           have HG3 := hide ((B3.block w.heap.size (by omega)).trans HG1.out)
           have HB3 : Hid (Below w.heap.size w w3) := HB1.out.trans (B3.mono HB1.out.size)
           obtain ⟨c0, c1, c2, c3, c4, c5, c6, c7, fz⟩ := zero8 HG3.out
           have f0 := fz 0; have f1 := fz 1; have f2 := fz 2; have f3 := fz 3; have f4 := fz 4; have f5 := fz 5; have f6 := fz 6; have f7 := fz 7
           have hs3 := B3.size
           have hlt3 : w.heap.size < w3.heap.size := by omega
           clear fz B3 hs3))
      obtain ⟨g1, g2⟩ := set8 HG3.out (.int .i64 q0) (.int .i64 q1) (.int .i64 q2) (.int .i64 q3) (.int .i64 q4) (.int .i64 q5) (.string ⟨q6.toArray⟩) (.slice none 0 0)
      have hB := grown_below HB3.out g2 (Nat.le_refl _) (Nat.le_refl _)
      refine bodyPost_ret (results_cmd rfl _ _ w.heap.size _ rfl rfl (alloc_heap g1)) rfl ⟨?_, hB.alloc hB.size _⟩
      rw [← HCV.out, ← HEV.out, HP.out.1, HP.out.2]
      rfl
end Go.Proofs.YtfecbepleeoibaaDoor
