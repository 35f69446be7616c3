/-
  The walk of the document's Print of a command.
-/
import Derived.Test.YtfecbepleeoibaaDoorRefWordV
import Derived.Test.YtfecbepleeoibaaDoorRefJoin
import Derived.Test.YtfecbepleeoibaaDoorPrintV
import Derived.Test.YtfecbepleeoibaaDoorPlainBack
import Derived.Deep.RegionLaw
import Derived.Deep.AppendLies
namespace Go.Proofs.YtfecbepleeoibaaDoor
open Go.RowKit Go.Lib

theorem BoxJ.grown {w : World} {c : Cm} {b : Value} {wp wn : World} {n : Nat} {v : Value} {xs : List Value} (h : Hid (BoxJ w c b wp)) (ho : wp.ownsRow w.heap.size 9 1 v n xs) (hg : wp.grownBy wn v.ownBlock) : Hid (BoxJ w c b wn) :=
  (⟨h.out.below.grown hg h.out.below.size (fun j hj => (ho.lt j hj).1), Nat.lt_of_lt_of_le h.out.lt hg.size, typed_kept ho hg h.out.blk (by decide)⟩ : BoxJ w c b wn)
theorem BoxJ.alloc {w : World} {c : Cm} {b : Value} {wp : World} (h : Hid (BoxJ w c b wp)) (o : Obj) : Hid (BoxJ w c b (wp.alloc o)) := BoxJ.step h ((Below.refl _ wp).alloc (Nat.le_refl _) o)
theorem BoxJ.drew {w : World} {c : Cm} {b : Value} {wp : World} (h : Hid (BoxJ w c b wp)) : Hid (BoxJ w c b wp.drew) := BoxJ.step h (Below.refl _ wp).drew

set_option maxHeartbeats 4000000 in
set_option maxRecDepth 1000000 in
theorem refPrintV_any (c : Cm) (a : Option Addr) (n cap : Nat) (w : World) :
    Calls Tryd.prog 18 #[cmdV c (.slice a n cap)] w fun e w' => e = .returned (.tuple #[.string ⟨(printS c n).toArray⟩, .int .i64 (printE c n)]) ∧ Below w.heap.size w w' := by
  obtain ⟨i9, hi, hz0, hz1, hz2⟩ := info_parts info_string
  obtain ⟨ps, hps⟩ : ∃ ps, printS c n = ps := ⟨_, rfl⟩
  obtain ⟨pe, hpe⟩ : ∃ pe, printE c n = pe := ⟨_, rfl⟩
  have HPS := hide hps
  have HPE := hide hpe
  rw [hps, hpe]
  clear hps hpe
  have HRT := hide fun w => right_any c a n cap w
  have HWD := hide fun f hf hn w => refWordV_any c a n cap f hf hn w
  rw [right_print] at HRT
  have J0 := BoxJ.start w c (.slice a n cap)
  cases hpb : printB c n
  · rw [hpb] at HRT
    have h1 : ps = [] := by rw [← HPS.out, printS, hpb]; rfl
    have h2 : pe = 72 := by rw [← HPE.out, printE, hpb]; rfl
    subst h1 h2
    clear hpb
    obtain ⟨q0, q1, q2, q3, q4, q5, q6⟩ := c
    unfold cmdV cmdA at *
    go_enter Tryd.func18, Tryd.ntmps18
    go_wp2_with (go_at_call 37; refine (HRT.out _).mono ?_; rintro e w1 ⟨rfl, B1⟩; have J1 := BoxJ.step J0 B1; clear B1)
    go_ret2
    exact ⟨rfl, J1.out.below⟩
  · rw [hpb] at HRT
    have hl : lineB c = true := by
      unfold printB at hpb
      rw [Bool.and_eq_true] at hpb
      exact hpb.1
    have HL := hide hl
    have h2 : pe = 0 := by rw [← HPE.out, printE, hpb]; rfl
    have HP : Hid (joinV (wordsOf c) = ps) := by show joinV (wordsOf c) = ps; rw [← HPS.out, printS, hpb]; rfl
    obtain ⟨k, hk⟩ : ∃ k : Nat, c.kind = k := ⟨c.kind.toNat, by have := line_kind' hl; omega⟩
    have hk26 : k < 26 := by have := line_kind' hl; omega
    have HK := hide hk
    have HNM : Hid (nameL c.kind = verbOf k) := by
      show nameL c.kind = verbOf k
      rw [nameL, if_pos (line_kind' hl), hk]; simp
    have HWB : Hid (∀ f, f ∈ formOf k → f ≠ 6 → 0 ≤ numOf c f ∧ numOf c f ≤ 4611686018427387903) := by
      intro f hf h6
      have hr := form_field k hk26 f hf
      have hn := line_num hl f (by omega)
      exact ⟨hn.1, Int.le_trans hn.2 (most_le _ _)⟩
    have HWL : Hid (∀ j, j ≤ (formOf k).length → (wordsTo c k j).length = j + 1) := fun j hj => wordsTo_len c k j hj
    have HWA : Hid (∀ j, (formOf k).length = j → (wordsTo c k j).map (·.data.toList) = wordsOf c) := fun j hj => wordsTo_all c k j hj (by rw [hk]; simp)
    have HWS : Hid (∀ j f, (formOf k)[j]? = some f → wordsTo c k (j + 1) = wordsTo c k j ++ [⟨(wordOf c f).toArray⟩]) := fun j f hf => wordsTo_step c k j f hf
    have HSZ : Hid (∀ j, (formOf k).length = j → (wordsTo c k j).length + ((wordsTo c k j).map ByteArray.size).sum ≤ 2147483647) := fun j hj => by
      have h1 := words_le (wordsTo c k j)
      have h2 := wordsTo_all c k j hj (by rw [hk]; simp)
      have h3 := words_len hl
      rw [h2] at h1
      omega
    have HZ : Hid (wordsTo c k 0 = [⟨(verbOf k).toArray⟩]) := by show wordsTo c k 0 = _; unfold wordsTo; simp
    subst h2
    clear hl hpb hk HPE HPS
    obtain ⟨wt, hwt⟩ : ∃ wt : Nat → List ByteArray, wt = wordsTo c k := ⟨_, rfl⟩
    rw [← hwt] at HWL HWA HWS HSZ HZ
    obtain ⟨wo, hwo⟩ : ∃ wo : Nat → List UInt8, wo = wordOf c := ⟨_, rfl⟩
    rw [← hwo] at HWD HWS
    clear hwt hwo
    obtain ⟨q0, q1, q2, q3, q4, q5, q6⟩ := c
    unfold cmdV cmdA at *
    go_enter Tryd.func18, Tryd.ntmps18
    go_wp2_with (first
      | (go_at_call 37
         refine (HRT.out _).mono ?_
         rintro e w1 ⟨rfl, B1⟩
         have J1 := BoxJ.step J0 B1
         obtain ⟨y0, y1, y2, y3, y4, y5, y6, y7⟩ := BoxJ.cells J1
         clear B1)
      | (go_at_call 11
         refine (refName_any q0 _).mono ?_
         rintro e w2 ⟨rfl, B2⟩
         rw [HNM.out]
         have J2 := BoxJ.step J1 B2
         obtain ⟨z0, z1, z2', z3, z4, z5, z6, z7⟩ := BoxJ.cells J2
         have hlt2 : w.heap.size < w2.heap.size := J2.out.lt
         clear B2))
    obtain ⟨w3, hw3⟩ : ∃ w3, w3 = w2.alloc (.cells #[.string ⟨(verbOf k).toArray⟩] 9) := ⟨_, rfl⟩
    rw [← hw3]
    have hg3 : w3.heap[w2.heap.size]? = some (.cells #[.string ⟨(verbOf k).toArray⟩] 9 (0, 0)) := by rw [hw3]; exact heap_alloc_new _ _
    have B3 : Below w2.heap.size w2 w3 := by rw [hw3]; exact (Below.refl _ w2).alloc (Nat.le_refl _) _
    have J3 := BoxJ.step J2 B3
    have hgl3 := (Array.getElem?_eq_some_iff.1 hg3).1
    clear hw3 B3 y0 y1 y2 y3 y4 y5 y6 y7 z0 z1 z2' z3 z4 z5 z6 z7
    refine (refForm_int q0 k HK.out hk26 _).mono ?_
    rintro e w4 ⟨rfl, B4⟩
    have J4 := BoxJ.step J3 B4
    have HO4 : Hid (w4.ownsRow w.heap.size 9 1 (.slice (some ⟨w2.heap.size, 0, none⟩) 1 1) 1 ((wt 0).map Value.string)) := by
      show w4.ownsRow _ _ _ _ _ _
      rw [HZ.out]
      exact own_one _ ((B4.block _ hgl3).trans hg3) (by omega)
    clear B4 hg3 hgl3
    obtain ⟨s, hs⟩ : ∃ s : ByteArray, s = ⟨(formL k).toArray⟩ := ⟨_, rfl⟩
    rw [← hs]
    have hsz : s.size = (formOf k).length := by rw [hs]; show (formL k).length = _; unfold formL; rw [List.length_map]
    have hs4 : s.size ≤ 4 := by rw [hsz]; exact form_len k hk26
    have HSL : Hid (∀ j f, (formOf k)[j]? = some f → ∀ (h : j < s.size), s[j] = letterOf f) := by
      intro j f hf h
      subst hs
      show (formL k)[j]'h = letterOf f
      have : (formL k)[j]? = some (letterOf f) := by unfold formL; rw [List.getElem?_map, hf]; rfl
      exact (List.getElem?_eq_some_iff.1 this).2
    have HSZS := hide hsz
    clear hs hsz
    go_wp2_with fail
    go_loopg [4, 6] s.size (fun gk s4 i wx => ∃ j : Nat, i = .int .i64 j ∧ j ≤ s.size ∧ s.size - j ≤ gk ∧ Hid (wx.ownsRow w.heap.size 9 1 s4 (j + 1) ((wt j).map Value.string)) ∧ Hid (BoxJ w ⟨q0, q1, q2, q3, q4, q5, q6⟩ (.slice a n cap) wx))
    case atStart => exact ⟨0, rfl, by omega, by omega, HO4, J4⟩
    case round =>
      obtain ⟨j, rfl, hj, hgk, HO, HJ⟩ := hrel
      by_cases hlt : j < s.size
      · obtain ⟨f, hf⟩ : ∃ f, (formOf k)[j]? = some f := ⟨_, List.getElem?_eq_getElem (by rw [← HSZS.out]; exact hlt)⟩
        have hsj := HSL.out j f hf hlt
        have HSJ : Hid (s[j] = letterOf f) := hsj
        have hfr := form_field k hk26 f (List.mem_of_getElem? hf)
        have HST := hide (HWS.out j f hf)
        have HWD1 := hide (fun w => HWD.out f hfr (HWB.out f (List.mem_of_getElem? hf)) w)
        obtain ⟨y0, y1, y2, y3, y4, y5, y6, y7⟩ := BoxJ.cells HJ
        have hszx := HJ.out.lt
        clear hf
        obtain ⟨lv, hlv⟩ : ∃ lv : Int, ((letterOf f).toNat : Int) = lv := ⟨_, rfl⟩
        rw [hlv] at HWD1
        have hsn : (s[j].toNat : Int) = lv := by rw [hsj]; exact hlv
        clear hsj hlv
        have i1 : (0 : Int) ≤ (j : Int) := by omega
        have i2 : (j : Int) < (s.size : Int) := by omega
        go_wp2_with fail
        go_region_law (first
          | (go_simp
             go_at_call 38
             refine (HWD1.out _).mono ?_
             rintro e w5 ⟨rfl, B5⟩
             have J5 := BoxJ.step (by first | exact HJ | exact BoxJ.drew HJ) B5
             have HO5 : Hid (w5.ownsRow w.heap.size 9 1 _ (j + 1) ((wt j).map Value.string)) := own_below (by first | exact HO.out | exact HO.out.drew) B5
             have hs5 : w.heap.size ≤ w5.heap.size := Nat.le_of_lt J5.out.lt
             clear B5)
          | (refine step_append_lies _ rfl (.tmp 25) (.tmp 31) 39 rfl w.heap.size 9 i9 (.string ⟨#[]⟩) 1 16 Tryd.underlying39 hi hz0 hz1 hz2 rfl (by decide) u4 (j + 1) ((wt j).map Value.string) (by simp [Act.eval]) (HO5.out.alloc _) ⟨w5.heap.size, 0, none⟩ 1 1 [.string ⟨(wo f).toArray⟩] (by simp [Act.eval]) rfl (cell_one_new _ _ _) (by intro u hu; simp at hu; subst hu; rfl) (by decide) (by unfold maxLen; omega) (by omega) (by simp; omega) _ rfl ?_
             intro g cp w6 hown6 hgrow6 hat6 hlt6
             have HO6 := hide hown6
             have J6 := BoxJ.grown (BoxJ.alloc J5 _) (HO5.out.alloc _) hgrow6
             clear hown6 hgrow6 hat6))
        all_goals (
          go_wp2_with fail
          go_roundg (s.size - (j + 1))
          case measure => omega
          case rel =>
            refine ⟨j + 1, by go_num, by omega, Nat.le_refl _, ?_, J6⟩
            show World.ownsRow _ _ _ _ _ _ _
            rw [HST.out, List.map_append]
            exact HO6.out)
      · obtain rfl : j = s.size := by omega
        obtain ⟨g, cp, rfl, hcp, hgl, hcs⟩ := own_strs HO.out
        have hwl := HWL.out s.size (by rw [HSZS.out]; exact Nat.le_refl _)
        have hjn := refJoin_any (some ⟨g, 0, none⟩) cp (wt s.size) wr ⟨by omega, by unfold maxLen; omega, .inr ⟨g, 0, rfl, hgl, hcs⟩⟩ (HSZ.out s.size HSZS.out.symm)
        rw [hwl, HWA.out s.size HSZS.out.symm, HP.out] at hjn
        obtain ⟨jb, hjb⟩ : ∃ jb, joinB (wordsOf ⟨q0, q1, q2, q3, q4, q5, q6⟩) = jb := ⟨_, rfl⟩
        rw [hjb] at hjn
        have HJN := hide hjn
        clear hjn hjb hcs
        go_wp2_with (go_at_call 39; refine HJN.out.mono ?_; rintro e w9 ⟨rfl, B9⟩; have J9 := BoxJ.step HJ B9; clear B9)
        go_ret2
        exact ⟨rfl, J9.out.below⟩
end Go.Proofs.YtfecbepleeoibaaDoor
