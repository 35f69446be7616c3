/-
  The walk of FrameAll.
-/
import Derived.Test.YtibcfbajjnpbfaaGives
import Derived.Test.YtibcfbajjnpbfaaShown
namespace Go.Proofs.Ytibcfbajjnpbfaa.frameAll
open Go.RowKit Go.Lib

set_option maxHeartbeats 4000000 in
set_option maxRecDepth 1000000 in
theorem walk (f : Int) (a : Option Addr) (c : Nat) (l : List UInt8) (stop : Int) (w : World) (h1 : IsBytes w a c l ∧ (a = none → c = 0)) (hs : -9223372036854775808 ≤ stop ∧ stop ≤ 9223372036854775807) (hk : l.length ≤ 1048576) :
    Calls Try.prog 6 #[.int .i64 f, .slice a l.length c, .int .i64 stop] w fun e w' => e = .returned (.bool true) ∧ Below w.heap.size w w' := by
  have HL := hide h1.1
  clear h1
  obtain ⟨most, hmo⟩ : ∃ most : Int, most = if stop < 1 then 1 else stop := ⟨_, rfl⟩
  have hm : 1 ≤ most ∧ most ≤ 9223372036854775807 := by rw [hmo]; split <;> omega
  go_enter Try.func6, Try.ntmps6
  go_wp2_with fail
  refine (shown_any _).mono ?_
  rintro e w1 ⟨rfl, b1⟩
  have B1 := hide b1
  clear b1
  have CA := hide (refAll_any f a c l w1 (HL.out.below B1.out) hk)
  go_upto_region 4 with (go_at_call 23; refine CA.out.mono ?_; rintro e w2 ⟨vw, ys, rfl, o2, hy, b2⟩; have O2 := hide o2; have HY := hide hy; have B2 := hide b2; clear o2 hy b2)
  have B02 := hide (B1.out.trans (B2.out.mono B1.out.size))
  obtain ⟨W3, hW3⟩ : ∃ W3, W3 = w2.alloc (.cells #[.slice none 0 0, .slice none 0 0] 29) := ⟨_, rfl⟩
  obtain ⟨Hb, hHb⟩ : ∃ Hb, Hb = w2.heap.size := ⟨_, rfl⟩
  have B23 : Below w2.heap.size w2 W3 := by rw [hW3]; exact (Below.refl _ w2).alloc (Nat.le_refl _) _
  have hz2 := B02.out.size
  have hz12 : w.heap.size ≤ w1.heap.size := B1.out.size
  have HS3 : Hid (HS w W3 (fun k => if k = Hb then .box else .user 0) Hb []) := by
    refine ⟨B02.out.trans (B23.mono hz2), ?_, fun j e he => by simp at he, fun k hk2 => if_neg (by omega)⟩
    rw [hW3, hHb]
    exact Held.start w2 _ _ hz2 (by simp)
  have hyl : ys.length ≤ 1048576 := by
    have h1 := frames_len0 f l
    have h2 := congrArg List.length HY.out
    rw [List.length_map] at h2
    omega
  have HU : Hid ((∀ k, vw.ownBlock = some k → (fun k => if k = Hb then Tag.box else .user 0) k = .user 0) ∧ ∀ y ∈ ys, ∀ k, y.2.1.ownBlock = some k → (fun k => if k = Hb then Tag.box else .user 0) k = .user 0) := by
    refine ⟨fun k hk2 => if_neg ?_, fun y hy k hk2 => if_neg ?_⟩
    · have := (World.ownsRow.lt O2.out.1 k hk2).2
      omega
    · have := ((O2.out.2 y hy).lt k hk2).2
      omega
  have ONE3 : Hid (OnesAt W3 w.heap.size vw ys) := by
    have h1 := O2.out.below B23
    refine ⟨⟨h1.1.1, ?_⟩, fun y hy => (h1.2 y hy).mono hz12⟩
    rcases h1.1.2 with h0 | ⟨g, cap, cur, hv, hg, rest⟩
    · exact .inl h0
    · exact .inr ⟨g, cap, cur, hv, Nat.le_trans hz12 hg, rest⟩
  have HW3 := hide hW3
  have HHB := hide hHb
  have CL := hide (lent_any a c l W3 (HL.out.below HS3.out.bel) (by omega))
  obtain ⟨av, cv, hvw, _, _⟩ := rowG_shape O2.out.1
  subst hvw
  clear hW3 hHb B23 O2 CA
  have HMO := hide hmo
  go_upto_if 19 with fail
  go_cut [8] from 19 to 19 (fun y wx => y = .int .i64 most ∧ wx = w2)
  case first =>
    by_cases hs1 : stop < 1
    · rw [if_pos hs1] at hmo
      go_wp2_with fail
      go_meet
      exact ⟨by rw [hmo], rfl⟩
    · rw [if_neg hs1] at hmo
      go_wp2_with fail
      go_meet
      exact ⟨by rw [hmo], rfl⟩
  case rest =>
    obtain ⟨rfl, hwc⟩ := hcut
    rw [hwc]
    clear hwc wc hmo HMO
    go_upto_region 8 with fail
    rw [← HW3.out, ← HHB.out]
    go_upto_region 9 with (go_at_call 10; refine CL.out.mono ?_; rintro e w4 ⟨g, cap, rfl, own4, b4⟩; have OWN4 := hide own4; have B4 := hide b4; clear own4 b4)
    have HS4 := hide (HS3.out.below B4.out)
    have ONE4 := hide (ONE3.out.below B4.out)
    have hcap : l.length + 8 ≤ cap := by have := OWN4.out.is.1.1; simp [marks] at this; omega
    have hcapm : cap ≤ 9223372036854775807 := by have := OWN4.out.is.1.2.1; unfold maxLen at this; omega
    have j1 : (l.length : Int) ≤ (cap : Int) := by omega
    have j2 : (l.length : Int) ≤ (l.length : Int) + 8 := by omega
    have CW := hide (whole_any f (some ⟨g, 0, none⟩) cap l w4 OWN4.out.is.1.head (by omega) (by rintro ⟨⟩))
    obtain ⟨en, hen⟩ : ∃ en, en = endOf (frames f l 0) := ⟨_, rfl⟩
    rw [← hen] at CW
    have HEN := hide hen
    clear HS3 ONE3 B4 CL HW3 HHB hen
    go_upto_region 10 with (go_at_call 24; refine CW.out.mono ?_; rintro e w5 ⟨rfl, b5⟩; have B5 := hide b5; clear b5)
    have HS5 := hide (HS4.out.below B5.out)
    have ONE5 := hide (ONE4.out.below B5.out)
    have OWN5 := hide (OWN4.out.below B5.out)
    have CR := hide (refWhole_any f a c l w5 (HL.out.below HS5.out.bel) hk)
    rw [← HEN.out] at CR
    have hee : ((en : Int) != (en : Int)) = false := by simp
    clear HS4 ONE4 OWN4 CW B5
    go_wp2_with (first
      | (go_at_call 25; refine CR.out.mono ?_; rintro e w6 ⟨rfl, b6⟩; have HS6 := hide (HS5.out.below b6); have ONE6 := hide (ONE5.out.below b6); have OWN6 := hide (OWN5.out.below b6); clear b6)
      | (go_at_call 13; refine (still_any (some ⟨g, 0, none⟩) cap a c l w6 OWN6.out.is.1 (HL.out.below HS6.out.bel)).mono ?_; rintro e w7 ⟨rfl, n7, hw7⟩; have B7 : Hid (Below w6.heap.size w6 w7) := (by rw [hw7]; exact below_drewN (Below.refl _ w6) n7); clear hw7; have HS7 := hide (HS6.out.below B7.out); have ONE7 := hide (ONE6.out.below B7.out))
      | (go_at_call 26; refine (gives_any w w7 _ Hb [] f a c l (.slice av ys.length cv) ys most HS7.out HL.out hk ONE7.out HY.out HU.out hm (by simp)).mono ?_; rintro e w8 ⟨rfl, lab8, es8, hs8, he8⟩; have HS8 := hide (And.intro hs8 he8); clear hs8 he8)
      | (go_at_call 18; refine (holds_any w8 _ _ _ 0 es8 HS8.out.1.held).mono ?_; rintro e w9 ⟨rfl, n9, hw9⟩; have HS9 : Hid (HS w w9 lab8 Hb es8) := (by rw [hw9]; exact HS8.out.1.below (below_drewN (Below.refl _ w8) n9)); clear hw9)
      | (go_at_call 20; refine (spoil_any w9 w.heap.size lab8 Hb es8 HS9.out.held HS9.out.bel.size (by have := HS8.out.2; simp only [List.length_nil] at this; omega) HS9.out.small).mono ?_; rintro e wz ⟨rfl, kz⟩; have BZ : Hid (Below w.heap.size w wz) := HS9.out.bel.trans (kz.below HS9.out.bel.size (fun k hk2 hn => hn 0 (HS9.out.low k hk2))); clear kz))
    go_ret
    exact ⟨rfl, BZ.out⟩
end Go.Proofs.Ytibcfbajjnpbfaa.frameAll
