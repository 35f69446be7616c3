/-
  The walk of the statement that what is turned is told, for every input.
-/
import Derived.Test.YtjbmolclagmecaaWalkTold
namespace Go.Proofs.Ytjbmolclagmecaa.frameTold
open Go.RowKit Go.Lib

theorem frame_sum (F P : Nat) (l : List UInt8) : Crc.frame F P l = Crc.le 4 l.length ++ (Crc.le 4 (Crc.fsum F P l) ++ l) := rfl

set_option maxHeartbeats 4000000 in
set_option maxRecDepth 1000000 in
theorem walk (f p : Int) (a : Option Addr) (c : Nat) (l : List UInt8) (insum : Bool) (frm b : Int) (w : World) (_hf : -9223372036854775808 ≤ f ∧ f ≤ 9223372036854775807) (_hp : -9223372036854775808 ≤ p ∧ p ≤ 9223372036854775807)
    (h1 : IsBytes w a c l) (hfrm : -9223372036854775808 ≤ frm ∧ frm ≤ 9223372036854775807) (hb : 0 ≤ b ∧ b ≤ 4294967295) :
    Calls Try.prog 8 #[.agg #[.int .i64 f, .int .i64 p, .slice a l.length c, .bool insum, .int .i64 frm, .int .u32 b]] w fun e w' => e = .returned (.bool true) ∧ Below w.heap.size w w' := by
  by_cases hE : makeE f p l = 0
  · obtain ⟨hwf, hwp, hwl⟩ := makeE_ok hE
    have hfb := wordB_yes hwf
    have hpb := wordB_yes hwp
    by_cases hneg : frm < 0
    · have H1 : Hid (IsBytes w a c l) := h1
      have HM : Hid (mayB f p l = true) := decide_eq_true hE
      have HE : Hid (makeE f p l = 0) := hE
      have hl8 : (makeL f p l).length = l.length + 8 := by rw [makeL_ok hE, Crc.frame_length]
      have HL : Hid ((makeL f p l).length = l.length + 8) := hl8
      have hlb := lenB_yes hwl
      clear h1 hE hl8 hwf hwp hwl
      go_enter Try.func8, Try.ntmps8
      go_wp2_with fail
      refine (shown_any _).mono ?_
      rintro e w1 ⟨rfl, B1⟩
      have BX1 : Hid (Box w #[.int .i64 f, .int .i64 p, .slice a l.length c, .bool insum, .int .i64 frm, .int .u32 b] w1) := (Box.start w _).next B1
      clear B1
      have k0 := BX1.out.cell 0 _ rfl
      have k1 := BX1.out.cell 1 _ rfl
      have k2 := BX1.out.cell 2 _ rfl
      go_wp2_with fail
      refine (make_any f p a c l _ (H1.out.below BX1.out.2)).mono ?_
      rintro e w2 ⟨v2, rfl, own2, B2⟩
      rw [HE.out]
      have BX2 : Hid (Box w #[.int .i64 f, .int .i64 p, .slice a l.length c, .bool insum, .int .i64 frm, .int .u32 b] w2) := BX1.out.next B2
      obtain ⟨a2, c2, rfl, _⟩ := own2.shape
      rw [HL.out]
      clear k0 k1 k2 own2 B2
      have k0 := BX2.out.cell 0 _ rfl
      have k1 := BX2.out.cell 1 _ rfl
      have k2 := BX2.out.cell 2 _ rfl
      have k4 := BX2.out.cell 4 _ rfl
      go_wp2_with fail
      refine (may_any _ _ _ _ _ _).mono ?_
      rintro e w3 ⟨rfl, hW⟩
      have hW := hW.symm
      subst hW
      rw [HM.out]
      go_wp2
      go_ret
      exact ⟨rfl, BX2.out.2⟩
    · obtain ⟨F, rfl⟩ := Int.eq_ofNat_of_zero_le hfb.1
      obtain ⟨P, rfl⟩ := Int.eq_ofNat_of_zero_le hpb.1
      obtain ⟨n, rfl⟩ := Int.eq_ofNat_of_zero_le (show 0 ≤ frm by omega)
      obtain ⟨B, rfl⟩ := Int.eq_ofNat_of_zero_le hb.1
      cases insum with
      | true =>
        refine walk_ok F P a c l true n B w h1 hE (by omega) (by omega) 32 (Crc.le 4 l.length) (Crc.le 4 (Crc.fsum F P l)) l (by rw [Crc.le_length]) (frame_sum F P l) ?_ (.inl ⟨rfl, Crc.le_length _ _, rfl⟩)
        intro R D hR hN hD _
        rw [Crc.le_length] at hR
        rw [Crc.N_le, Nat.mod_eq_of_lt (Crc.fsum_lt F P l)] at hN
        refine ⟨told_sum l R n D hwf hwp hwl hR hN, fun h0 => ?_⟩
        subst h0
        rw [le_of_N hR (by simpa using hN)]
      | false =>
        refine walk_ok F P a c l false n B w h1 hE (by omega) (by omega) (l.length * 8) (Crc.le 4 l.length ++ Crc.le 4 (Crc.fsum F P l)) l [] (by omega) (by rw [frame_sum]; simp) ?_ (.inr ⟨rfl, by simp [Crc.le_length], rfl⟩)
        intro R D hR hN hD hr
        have := told_pay (F := F) (P := P) l R n D hwf hwp hwl hR hN hD hr
        rw [List.append_nil, List.append_assoc]
        exact this
  · have H1 : Hid (IsBytes w a c l) := h1
    have HM : Hid (mayB f p l = false) := decide_eq_false hE
    obtain ⟨E, hEE⟩ : ∃ E, E = makeE f p l := ⟨_, rfl⟩
    have HE : Hid (E = makeE f p l) := hEE
    have hn0 : ¬ E = 0 := by rw [hEE]; exact hE
    have hnb : (E != 0) = true := by simpa using hn0
    clear hE hEE h1
    go_enter Try.func8, Try.ntmps8
    go_wp2_with fail
    refine (shown_any _).mono ?_
    rintro e w1 ⟨rfl, B1⟩
    have BX1 : Hid (Box w #[.int .i64 f, .int .i64 p, .slice a l.length c, .bool insum, .int .i64 frm, .int .u32 b] w1) := (Box.start w _).next B1
    clear B1
    have k0 := BX1.out.cell 0 _ rfl
    have k1 := BX1.out.cell 1 _ rfl
    have k2 := BX1.out.cell 2 _ rfl
    go_wp2_with fail
    refine (make_any f p a c l _ (H1.out.below BX1.out.2)).mono ?_
    rintro e w2 ⟨v2, rfl, own2, B2⟩
    rw [← HE.out]
    have BX2 : Hid (Box w #[.int .i64 f, .int .i64 p, .slice a l.length c, .bool insum, .int .i64 frm, .int .u32 b] w2) := BX1.out.next B2
    obtain ⟨a2, c2, rfl, _⟩ := own2.shape
    clear k0 k1 k2 own2 B2
    have k0 := BX2.out.cell 0 _ rfl
    have k1 := BX2.out.cell 1 _ rfl
    have k2 := BX2.out.cell 2 _ rfl
    have k4 := BX2.out.cell 4 _ rfl
    go_wp2_with fail
    refine (may_any _ _ _ _ _ _).mono ?_
    rintro e w3 ⟨rfl, hW⟩
    have hW := hW.symm
    subst hW
    rw [HM.out]
    go_wp2
    go_ret
    exact ⟨rfl, BX2.out.2⟩
end Go.Proofs.Ytjbmolclagmecaa.frameTold
