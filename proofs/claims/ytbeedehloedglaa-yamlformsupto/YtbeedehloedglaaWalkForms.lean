/-
  The walk of YamlForms.
-/
import Derived.Test.YtbeedehloedglaaShown
import Derived.Test.YtbeedehloedglaaSame
import Derived.Test.YtbeedehloedglaaWalkNames
namespace Go.Proofs.Ytbeedehloedglaa
theorem lines_long (ts : List Txt) : ts.length ≤ (listL ts).length := by
  unfold listL
  induction ts with
  | nil => simp
  | cons t ts ih =>
    simp only [List.length_append, linesL, List.flatMap_cons, List.length_cons, line_len] at ih ⊢
    omega
end Go.Proofs.Ytbeedehloedglaa
namespace Go.Proofs.Ytbeedehloedglaa.yamlForms
open Go.RowKit
set_option maxHeartbeats 4000000 in
set_option maxRecDepth 1000000 in
theorem walk (a : Option Addr) (c : Nat) (b : List UInt8) (w : World) (h : IsBytes w a c b ∧ (a = none → c = 0)) (hl : b.length ≤ 1048576) (hm : MaxAt w) :
    Calls Try.prog 6 #[.slice a b.length c] w fun e w' => e = .returned (.bool true) ∧ Below w.heap.size w w' := by
  have HM : Hid (MaxAt w) := hm
  have HI : Hid (IsBytes w a c b) := h.1
  clear hm h
  go_enter Try.func6, Try.ntmps6
  go_upto_region 5 with (first
    | (go_at_call 9; refine (shown_any _ HM.out).mono ?_; rintro e w1 ⟨rfl, b1⟩; have HB1 : Hid (Below w.heap.size w w1) := b1; clear b1)
    | (go_at_call 15; refine (readList_any a c b w1 (HI.out.below HB1.out) (by omega)).mono ?_; rintro e w2 ⟨v2, er, ts, rfl, r2, s2, b2⟩; have HR2 : Hid (readT b er ts) := r2; have HS2 : Hid (Strs w2 w1.heap.size v2 ts) := s2; have HB2 : Hid (Below w.heap.size w w2) := HB1.out.trans (b2.mono HB1.out.size); clear r2 s2 b2)
    | (go_at_call 21; refine (readDict_any a c b w2 (HI.out.below HB2.out) (by omega) (HM.out.below HB2.out)).mono ?_; rintro e w3 ⟨v3, es, ps, rfl, r3, s3, b3⟩; have HR3 : Hid (readD b es ps) := r3; have HS3 : Hid (Prs w3 w2.heap.size v3 ps) := s3; have HS23 : Hid (Strs w3 w1.heap.size v2 ts) := HS2.out.below b3; have HB3 : Hid (Below w.heap.size w w3) := HB2.out.trans (b3.mono HB2.out.size); clear r3 s3 b3))
  have HI3 : Hid (IsBytes w3 a c b) := HI.out.below HB3.out
  rcases HR2.out with ⟨rfl, ht2, hb2⟩ | ⟨rfl, rfl, hn2⟩
  · have htl : ts.length ≤ 1048576 := by have := lines_long (ts.map tx); rw [← hb2] at this; simp at this; omega
    obtain ⟨a2, c2, rfl, i2⟩ := HS23.out.is1 (by omega)
    have hall : allT ts = true := List.all_eq_true.2 ht2
    have HBL : Hid (b = listL (ts.map tx)) := hb2
    have HT2 : Hid (∀ t ∈ ts, textB (tx t) = true) := ht2
    have HI2 : Hid (IsStrs w3 a2 c2 ts) := i2
    have HALL : Hid (allT ts = true) := hall
    clear hb2 ht2 i2 hall
    go_upto_region 9 with (first
      | (go_at_call 27; refine (list_any a2 c2 ts w3 HI2.out (by rw [← HBL.out]; omega)).mono ?_; rintro e w4 ⟨v4, rfl, o4, b4⟩; rw [HALL.out, if_pos rfl] at o4; rw [HALL.out, if_pos rfl]; rw [← HBL.out] at o4; obtain ⟨a4, c4, rfl, i4⟩ := o4.shape; have HI4 : Hid (IsBytes w4 a4 c4 b) := i4; have HB34 : Hid (Below w3.heap.size w3 w4) := b4; clear o4 i4 b4)
      | (go_at_call 28; refine (same_any a4 a c4 c b b w4 HI4.out (HI3.out.below HB34.out)).mono ?_; rintro e w5 ⟨rfl, n5, hw5⟩; have HB35 : Hid (Below w3.heap.size w3 w5) := (by rw [hw5]; exact below_drewN HB34.out n5); clear hw5; rw [decide_eq_true rfl]))
    have HI5b : Hid (IsBytes w5 a c b) := HI3.out.below HB35.out
    rcases HR3.out with ⟨rfl, hp1, hp2, hp3⟩ | ⟨rfl, rfl, hn3⟩
    · obtain ⟨e1, e2⟩ := not_both (ts := ts.map tx) (ps := ps.map un) (fun t ht => by obtain ⟨s, hs, rfl⟩ := List.mem_map.1 ht; exact HT2.out s hs) hp2 (HBL.out.symm.trans hp3)
      have HTN : Hid (ts = []) := List.map_eq_nil_iff.1 e1
      have HPN : Hid (ps = []) := List.map_eq_nil_iff.1 e2
      have HBH : Hid (b = headL) := by show b = _; rw [hp3, e2]; rfl
      obtain ⟨a5, c5, rfl, i5⟩ := HS3.out.is (by omega)
      have HI5 : Hid (IsPairs w5 a5 c5 ps) := i5.below HB35.out
      have HDL : Hid (b = dictL (ps.map un)) := hp3
      have HOK : Hid (dictE (ps.map un) = 0) := by show dictE _ = 0; unfold dictE; rw [if_neg (by simp; omega)]; exact (goE_ok _ _).2 hp2
      have HB3W : Hid (Below w3.heap.size w3 w5) := HB35.out
      have hbb : ((⟨b.toArray⟩ : ByteArray).toList == [45, 45, 45, 10]) = true := by rw [HBH.out, ByteArray.toList_eq]; decide
      have ht0 : ((ts.length : Int) == 0) = true := by rw [HTN.out]; rfl
      have hp0 : ((ps.length : Int) == 0) = true := by rw [HPN.out]; rfl
      clear hp1 hp2 hp3 e1 e2 i5
      go_wp2_with (first
        | (go_at_call 29; refine (dict_any a5 c5 ps w5 HI5.out (by rw [← HDL.out]; omega)).mono ?_; rintro e w6 ⟨v6, rfl, o6, b6⟩; rw [if_pos HOK.out] at o6; rw [HOK.out]; rw [← HDL.out] at o6; obtain ⟨a6, c6, rfl, i6⟩ := o6.shape; have HI6 : Hid (IsBytes w6 a6 c6 b) := i6; have HB56 : Hid (Below w5.heap.size w5 w6) := b6; clear o6 i6 b6)
        | (go_at_call 28; refine (same_any a6 a c6 c b b w6 HI6.out (HI3.out.below (HB3W.out.trans (HB56.out.mono HB3W.out.size)))).mono ?_; rintro e w7 ⟨rfl, n7, hw7⟩; have HB57 : Hid (Below w5.heap.size w5 w7) := (by rw [hw7]; exact below_drewN HB56.out n7); have kb := conv_is (HI3.out.below (HB3W.out.trans (HB57.out.mono HB3W.out.size))) rfl; clear hw7; rw [decide_eq_true rfl]))
      go_ret
      exact ⟨rfl, HB3.out.trans ((HB3W.out.trans (HB57.out.mono HB3W.out.size)).mono HB3.out.size)⟩
    · go_wp2_with fail
      go_ret
      exact ⟨rfl, HB3.out.trans (HB35.out.mono HB3.out.size)⟩
  · rcases HR3.out with ⟨rfl, hp1, hp2, hp3⟩ | ⟨rfl, rfl, hn3⟩
    · obtain ⟨a5, c5, rfl, i5⟩ := HS3.out.is (by omega)
      have HI5 : Hid (IsPairs w3 a5 c5 ps) := i5
      have HDL : Hid (b = dictL (ps.map un)) := hp3
      have HOK : Hid (dictE (ps.map un) = 0) := by show dictE _ = 0; unfold dictE; rw [if_neg (by simp; omega)]; exact (goE_ok _ _).2 hp2
      have HB3W : Hid (Below w3.heap.size w3 w3) := Below.refl _ _
      clear hp1 hp2 hp3 i5 hn2
      go_wp2_with (first
        | (go_at_call 29; refine (dict_any a5 c5 ps w3 HI5.out (by rw [← HDL.out]; omega)).mono ?_; rintro e w6 ⟨v6, rfl, o6, b6⟩; rw [if_pos HOK.out] at o6; rw [HOK.out]; rw [← HDL.out] at o6; obtain ⟨a6, c6, rfl, i6⟩ := o6.shape; have HI6 : Hid (IsBytes w6 a6 c6 b) := i6; have HB56 : Hid (Below w3.heap.size w3 w6) := b6; clear o6 i6 b6)
        | (go_at_call 28; refine (same_any a6 a c6 c b b w6 HI6.out (HI3.out.below (HB3W.out.trans (HB56.out.mono HB3W.out.size)))).mono ?_; rintro e w7 ⟨rfl, n7, hw7⟩; have HB57 : Hid (Below w3.heap.size w3 w7) := (by rw [hw7]; exact below_drewN HB56.out n7); clear hw7; rw [decide_eq_true rfl]))
      go_ret
      exact ⟨rfl, HB3.out.trans ((HB3W.out.trans (HB57.out.mono HB3W.out.size)).mono HB3.out.size)⟩
    · clear hn2 hn3
      go_wp2_with fail
      go_ret
      exact ⟨rfl, HB3.out⟩
end Go.Proofs.Ytbeedehloedglaa.yamlForms
