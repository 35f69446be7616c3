/-
  The walk of DiskKeeps.
-/
import Derived.Test.YtkmolklcbemfbaaPlainKeeps
namespace Go.Proofs.Ytkmolklcbemfbaa.diskKeeps
open Go.RowKit Go.Maps

theorem ints_later {w w' : World} {a : Option Addr} {c : Nat} {l : List Int} (h : IsInts w a c l) (hb : Below w.heap.size w w') : IsInts w' a c l := h.block hb.size (fun b _ _ hlt _ => hb.block b hlt)
theorem ints_low {w : World} {a : Option Addr} {c : Nat} {l : List Int} (h : IsInts w a c l) (hl : l ≠ []) {b o : Nat} (e : a = some ⟨b, o, none⟩) : b < w.heap.size := by
  rcases h.2.2.2 with h | ⟨b', o', e', hb, _⟩
  · exact absurd h hl
  · rw [e] at e'
    simp only [Option.some.injEq, Addr.mk.injEq] at e'
    omega
/-- A crash of a disk that was made here. -/
theorem crashM {w0 w : World} {db mb : Nat} {q : Int} {L : List Fl} {vs : Int → Value} (h : Made w0 w db mb q L vs) (ka : Option Addr) (kc : Nat) (keep : List Int) (hk : IsInts w0 ka kc keep) :
    Calls Try.prog 23 #[.pointer (some ⟨db, 0, none⟩), .slice ka keep.length kc] w fun e w' => e = .returned (.tuple #[]) ∧ ∃ vs', Made w0 w' db mb q (crash keep L) vs' ∧ Turned w w' db mb L vs (crash keep L) vs' := by
  refine (crash_any w db mb q L vs h.disk ka kc keep (ints_later hk h.below) (fun b o e hne hm => ?_)).mono ?_
  · have h1 := ints_low hk hne e
    have h2 := h.mine b hm
    omega
  · rintro e w' ⟨he, vs', h1, h2⟩
    exact ⟨he, vs', h.turned h1 h2, h2⟩

set_option maxHeartbeats 4000000 in
set_option maxRecDepth 1000000 in
theorem walk (q : Int) (a : Option Addr) (c : Nat) (l : List ActI) (ka : Option Addr) (kc : Nat) (keep : List Int) (ga : Option Addr) (gc : Nat) (again : List Int) (w : World) (_ : -9223372036854775808 ≤ q ∧ q ≤ 9223372036854775807) (h : IsActs w a c l) (hk : IsInts w ka kc keep) (hg : IsInts w ga gc again) (hlen : ∀ x ∈ l, x.data.length ≤ 140737488355328) :
    Calls Try.prog 5 #[.int .i64 q, .slice a l.length c, .slice ka keep.length kc, .slice ga again.length gc] w fun e w' => e = .returned (.bool true) ∧ Below w.heap.size w w' := by
  have HH : Hid (IsActs w a c l ∧ (∀ x ∈ l, x.data.length ≤ 140737488355328) ∧ IsInts w ka kc keep ∧ IsInts w ga gc again) := ⟨h, hlen, hk, hg⟩
  have hcl : l.length ≤ 9223372036854775807 := by have := h.1; have := h.2.1; unfold maxLen at this; omega
  clear h hlen hk hg
  go_enter Try.func5, Try.ntmps5
  go_wp2_with fail
  refine (shown_any w).mono ?_
  rintro e w1 ⟨rfl, B1⟩
  have H1 : Hid (Below w.heap.size w w1) := B1
  clear B1
  go_wp2_with fail
  refine (new_any q w1).mono ?_
  rintro e w2 ⟨B2, h2⟩
  have H2 : Hid (Below w.heap.size w w2) := H1.out.trans (B2.mono H1.out.size)
  rcases h2 with ⟨_, rfl⟩ | ⟨_, db, mb, vs0, rfl, d2, m2⟩
  · clear B2
    go_wp2_with fail
    go_ret
    exact ⟨rfl, H2.out⟩
  · have M2 : Hid (Made w w2 db mb q [] vs0) := ⟨d2, H2.out, fun k e => Nat.le_trans H1.out.size (m2 k e)⟩
    clear B2 d2 m2 H1 H2
    go_wp2_with fail
    go_loopg [11] l.length (fun gk i wr => ∃ (k : Nat) (L : List Fl) (vs : Int → Value), i = .int .i64 k ∧ k ≤ l.length ∧ l.length - k ≤ gk ∧ Hid (Made w wr db mb q L vs))
    case atStart => exact ⟨0, [], vs0, rfl, Nat.zero_le _, Nat.le_refl _, M2⟩
    case round =>
      obtain ⟨k, L, vs, rfl, hk, hgk, HI⟩ := hrel
      by_cases hp : k < l.length
      · have hpi : (k : Int) < (l.length : Int) := by omega
        obtain ⟨x, hx⟩ : ∃ x, l[k]? = some x := ⟨_, List.getElem?_eq_getElem hp⟩
        have hxm := List.mem_of_getElem? hx
        have HX : Hid (l[k]? = some x ∧ x.data.length ≤ 140737488355328 ∧ actFits x) := ⟨hx, HH.out.2.1 x hxm, HH.out.1.2.2.1 x hxm⟩
        obtain ⟨b, o, rfl, hb', y0, y1, ⟨xa, xc, y2, yb⟩, y3⟩ := (HH.out.1.below HI.out.below).at hx
        have HY : Hid (IsBytes wr xa xc x.data) := yb
        obtain ⟨L', hL'⟩ : ∃ L', L' = (act q L x.kind x.file x.data x.size).2 := ⟨_, rfl⟩
        obtain ⟨E, hE⟩ : ∃ E, E = (act q L x.kind x.file x.data x.size).1 := ⟨_, rfl⟩
        have HE : Hid (E = (act q L x.kind x.file x.data x.size).1 ∧ L' = (act q L x.kind x.file x.data x.size).2) := ⟨hE, hL'⟩
        clear hx hxm yb hL' hE
        go_wp2_with fail
        refine (do_any wr db mb q L vs HI.out.disk x.kind x.file x.size HX.out.2.2.2.1 xa xc x.data HY.out HX.out.2.1).mono ?_
        rintro e w5 ⟨he, vs', d5, t5⟩
        rw [← HE.out.1] at he
        rw [← HE.out.2] at d5 t5
        subst he
        have M5 : Hid (Made w w5 db mb q L' vs') := HI.out.turned d5 t5
        obtain ⟨T, hT⟩ : ∃ T, T = total L' := ⟨_, rfl⟩
        have hu := used_any w5 db mb q L' vs' d5
        rw [← hT] at hu
        have HU : Hid (Calls Try.prog 21 #[.pointer (some ⟨db, 0, none⟩)] w5 fun e w' => e = .returned (.int .i64 (T : Int)) ∧ w' = w5) := hu
        have hTq : (T : Int) ≤ q := by rw [hT]; exact d5.right.fits
        have hTn : ¬ q < (T : Int) := by omega
        have hT0 : ¬ (T : Int) < 0 := by omega
        clear d5 t5 y0 y1 y2 y3 hu hT
        go_wp2_with (go_at_call 21; refine HU.out.mono ?_; rintro e wx ⟨rfl, hW⟩; have hW := hW.symm; subst hW)
        go_roundg (l.length - (k + 1))
        case measure => omega
        case rel => exact ⟨k + 1, L', vs', by go_num, by omega, Nat.le_refl _, M5⟩
      · have hpi : ¬ (k : Int) < (l.length : Int) := by omega
        obtain ⟨wo, hwo⟩ : ∃ wo, wo = wr := ⟨_, rfl⟩
        subst hwo
        go_wp2_with fail
        refine (files_any wo db mb q L vs HI.out.disk).mono ?_
        rintro e w3 ⟨v3, rfl, P3, hP3, l3, B3⟩
        obtain ⟨a3, c3, rfl, _⟩ := listRaw l3 hP3 HI.out.disk.right
        have H3 : Hid (Made w w3 db mb q L vs ∧ ListAt w3 wo.heap.size (.slice a3 L.length c3) P3 ∧ P3.map (·.1) = L ∧ ∀ j, Mine db mb L vs j → j < wo.heap.size) := ⟨HI.out.later B3, l3, hP3, fun j hj => HI.out.disk.lt hj⟩
        clear l3 hP3 B3
        obtain ⟨C, hC⟩ : ∃ C, C = crash keep L := ⟨_, rfl⟩
        have HC : Hid (C = crash keep L ∧ C.length = L.length) := ⟨hC, by rw [hC]; exact crash_length _ _⟩
        clear hC
        go_wp2_with fail
        refine (crashM H3.out.1 ka kc keep HH.out.2.2.1).mono ?_
        rintro e w4 ⟨rfl, vs4, m4, t4⟩
        rw [← HC.out.1] at m4 t4
        have H4 : Hid (Made w w4 db mb q C vs4 ∧ ListAt w4 wo.heap.size (.slice a3 L.length c3) P3) := ⟨m4, listKept H3.out.2.1 H3.out.2.1 t4.kept (fun j h1 _ hm => by have := H3.out.2.2.2 j hm; omega)⟩
        clear m4 t4
        go_wp2_with fail
        refine (files_any w4 db mb q C vs4 H4.out.1.disk).mono ?_
        rintro e w5 ⟨v5, rfl, P5, hP5, l5, B5⟩
        obtain ⟨a5, c5, rfl, r5⟩ := listRaw l5 hP5 H4.out.1.disk.right
        rw [HC.out.2] at l5 ⊢
        have H5 : Hid (Made w w5 db mb q C vs4 ∧ ListAt w5 wo.heap.size (.slice a3 L.length c3) P3 ∧ ListAt w5 w4.heap.size (.slice a5 L.length c5) P5 ∧ P5.map (·.1) = C ∧ IsRaw w5 a5 c5 (C.map raw)) := ⟨H4.out.1.later B5, H4.out.2.below B5, l5, hP5, r5⟩
        clear l5 hP5 B5 r5
        have hLL : ((L.length : Int) != (L.length : Int)) = false := by simp
        have hLm : L.length ≤ 1099511627776 := HI.out.disk.right.few
        have hCt : total C ≤ 67108864 := by have := H5.out.1.disk.right.fits; have := H5.out.1.disk.right.quota; omega
        go_wp2_with fail
        go_loopg [14, 15] L.length (fun gk s i wz => ∃ (j t : Nat), s = .int .i64 t ∧ i = .int .i64 j ∧ j ≤ L.length ∧ L.length - j ≤ gk ∧ t ≤ 67108864 ∧ Hid (t = total (C.take j) ∧ Below w5.heap.size w5 wz))
        case atStart => exact ⟨0, 0, rfl, rfl, Nat.zero_le _, Nat.le_refl _, Nat.zero_le _, by simp [total], Below.refl _ _⟩
        case round =>
          obtain ⟨j, t, rfl, rfl, hj, hgj, htb, HJ⟩ := hrel
          by_cases hjp : j < L.length
          · have hji : (j : Int) < (L.length : Int) := by omega
            obtain ⟨f, hf⟩ : ∃ f, L[j]? = some f := ⟨_, List.getElem?_eq_getElem hjp⟩
            obtain ⟨g, hgC⟩ : ∃ g, C[j]? = some g := ⟨_, List.getElem?_eq_getElem (by have := HC.out.2; omega)⟩
            obtain ⟨n1, n2, n3, n4, n5, n6⟩ := crash_two H3.out.1.disk.right keep hf (by rw [← HC.out.1]; exact hgC)
            obtain ⟨b3, g3, rfl, hc3, hm3, x0, x1, x2, xr⟩ := listGet (H5.out.2.1.below HJ.out.2) (i := j) (f := f) (by rw [H3.out.2.2.1]; exact hf)
            obtain ⟨b5, g5, rfl, hc5, hm5, z0, z1, z2, zr⟩ := listGet (H5.out.2.2.1.below HJ.out.2) (i := j) (f := g) (by rw [H5.out.2.2.2.1]; exact hgC)
            have hfl : f.data.length ≤ 67108864 := by have h1 := len_le (List.mem_of_getElem? hf); have h2 := H3.out.1.disk.right.fits; have h3 := H3.out.1.disk.right.quota; omega
            have hgl : g.data.length ≤ 67108864 := by have h1 := len_le (List.mem_of_getElem? hgC); omega
            rw [n1] at z0
            rw [n2] at z2
            obtain ⟨lw, hlw⟩ : ∃ lw, lw = f.data.length := ⟨_, rfl⟩
            obtain ⟨li, hli⟩ : ∃ li, li = g.data.length := ⟨_, rfl⟩
            obtain ⟨sw, hsw⟩ : ∃ sw, sw = f.safe := ⟨_, rfl⟩
            rw [← hlw] at x1
            rw [← hsw] at x2
            rw [← hli] at z1 z2
            have HB1 : Hid (∀ m, Calls Try.prog 24 #[.slice (some ⟨g3, 0, none⟩) lw lw, .slice (some ⟨g5, 0, none⟩) li li] (wr.drewN m) fun e w' => e = .returned (.bool true) ∧ ∃ n, w' = (wr.drewN m).drewN n) := fun m => by
              rw [hlw, hli]
              exact begins_yes _ _ _ _ _ _ f.data g.data _ ((xr.isAll (by omega)).below (below_drewN (Below.refl _ wr) m)) ((zr.isAll (by omega)).below (below_drewN (Below.refl _ wr) m)) n3 rfl rfl
            have HB2 : Hid (∀ m, Calls Try.prog 24 #[.slice (some ⟨g5, 0, none⟩) li li, .slice (some ⟨g3, 0, none⟩) sw lw] (wr.drewN m) fun e w' => e = .returned (.bool true) ∧ ∃ n, w' = (wr.drewN m).drewN n) := fun m => by
              have hst : (f.data.take f.safe).length = f.safe := by rw [List.length_take]; omega
              rw [hlw, hli, hsw]
              exact begins_yes _ _ _ _ _ _ g.data (f.data.take f.safe) _ ((zr.isAll (by omega)).below (below_drewN (Below.refl _ wr) m)) (((xr.isAll (by omega)).take f.safe).below (below_drewN (Below.refl _ wr) m)) (by rw [hst]; exact n4) rfl hst
            have q1 : ¬ (sw : Int) < 0 := by omega
            have q2 : ¬ (lw : Int) < (sw : Int) := by omega
            have q3 : (f.num != f.num) = false := by simp
            have q4 : ((li : Int) != (li : Int)) = false := by simp
            have q5 : (sw : Int) ≤ (lw : Int) := by omega
            have d1 : decide ((sw : Int) < 0) = false := decide_eq_false (by omega)
            have d2 : decide ((lw : Int) < (sw : Int)) = false := decide_eq_false (by omega)
            have d3 : decide (lw < sw) = false := decide_eq_false (by omega)
            have q6 : (lw : Int) ≤ 67108864 := by omega
            have q7 : (li : Int) ≤ 67108864 := by omega
            have HT : Hid (t + li = total (C.take (j + 1)) ∧ t + li ≤ 67108864) := by
              have h1 := total_take C j g hgC
              have h2 := total_take_le C (j + 1)
              have h3 := HJ.out.1
              refine ⟨?_, ?_⟩ <;> omega
            have htb2 : (t : Int) ≤ 67108864 := by omega
            have hc3i : (L.length : Int) ≤ (c3 : Int) := by omega
            have hc5i : (L.length : Int) ≤ (c5 : Int) := by omega
            clear n1 n2 n3 n4 n5 n6 xr zr hfl hgl hlw hli hsw hf hgC
            go_wp2_with fail
            go_big_quiet ((first | (go_at_call_of 24 sw; exact Calls.quiet_of (HB2.out _)) | (go_at_call 24; exact Calls.quiet_of (HB1.out _))))
            go_wp2_with fail
            go_roundg (L.length - (j + 1))
            case measure => omega
            case rel =>
              have hT := HT.out
              exact ⟨j + 1, t + li, by go_num, by go_num, by omega, Nat.le_refl _, hT.2, hT.1, below_drewN HJ.out.2 _⟩
          · have hji : ¬ (j : Int) < (L.length : Int) := by omega
            have htt : t = total C := by rw [HJ.out.1, List.take_of_length_le (by have := HC.out.2; omega)]
            have HT : Hid (t = total C) := htt
            clear htt
            go_wp2_with fail
            have hcm := crashM (H5.out.1.later HJ.out.2) ga gc again HH.out.2.2.2
            rw [crash_safe again C (by rw [HC.out.1]; exact crash_all_safe H3.out.1.disk.right keep)] at hcm
            refine hcm.mono ?_
            rintro e w6 ⟨rfl, vs6, m6, t6⟩
            have H6 : Hid (Made w w6 db mb q C vs6 ∧ IsRaw w6 a5 c5 (C.map raw)) := by
              refine ⟨m6, ?_⟩
              have hl6 : ListAt w6 w4.heap.size (.slice a5 L.length c5) P5 := listKept H5.out.2.2.1 (H5.out.2.2.1.below HJ.out.2) t6.kept (fun k h1 _ hm => by have := H4.out.1.disk.lt hm; omega)
              obtain ⟨a', c', hv, hr⟩ := listRaw hl6 H5.out.2.2.2.1 H5.out.1.disk.right
              simp only [Value.slice.injEq] at hv
              obtain ⟨rfl, _, rfl⟩ := hv
              exact hr
            clear hcm m6 t6
            go_wp2_with fail
            refine (files_any w6 db mb q C vs6 H6.out.1.disk).mono ?_
            rintro e w7 ⟨v7, rfl, P7, hP7, l7, B7⟩
            obtain ⟨a7, c7, rfl, r7⟩ := listRaw l7 hP7 H6.out.1.disk.right
            rw [HC.out.2]
            have hsf := sameFilesL a7 a5 c7 c5 C w7 r7 (H6.out.2.below B7)
            rw [HC.out.2] at hsf
            have H7 : Hid (Made w w7 db mb q C vs6 ∧ Calls Try.prog 25 #[.slice a7 L.length c7, .slice a5 L.length c5] w7 fun e w' => e = .returned (.bool true) ∧ ∃ n, w' = w7.drewN n) := ⟨H6.out.1.later B7, hsf⟩
            clear l7 hP7 B7 r7 hsf
            have htt : ((t : Int) == (t : Int)) = true := by simp
            go_wp2_with (first
              | (go_at_call 25
                 refine H7.out.2.mono ?_
                 rintro e w8 ⟨rfl, n8, hn8⟩
                 have H8 : Hid (Made w w8 db mb q C vs6) := by
                   show Made _ _ _ _ _ _ _
                   rw [hn8]
                   exact H7.out.1.later (below_drewN (Below.refl _ _) n8)
                 clear hn8)
              | (go_at_call 21
                 refine (used_any _ db mb q C vs6 H8.out.disk).mono ?_
                 rintro e wx ⟨rfl, hW⟩
                 have hW := hW.symm
                 subst hW
                 rw [← HT.out]))
            go_ret
            exact ⟨rfl, H8.out.below⟩
end Go.Proofs.Ytkmolklcbemfbaa.diskKeeps
