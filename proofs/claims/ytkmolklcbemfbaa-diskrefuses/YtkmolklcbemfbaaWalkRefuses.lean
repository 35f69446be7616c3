/-
  The walk of DiskRefuses.
-/
import Derived.Test.YtkmolklcbemfbaaRefusesKit
namespace Go.Proofs.Ytkmolklcbemfbaa.diskRefuses
open Go.RowKit Go.Maps

set_option maxHeartbeats 4000000 in
set_option maxRecDepth 1000000 in
theorem walk (q : Int) (a : Option Addr) (c : Nat) (l : List ActI) (w : World) (_ : -9223372036854775808 ≤ q ∧ q ≤ 9223372036854775807) (h : IsActs w a c l) (hlen : ∀ x ∈ l, x.data.length ≤ 140737488355328) :
    Calls Try.prog 6 #[.int .i64 q, .slice a l.length c] w fun e w' => e = .returned (.bool true) ∧ Below w.heap.size w w' := by
  have HH : Hid (IsActs w a c l ∧ ∀ x ∈ l, x.data.length ≤ 140737488355328) := ⟨h, hlen⟩
  have hcl : l.length ≤ 9223372036854775807 := by have := h.1; have := h.2.1; unfold maxLen at this; omega
  clear h hlen
  go_enter Try.func6, Try.ntmps6
  go_wp2_with fail
  refine (shown_any w).mono ?_
  rintro e w1 ⟨rfl, B1⟩
  have H1 : Hid (Below w.heap.size w w1) := B1
  clear B1
  go_wp2_with fail
  refine (new_any q w1).mono ?_
  rintro e w2 ⟨B2, h2⟩
  have H2 : Hid (Below w.heap.size w w2) := H1.out.trans (B2.mono H1.out.size)
  rcases h2 with ⟨_, rfl⟩ | ⟨_, db, mb, vs0, rfl, d2, m2⟩
  · clear B2
    go_wp2_with fail
    go_ret
    exact ⟨rfl, H2.out⟩
  · have M2 : Hid (Made w w2 db mb q [] vs0) := ⟨d2, H2.out, fun k e => Nat.le_trans H1.out.size (m2 k e)⟩
    clear B2 d2 m2 H1 H2
    go_wp2_with fail
    go_loopg [7] l.length (fun gk i wr => ∃ (k : Nat) (L : List Fl) (vs : Int → Value), i = .int .i64 k ∧ k ≤ l.length ∧ l.length - k ≤ gk ∧ Hid (Made w wr db mb q L vs))
    case atStart => exact ⟨0, [], vs0, rfl, Nat.zero_le _, Nat.le_refl _, M2⟩
    case round =>
      obtain ⟨k, L, vs, rfl, hk, hgk, HI⟩ := hrel
      by_cases hp : k < l.length
      · have hpi : (k : Int) < (l.length : Int) := by omega
        by_cases h300 : k < 300
        · have hpi2 : (k : Int) < 300 := by omega
          obtain ⟨x, hx⟩ : ∃ x, l[k]? = some x := ⟨_, List.getElem?_eq_getElem hp⟩
          have hxm := List.mem_of_getElem? hx
          have HX : Hid (l[k]? = some x ∧ x.data.length ≤ 140737488355328 ∧ actFits x) := ⟨hx, HH.out.2 x hxm, HH.out.1.2.2.1 x hxm⟩
          obtain ⟨b, o, rfl, _⟩ := HH.out.1.at hx
          clear hx hxm
          go_wp2_with fail
          refine (files_any wr db mb q L vs HI.out.disk).mono ?_
          rintro e w3 ⟨v3, rfl, P3, hP3, l3, B3⟩
          obtain ⟨a3, c3, rfl, r3⟩ := listRaw l3 hP3 HI.out.disk.right
          have H3 : Hid (Made w w3 db mb q L vs ∧ ListAt w3 wr.heap.size (.slice a3 L.length c3) P3 ∧ P3.map (·.1) = L ∧ IsRaw w3 a3 c3 (L.map raw) ∧ Below wr.heap.size wr w3 ∧ ∀ j, Mine db mb L vs j → j < wr.heap.size) := ⟨HI.out.later B3, l3, hP3, r3, B3, fun j hj => HI.out.disk.lt hj⟩
          clear l3 hP3 r3 B3
          go_wp2_with fail
          refine (loadL q a3 c3 L w3 H3.out.1.disk.right H3.out.2.2.2.1).mono ?_
          rintro e w4 ⟨db2, mb2, vs2, rfl, d4, m4, B4⟩
          have H4 : Hid (Made w w4 db mb q L vs ∧ DiskAt w4 db2 mb2 q L vs2 ∧ (∀ j, Mine db2 mb2 L vs2 j → w3.heap.size ≤ j ∧ j < w4.heap.size) ∧ ListAt w4 wr.heap.size (.slice a3 L.length c3) P3) :=
            ⟨H3.out.1.later B4, d4, fun j hj => ⟨m4 j hj, d4.lt hj⟩, H3.out.2.1.below B4⟩
          clear d4 m4 B4
          obtain ⟨b', o', e', hb', y0, y1, ⟨xa, xc, y2, yb⟩, y3⟩ := (HH.out.1.below H4.out.1.below).at HX.out.1
          simp only [Option.some.injEq, Addr.mk.injEq, and_true] at e'
          obtain ⟨rfl, rfl⟩ := e'
          have hbw : b < w.heap.size := by
            obtain ⟨b', o', e', hb', _⟩ := HH.out.1.at HX.out.1
            simp only [Option.some.injEq, Addr.mk.injEq, and_true] at e'
            obtain ⟨rfl, rfl⟩ := e'
            exact hb'
          have HY : Hid (IsBytes w4 xa xc x.data) := yb
          obtain ⟨E, hE⟩ : ∃ E, E = (act q L x.kind x.file x.data x.size).1 := ⟨_, rfl⟩
          obtain ⟨L', hL'⟩ : ∃ L', L' = (act q L x.kind x.file x.data x.size).2 := ⟨_, rfl⟩
          have HE : Hid (E = (act q L x.kind x.file x.data x.size).1 ∧ L' = (act q L x.kind x.file x.data x.size).2) := ⟨hE, hL'⟩
          clear yb hE hL'
          go_wp2_with fail
          refine (do_any w4 db mb q L vs H4.out.1.disk x.kind x.file x.size HX.out.2.2.2.1 xa xc x.data HY.out HX.out.2.1).mono ?_
          rintro e w5 ⟨he, vs', d5, t5⟩
          rw [← HE.out.1] at he
          rw [← HE.out.2] at d5 t5
          subst he
          have H5 : Hid (Made w w5 db mb q L' vs' ∧ Turned w4 w5 db mb L vs L' vs' ∧ DiskAt w5 db2 mb2 q L vs2) := by
            refine ⟨H4.out.1.turned d5 t5, t5, H4.out.2.1.kept t5.kept (fun j hj hm => ?_)⟩
            have h1 := H4.out.2.2.1 j hj
            have h2 := H3.out.2.2.2.2.2 j hm
            have h3 := H3.out.2.2.2.2.1.size
            omega
          clear d5 t5 y0 y1 y2 y3
          obtain ⟨b', o', e', hb', y0, y1, ⟨xa', xc', y2, yb⟩, y3⟩ := (HH.out.1.below H5.out.1.below).at HX.out.1
          simp only [Option.some.injEq, Addr.mk.injEq, and_true] at e'
          obtain ⟨rfl, rfl⟩ := e'
          have HY5 : Hid (IsBytes w5 xa' xc' x.data) := yb
          clear yb
          go_wp2_with fail
          refine (do_any w5 db2 mb2 q L vs2 H5.out.2.2 x.kind x.file x.size HX.out.2.2.2.1 xa' xc' x.data HY5.out HX.out.2.1).mono ?_
          rintro e w6 ⟨he, vs2', d6, t6⟩
          rw [← HE.out.1] at he
          rw [← HE.out.2] at d6 t6
          subst he
          have hs34 : wr.heap.size ≤ w3.heap.size := H3.out.2.2.2.2.1.size
          have H6 : Hid (Made w w6 db mb q L' vs' ∧ DiskAt w6 db2 mb2 q L' vs2' ∧ ListAt w6 wr.heap.size (.slice a3 L.length c3) P3) := by
            have hd6 : DiskAt w6 db mb q L' vs' := H5.out.1.disk.kept t6.kept (fun j hj hm => by
              have h1 := H4.out.2.2.1 j hm
              rcases H5.out.2.1.mine j hj with h | h
              · have := H3.out.2.2.2.2.2 j h
                omega
              · omega)
            refine ⟨⟨hd6, H5.out.1.below.trans (t6.kept.below H5.out.1.below.size (fun j hj hm => ?_)), H5.out.1.mine⟩, d6, ?_⟩
            · have h1 := H4.out.2.2.1 j hm
              have := H3.out.1.below.size
              omega
            · refine listKept H3.out.2.1 (listKept H3.out.2.1 H4.out.2.2.2 H5.out.2.1.kept (fun j h1 _ hm => ?_)) t6.kept (fun j h1 h2 hm => ?_)
              · have := H3.out.2.2.2.2.2 j hm
                omega
              · have := H4.out.2.2.1 j hm
                omega
          clear d6 t6 y0 y1 y2 y3
          go_wp2_with fail
          refine (files_any w6 db mb q L' vs' H6.out.1.disk).mono ?_
          rintro e w7 ⟨v7, rfl, P7, hP7, l7, B7⟩
          obtain ⟨a7, c7, rfl, r7⟩ := listRaw l7 hP7 H6.out.1.disk.right
          have H7 : Hid (Made w w7 db mb q L' vs' ∧ DiskAt w7 db2 mb2 q L' vs2' ∧ ListAt w7 wr.heap.size (.slice a3 L.length c3) P3 ∧ IsRaw w7 a7 c7 (L'.map raw)) := ⟨H6.out.1.later B7, H6.out.2.1.below B7, H6.out.2.2.below B7, r7⟩
          clear l7 hP7 r7 B7
          have hEE : (E != E) = false := by simp
          go_wp2_with fail
          refine (files_any w7 db2 mb2 q L' vs2' H7.out.2.1).mono ?_
          rintro e w8 ⟨v8, rfl, P8, hP8, l8, B8⟩
          obtain ⟨a8, c8, rfl, r8⟩ := listRaw l8 hP8 H7.out.2.1.right
          have H8 : Hid (Made w w8 db mb q L' vs' ∧ ListAt w8 wr.heap.size (.slice a3 L.length c3) P3 ∧ IsRaw w8 a7 c7 (L'.map raw) ∧ IsRaw w8 a8 c8 (L'.map raw)) := ⟨H7.out.1.later B8, H7.out.2.2.1.below B8, H7.out.2.2.2.below B8, r8⟩
          clear l8 hP8 r8 B8
          go_wp2_with fail
          refine (sameFilesL a8 a7 c8 c7 L' w8 H8.out.2.2.2 H8.out.2.2.1).mono ?_
          rintro e w9 ⟨rfl, n9, hn9⟩
          have B9 : Below w8.heap.size w8 w9 := by rw [hn9]; exact below_drewN (Below.refl _ _) n9
          have H9 : Hid (Made w w9 db mb q L' vs' ∧ ListAt w9 wr.heap.size (.slice a3 L.length c3) P3 ∧ IsRaw w9 a7 c7 (L'.map raw)) := ⟨H8.out.1.later B9, H8.out.2.1.below B9, H8.out.2.2.1.below B9⟩
          clear hn9 B9
          by_cases hE0 : E = 0
          · have hEb : (E != 0) = false := by simpa using hE0
            go_wp2_with fail
            go_roundg (l.length - (k + 1))
            case measure => omega
            case rel => exact ⟨k + 1, L', vs', by go_num, by omega, Nat.le_refl _, H9.out.1⟩
          · have hEb : (E != 0) = true := by simpa using hE0
            have hLL : L' = L := by rw [HE.out.2]; exact act_err (by rw [← HE.out.1]; exact hE0)
            obtain ⟨a3', c3', hv3, r3⟩ := listRaw H9.out.2.1 H3.out.2.2.1 H3.out.1.disk.right
            simp only [Value.slice.injEq, true_and] at hv3
            obtain ⟨rfl, rfl⟩ := hv3
            have hsf := sameFilesL a7 a3 c7 c3 L' w9 H9.out.2.2 (by rw [hLL]; exact r3)
            have hll : L'.length = L.length := by rw [hLL]
            rw [show #[Value.slice a7 L'.length c7, Value.slice a3 L'.length c3] = #[Value.slice a7 L'.length c7, Value.slice a3 L.length c3] by rw [hll]] at hsf
            have HS : Hid (Calls Try.prog 25 #[.slice a7 L'.length c7, .slice a3 L.length c3] w9 fun e w' => e = .returned (.bool true) ∧ ∃ n, w' = w9.drewN n) := hsf
            clear hLL r3 hsf hll
            go_wp2_with fail
            refine HS.out.mono ?_
            rintro e w10 ⟨rfl, n10, hn10⟩
            have H10 : Hid (Made w w10 db mb q L' vs') := by
              show Made _ _ _ _ _ _ _
              rw [hn10]
              exact H9.out.1.later (below_drewN (Below.refl _ _) n10)
            clear hn10
            go_wp2_with fail
            go_roundg (l.length - (k + 1))
            case measure => omega
            case rel => exact ⟨k + 1, L', vs', by go_num, by omega, Nat.le_refl _, H10⟩
        · have hpi2 : ¬ (k : Int) < 300 := by omega
          go_wp2_with fail
          go_ret
          exact ⟨rfl, HI.out.below⟩
      · have hpi : ¬ (k : Int) < (l.length : Int) := by omega
        go_wp2_with fail
        go_ret
        exact ⟨rfl, HI.out.below⟩
end Go.Proofs.Ytkmolklcbemfbaa.diskRefuses
