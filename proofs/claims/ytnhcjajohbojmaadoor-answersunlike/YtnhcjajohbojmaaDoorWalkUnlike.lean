/-
  The walk of AnswersUnlike.
-/
import Derived.Test.YtnhcjajohbojmaaDoorSameRep
import Derived.Test.YtnhcjajohbojmaaDoorShownA
import Derived.Test.YtnhcjajohbojmaaDoorPlainUnlike
import Derived.Deep.RegionHeld3
namespace Go.Proofs.YtnhcjajohbojmaaDoor.answersUnlike
open Go.RowKit

theorem IsBytes.cut {w : World} {a : Option Addr} {c : Nat} {l : List UInt8} (h : IsBytes w a c l) (n : Nat) : IsBytes w a c (l.take n) := by
  obtain ⟨h1, h2, h3⟩ := h
  refine ⟨by rw [List.length_take]; omega, h2, ?_⟩
  rcases h3 with rfl | ⟨b, o, ha, hb, hc⟩
  · exact .inl (by simp)
  · refine .inr ⟨b, o, ha, hb, fun j x hj => hc j x ?_⟩
    rw [List.getElem?_take] at hj
    split at hj
    · exact hj
    · cases hj
/-- The ten cells. -/
def Two (b2 b3 : Nat) (r s : Rp) (a1 a2 : Option Addr) (n1 n2 c1 c2 : Nat) (W : World) : Prop :=
  W.cell? ⟨b2, 0, none⟩ = some (.int .i64 r.kind) ∧ W.cell? ⟨b2, 1, none⟩ = some (.int .i64 r.id) ∧ W.cell? ⟨b2, 2, none⟩ = some (.int .i64 r.num) ∧ W.cell? ⟨b2, 3, none⟩ = some (.string ⟨r.tube.toArray⟩) ∧ W.cell? ⟨b2, 4, none⟩ = some (.slice a1 n1 c1) ∧
  W.cell? ⟨b3, 0, none⟩ = some (.int .i64 s.kind) ∧ W.cell? ⟨b3, 1, none⟩ = some (.int .i64 s.id) ∧ W.cell? ⟨b3, 2, none⟩ = some (.int .i64 s.num) ∧ W.cell? ⟨b3, 3, none⟩ = some (.string ⟨s.tube.toArray⟩) ∧ W.cell? ⟨b3, 4, none⟩ = some (.slice a2 n2 c2)
theorem Two.below {b2 b3 : Nat} {r s : Rp} {a1 a2 : Option Addr} {n1 n2 c1 c2 : Nat} {W W' : World} (h : Two b2 b3 r s a1 a2 n1 n2 c1 c2 W) (hb : Below W.heap.size W W') : Two b2 b3 r s a1 a2 n1 n2 c1 c2 W' := by
  obtain ⟨x0, x1, x2, x3, x4, y0, y1, y2, y3, y4⟩ := h
  have e2 := cell_lt x0
  have e3 := cell_lt y0
  simp only [] at e2 e3
  exact ⟨(hb.cell (p := ⟨b2, 0, none⟩) e2).trans x0, (hb.cell (p := ⟨b2, 1, none⟩) e2).trans x1, (hb.cell (p := ⟨b2, 2, none⟩) e2).trans x2, (hb.cell (p := ⟨b2, 3, none⟩) e2).trans x3, (hb.cell (p := ⟨b2, 4, none⟩) e2).trans x4,
    (hb.cell (p := ⟨b3, 0, none⟩) e3).trans y0, (hb.cell (p := ⟨b3, 1, none⟩) e3).trans y1, (hb.cell (p := ⟨b3, 2, none⟩) e3).trans y2, (hb.cell (p := ⟨b3, 3, none⟩) e3).trans y3, (hb.cell (p := ⟨b3, 4, none⟩) e3).trans y4⟩

set_option maxHeartbeats 4000000 in
set_option maxRecDepth 1000000 in
theorem walk (r : Rp) (a1 : Option Addr) (c1 : Nat) (s : Rp) (a2 : Option Addr) (c2 : Nat) (w : World) (h1 : IsBytes w a1 c1 r.body ∧ r.tube.length ≤ maxLen) (h2 : IsBytes w a2 c2 s.body ∧ s.tube.length ≤ maxLen) (T : Tabs w ∧ 5 ≤ w.heap.size) :
    Calls Tryd.prog 7 #[rpV r (.slice a1 r.body.length c1), rpV s (.slice a2 s.body.length c2)] w fun e w' => e = .returned (.bool true) ∧ Below w.heap.size w w' := by
  unfold rpV
  obtain ⟨n1, hn1⟩ : ∃ n1, n1 = r.body.length := ⟨_, rfl⟩
  obtain ⟨n2, hn2⟩ : ∃ n2, n2 = s.body.length := ⟨_, rfl⟩
  rw [← hn1, ← hn2]
  obtain ⟨w2, hw2⟩ : ∃ w2, w2 = (w.alloc (.cells #[.int .i64 r.kind, .int .i64 r.id, .int .i64 r.num, .string ⟨r.tube.toArray⟩, .slice a1 n1 c1] 24)).alloc (.cells #[.int .i64 s.kind, .int .i64 s.id, .int .i64 s.num, .string ⟨s.tube.toArray⟩, .slice a2 n2 c2] 24) := ⟨_, rfl⟩
  obtain ⟨b2, hb2⟩ : ∃ b2, b2 = w.heap.size := ⟨_, rfl⟩
  obtain ⟨b3, hb3⟩ : ∃ b3, b3 = w.heap.size + 1 := ⟨_, rfl⟩
  have B2 : Below w.heap.size w w2 := by rw [hw2]; exact ((Below.refl _ w).alloc (Nat.le_refl _) _).alloc (by simp) _
  have g2 : w2.heap[b2]? = some (.cells #[.int .i64 r.kind, .int .i64 r.id, .int .i64 r.num, .string ⟨r.tube.toArray⟩, .slice a1 n1 c1] 24 (0, 0)) := by
    rw [hw2, hb2, heap_alloc_old _ _ (by simp)]
    exact heap_alloc_new w _
  have g3 : w2.heap[b3]? = some (.cells #[.int .i64 s.kind, .int .i64 s.id, .int .i64 s.num, .string ⟨s.tube.toArray⟩, .slice a2 n2 c2] 24 (0, 0)) := by
    rw [hw2, hb3]
    have := heap_alloc_new (w.alloc (.cells #[.int .i64 r.kind, .int .i64 r.id, .int .i64 r.num, .string ⟨r.tube.toArray⟩, .slice a1 n1 c1] 24)) (.cells #[.int .i64 s.kind, .int .i64 s.id, .int .i64 s.num, .string ⟨s.tube.toArray⟩, .slice a2 n2 c2] 24)
    simpa using this
  have H2 : Hid (Tabs w2 ∧ 5 ≤ w2.heap.size ∧ IsBytes w2 a1 c1 r.body ∧ IsBytes w2 a2 c2 s.body ∧ Below w.heap.size w w2 ∧ Two b2 b3 r s a1 a2 n1 n2 c1 c2 w2 ∧ n1 = r.body.length ∧ n2 = s.body.length) := by
    refine ⟨T.1.below B2, Nat.le_trans T.2 B2.size, h1.1.below B2, h2.1.below B2, B2, ?_, hn1, hn2⟩
    unfold Two
    simp [World.cell?, g2, g3]
  clear h1 h2 T B2 g2 g3 hn1 hn2
  go_enter Tryd.func7, Tryd.ntmps7
  go_wp2_with fail
  rw [← hw2, ← hb3, ← hb2]
  clear hw2 hb2 hb3
  refine (shown_any w2 H2.out.1 H2.out.2.1).mono ?_
  rintro e w3 ⟨rfl, B3⟩
  have H3 : Hid (Tabs w3 ∧ IsBytes w3 a1 c1 r.body ∧ IsBytes w3 a2 c2 s.body ∧ Below w.heap.size w w3 ∧ Two b2 b3 r s a1 a2 n1 n2 c1 c2 w3) := ⟨H2.out.1.below B3, H2.out.2.2.1.below B3, H2.out.2.2.2.1.below B3, H2.out.2.2.2.2.1.trans (B3.mono H2.out.2.2.2.2.1.size), H2.out.2.2.2.2.2.1.below B3⟩
  clear B3
  obtain ⟨x0, x1, x2, x3, x4, y0, y1, y2, y3, y4⟩ := H3.out.2.2.2.2
  have hp1 := put_any w3 r a1 c1 H3.out.2.1 H3.out.1
  unfold rpV at hp1
  rw [← H2.out.2.2.2.2.2.2.1] at hp1
  go_wp2_with fail
  refine hp1.mono ?_
  rintro e w4 ⟨B4, h4⟩
  have H4 : Hid (Tabs w4 ∧ IsBytes w4 a1 c1 r.body ∧ IsBytes w4 a2 c2 s.body ∧ Below w.heap.size w w4 ∧ Two b2 b3 r s a1 a2 n1 n2 c1 c2 w4) := ⟨H3.out.1.below B4, H3.out.2.1.below B4, H3.out.2.2.1.below B4, H3.out.2.2.2.1.trans (B4.mono H3.out.2.2.2.1.size), H3.out.2.2.2.2.below B4⟩
  clear B4 hp1 x0 x1 x2 x3 x4 y0 y1 y2 y3 y4
  obtain ⟨x0, x1, x2, x3, x4, y0, y1, y2, y3, y4⟩ := H4.out.2.2.2.2
  have hp2 := put_any w4 s a2 c2 H4.out.2.2.1 H4.out.1
  unfold rpV at hp2
  rw [← H2.out.2.2.2.2.2.2.2] at hp2
  have HP2 : Hid (Calls Tryd.prog 12 #[.agg #[.int .i64 s.kind, .int .i64 s.id, .int .i64 s.num, .string ⟨s.tube.toArray⟩, .slice a2 n2 c2]] w4 (PutPost s w4)) := hp2
  clear hp2
  rcases h4 with ⟨hne, rfl⟩ | ⟨hz, v1, rfl, ho1⟩
  · have hneb : (checkE r != 0) = true := by simpa using hne
    clear hne
    go_wp2_with fail
    refine HP2.out.mono ?_
    rintro e w5 ⟨B5, h5⟩
    have H5 : Hid (Below w.heap.size w w5) := H4.out.2.2.2.1.trans (B5.mono H4.out.2.2.2.1.size)
    clear B5 x0 x1 x2 x3 x4 y0 y1 y2 y3 y4
    rcases h5 with ⟨_, rfl⟩ | ⟨_, v2, rfl, _⟩
    · go_wp2_with fail
      go_ret
      exact ⟨rfl, H5.out⟩
    · go_wp2_with fail
      go_ret
      exact ⟨rfl, H5.out⟩
  · obtain ⟨g1, cap1, rfl, hg0, hg1, hg2, hg3, hg4, _⟩ := id ho1
    have HO1 : Hid (OwnC w4 w3.heap.size (.slice (some ⟨g1, 0, none⟩) (putL r).length cap1) (putL r) ∧ checkE r = 0) := ⟨ho1, hz⟩
    clear ho1 hz hg0 hg1 hg2 hg3 hg4
    go_wp2_with fail
    refine HP2.out.mono ?_
    rintro e w5 ⟨B5, h5⟩
    have H5 : Hid (IsBytes w5 a1 c1 r.body ∧ IsBytes w5 a2 c2 s.body ∧ Below w.heap.size w w5 ∧ Two b2 b3 r s a1 a2 n1 n2 c1 c2 w5 ∧ OwnC w5 w3.heap.size (.slice (some ⟨g1, 0, none⟩) (putL r).length cap1) (putL r)) := ⟨H4.out.2.1.below B5, H4.out.2.2.1.below B5, H4.out.2.2.2.1.trans (B5.mono H4.out.2.2.2.1.size), H4.out.2.2.2.2.below B5, HO1.out.1.below B5⟩
    clear B5 x0 x1 x2 x3 x4 y0 y1 y2 y3 y4
    rcases h5 with ⟨hne, rfl⟩ | ⟨hz, v2, rfl, ho2⟩
    · have hneb : (checkE s != 0) = true := by simpa using hne
      clear hne
      go_wp2_with fail
      go_ret
      exact ⟨rfl, H5.out.2.2.1⟩
    · obtain ⟨g2, cap2, rfl, _⟩ := id ho2
      have HO2 : Hid (OwnC w5 w4.heap.size (.slice (some ⟨g2, 0, none⟩) (putL s).length cap2) (putL s) ∧ checkE s = 0) := ⟨ho2, hz⟩
      clear ho2 hz
      by_cases hlt : (putL s).length < (putL r).length
      · have hlti : ((putL s).length : Int) < ((putL r).length : Int) := by omega
        have hmin : min (putL r).length (putL s).length = (putL s).length := Nat.min_eq_right (by omega)
        obtain ⟨K, hK⟩ : ∃ K, K = alikeB r s := ⟨_, rfl⟩
        have hdk : decide ((putL r).take (min (putL r).length (putL s).length) = (putL s).take (min (putL r).length (putL s).length)) = K := by
          rw [hK]
          apply Bool.eq_iff_iff.2
          rw [decide_eq_true_iff, alike_iff]
          exact put_unlike (check_right HO1.out.2) (check_right HO2.out.2)
        obtain ⟨xa, xc, ex, ix, _⟩ := H5.out.2.2.2.2.is
        obtain ⟨ya, yc, ey, iy, _⟩ := HO2.out.1.is
        simp only [Value.slice.injEq, true_and] at ex ey
        obtain ⟨rfl, rfl⟩ := ex
        obtain ⟨rfl, rfl⟩ := ey
        rw [hmin] at hdk
        have hlx := ix.1
        have hly := iy.1
        have htx : ((putL r).take (putL s).length).length = (putL s).length := by rw [List.length_take]; omega
        have hty : ((putL s).take (putL s).length).length = (putL s).length := by rw [List.length_take]; omega
        have HSame : Hid (∀ X, Below w5.heap.size w5 X → Calls Tryd.prog 14 #[.slice (some ⟨g1, 0, none⟩) (putL s).length cap1, .slice (some ⟨g2, 0, none⟩) (putL s).length cap2] X fun e w' => e = .returned (.bool K) ∧ Below X.heap.size X w') := fun X hX => by
          have h := same_any (some ⟨g1, 0, none⟩) (some ⟨g2, 0, none⟩) cap1 cap2 ((putL r).take (putL s).length) ((putL s).take (putL s).length) X ((IsBytes.cut ix (putL s).length).below hX) ((IsBytes.cut iy (putL s).length).below hX)
          rw [htx, hty, hdk] at h
          refine h.mono ?_
          rintro e w' ⟨he, q, hq⟩
          exact ⟨he, by rw [hq]; exact below_drewN (Below.refl _ X) q⟩
        have HRep : Hid (∀ X, Below w5.heap.size w5 X → Calls Tryd.prog 31 #[.agg #[.int .i64 r.kind, .int .i64 r.id, .int .i64 r.num, .string ⟨r.tube.toArray⟩, .slice a1 n1 c1], .agg #[.int .i64 s.kind, .int .i64 s.id, .int .i64 s.num, .string ⟨s.tube.toArray⟩, .slice a2 n2 c2]] X fun e w' => e = .returned (.bool K) ∧ Below X.heap.size X w') := fun X hX => by
          have h := sameReply_any r s a1 a2 c1 c2 X (H5.out.1.below hX) (H5.out.2.1.below hX)
          unfold rpV at h
          rw [← H2.out.2.2.2.2.2.2.1, ← H2.out.2.2.2.2.2.2.2, ← hK] at h
          exact h
        have hKK : (K == K) = true := by cases K <;> rfl
        have hT5 := H5.out.2.2.2.1
        have j1 : ((putL s).length : Int) ≤ (cap1 : Int) := by omega
        have j2 : ((putL s).length : Int) ≤ (cap2 : Int) := by omega
        clear hK hdk ix iy htx hty
        go_wp2_with fail
        go_region_held3 (fun W => W.cell? ⟨b2, 0, none⟩ = some (.int .i64 r.kind) ∧ W.cell? ⟨b2, 1, none⟩ = some (.int .i64 r.id) ∧ W.cell? ⟨b2, 2, none⟩ = some (.int .i64 r.num) ∧ W.cell? ⟨b2, 3, none⟩ = some (.string ⟨r.tube.toArray⟩) ∧ W.cell? ⟨b2, 4, none⟩ = some (.slice a1 n1 c1) ∧ W.cell? ⟨b3, 0, none⟩ = some (.int .i64 s.kind) ∧ W.cell? ⟨b3, 1, none⟩ = some (.int .i64 s.id) ∧ W.cell? ⟨b3, 2, none⟩ = some (.int .i64 s.num) ∧ W.cell? ⟨b3, 3, none⟩ = some (.string ⟨s.tube.toArray⟩) ∧ W.cell? ⟨b3, 4, none⟩ = some (.slice a2 n2 c2))
          (first | exact hT5 | exact TS.out | exact TR.out)
          (first
            | (go_at_call 14
               refine (HSame.out _ (by first | exact (Below.refl _ _).drew | exact BR.out)).mono ?_
               rintro e wS ⟨rfl, bS⟩
               have BS : Hid (Below w5.heap.size w5 wS) := by first | exact (Below.refl _ w5).drew.trans bS | exact BR.out.trans (bS.mono BR.out.size)
               have TS : Hid (Two b2 b3 r s a1 a2 n1 n2 c1 c2 wS) := H5.out.2.2.2.1.below BS.out
               clear bS)
            | (go_at_call 31
               refine (HRep.out _ (by first | exact (Below.refl _ _).drew | exact BS.out)).mono ?_
               rintro e wR ⟨rfl, bR⟩
               have BR : Hid (Below w5.heap.size w5 wR) := by first | exact (Below.refl _ w5).drew.trans bR | exact BS.out.trans (bR.mono BS.out.size)
               have TR : Hid (Two b2 b3 r s a1 a2 n1 n2 c1 c2 wR) := H5.out.2.2.2.1.below BR.out
               clear bR))
        all_goals (go_wp2_with fail)
        all_goals go_ret
        all_goals exact ⟨rfl, H5.out.2.2.1.trans (by first | exact BR.out.mono H5.out.2.2.1.size | exact BS.out.mono H5.out.2.2.1.size)⟩
      · have hlti : ¬ ((putL s).length : Int) < ((putL r).length : Int) := by omega
        have hmin : min (putL r).length (putL s).length = (putL r).length := Nat.min_eq_left (by omega)
        obtain ⟨K, hK⟩ : ∃ K, K = alikeB r s := ⟨_, rfl⟩
        have hdk : decide ((putL r).take (min (putL r).length (putL s).length) = (putL s).take (min (putL r).length (putL s).length)) = K := by
          rw [hK]
          apply Bool.eq_iff_iff.2
          rw [decide_eq_true_iff, alike_iff]
          exact put_unlike (check_right HO1.out.2) (check_right HO2.out.2)
        obtain ⟨xa, xc, ex, ix, _⟩ := H5.out.2.2.2.2.is
        obtain ⟨ya, yc, ey, iy, _⟩ := HO2.out.1.is
        simp only [Value.slice.injEq, true_and] at ex ey
        obtain ⟨rfl, rfl⟩ := ex
        obtain ⟨rfl, rfl⟩ := ey
        rw [hmin] at hdk
        have hlx := ix.1
        have hly := iy.1
        have htx : ((putL r).take (putL r).length).length = (putL r).length := by rw [List.length_take]; omega
        have hty : ((putL s).take (putL r).length).length = (putL r).length := by rw [List.length_take]; omega
        have HSame : Hid (∀ X, Below w5.heap.size w5 X → Calls Tryd.prog 14 #[.slice (some ⟨g1, 0, none⟩) (putL r).length cap1, .slice (some ⟨g2, 0, none⟩) (putL r).length cap2] X fun e w' => e = .returned (.bool K) ∧ Below X.heap.size X w') := fun X hX => by
          have h := same_any (some ⟨g1, 0, none⟩) (some ⟨g2, 0, none⟩) cap1 cap2 ((putL r).take (putL r).length) ((putL s).take (putL r).length) X ((IsBytes.cut ix (putL r).length).below hX) ((IsBytes.cut iy (putL r).length).below hX)
          rw [htx, hty, hdk] at h
          refine h.mono ?_
          rintro e w' ⟨he, q, hq⟩
          exact ⟨he, by rw [hq]; exact below_drewN (Below.refl _ X) q⟩
        have HRep : Hid (∀ X, Below w5.heap.size w5 X → Calls Tryd.prog 31 #[.agg #[.int .i64 r.kind, .int .i64 r.id, .int .i64 r.num, .string ⟨r.tube.toArray⟩, .slice a1 n1 c1], .agg #[.int .i64 s.kind, .int .i64 s.id, .int .i64 s.num, .string ⟨s.tube.toArray⟩, .slice a2 n2 c2]] X fun e w' => e = .returned (.bool K) ∧ Below X.heap.size X w') := fun X hX => by
          have h := sameReply_any r s a1 a2 c1 c2 X (H5.out.1.below hX) (H5.out.2.1.below hX)
          unfold rpV at h
          rw [← H2.out.2.2.2.2.2.2.1, ← H2.out.2.2.2.2.2.2.2, ← hK] at h
          exact h
        have hKK : (K == K) = true := by cases K <;> rfl
        have hT5 := H5.out.2.2.2.1
        have j1 : ((putL r).length : Int) ≤ (cap1 : Int) := by omega
        have j2 : ((putL r).length : Int) ≤ (cap2 : Int) := by omega
        clear hK hdk ix iy htx hty
        go_wp2_with fail
        go_region_held3 (fun W => W.cell? ⟨b2, 0, none⟩ = some (.int .i64 r.kind) ∧ W.cell? ⟨b2, 1, none⟩ = some (.int .i64 r.id) ∧ W.cell? ⟨b2, 2, none⟩ = some (.int .i64 r.num) ∧ W.cell? ⟨b2, 3, none⟩ = some (.string ⟨r.tube.toArray⟩) ∧ W.cell? ⟨b2, 4, none⟩ = some (.slice a1 n1 c1) ∧ W.cell? ⟨b3, 0, none⟩ = some (.int .i64 s.kind) ∧ W.cell? ⟨b3, 1, none⟩ = some (.int .i64 s.id) ∧ W.cell? ⟨b3, 2, none⟩ = some (.int .i64 s.num) ∧ W.cell? ⟨b3, 3, none⟩ = some (.string ⟨s.tube.toArray⟩) ∧ W.cell? ⟨b3, 4, none⟩ = some (.slice a2 n2 c2))
          (first | exact hT5 | exact TS.out | exact TR.out)
          (first
            | (go_at_call 14
               refine (HSame.out _ (by first | exact (Below.refl _ _).drew | exact BR.out)).mono ?_
               rintro e wS ⟨rfl, bS⟩
               have BS : Hid (Below w5.heap.size w5 wS) := by first | exact (Below.refl _ w5).drew.trans bS | exact BR.out.trans (bS.mono BR.out.size)
               have TS : Hid (Two b2 b3 r s a1 a2 n1 n2 c1 c2 wS) := H5.out.2.2.2.1.below BS.out
               clear bS)
            | (go_at_call 31
               refine (HRep.out _ (by first | exact (Below.refl _ _).drew | exact BS.out)).mono ?_
               rintro e wR ⟨rfl, bR⟩
               have BR : Hid (Below w5.heap.size w5 wR) := by first | exact (Below.refl _ w5).drew.trans bR | exact BS.out.trans (bR.mono BS.out.size)
               have TR : Hid (Two b2 b3 r s a1 a2 n1 n2 c1 c2 wR) := H5.out.2.2.2.1.below BR.out
               clear bR))
        all_goals (go_wp2_with fail)
        all_goals go_ret
        all_goals exact ⟨rfl, H5.out.2.2.1.trans (by first | exact BR.out.mono H5.out.2.2.1.size | exact BS.out.mono H5.out.2.2.1.size)⟩
end Go.Proofs.YtnhcjajohbojmaaDoor.answersUnlike
