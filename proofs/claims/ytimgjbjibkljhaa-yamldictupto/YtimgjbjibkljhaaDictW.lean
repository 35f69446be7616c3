/-
  The walk of Dict.
-/
import Derived.Test.YtimgjbjibkljhaaPairs
import Derived.Test.YtimgjbjibkljhaaLine
namespace Go.Proofs.Ytimgjbjibkljhaa
open Go.RowKit

theorem IsPairs.take {w : World} {a : Option Addr} {c : Nat} {ps : List BP} (h : IsPairs w a c ps) (k : Nat) : IsPairs w a c (ps.take k) := by
  obtain ⟨h1, h2, h3⟩ := h
  have : (ps.take k).length ≤ ps.length := List.length_take_le' ..
  refine ⟨by omega, by omega, ?_⟩
  rcases h3 with rfl | ⟨b, o, ha, hbk, hc⟩
  · exact .inl (by simp)
  · refine .inr ⟨b, o, ha, hbk, fun j p hj => hc j p ?_⟩
    rw [List.getElem?_take] at hj
    split at hj
    · exact hj
    · cases hj
theorem IsPairs.at {w : World} {a : Option Addr} {c : Nat} {ps : List BP} (h : IsPairs w a c ps) {j : Nat} {p : BP} (hx : ps[j]? = some p) : ∃ b o, a = some ⟨b, o, none⟩ ∧ b < w.heap.size ∧ w.cell? ⟨b, o + j * 2, none⟩ = some (.string p.1) ∧ w.cell? ⟨b, o + j * 2 + 1, none⟩ = some (.string p.2) := by
  rcases h.2.2 with rfl | ⟨b, o, ha, hb, hc⟩
  · simp at hx
  · exact ⟨b, o, ha, hb, hc j p hx⟩
theorem check_at {w : World} {a : Option Addr} {c k : Nat} {ps : List BP} (h : IsPairs w a c ps) (hk : k ≤ ps.length) (p : BP) :
    Calls Try.prog 39 #[.slice a k c, .agg #[.string p.1, .string p.2]] w fun e w' => e = .returned (.int .i64 (checkE ((ps.take k).map un) (un p))) ∧ Below w.heap.size w w' := by
  have := checkPair_any a c (ps.take k) p w (h.take k)
  rwa [List.length_take, Nat.min_eq_left hk] at this
theorem take_un {ps : List BP} {k : Nat} {p : BP} (h : ps[k]? = some p) : (ps.take (k + 1)).map un = (ps.take k).map un ++ [un p] := by
  rw [List.take_add_one, h]
  simp
theorem ok_step {ps : List BP} {k : Nat} {p : BP} (h : ps[k]? = some p) (ho : okF [] ((ps.take k).map un)) (hc : checkE ((ps.take k).map un) (un p) = 0) : okF [] ((ps.take (k + 1)).map un) := by
  rw [take_un h, okF_append]
  exact ⟨ho, by simpa [okF] using hc⟩
theorem dict_stop {ps : List BP} {k : Nat} {p : BP} (hl : ¬ 256 < ps.length) (h : ps[k]? = some p) (ho : okF [] ((ps.take k).map un)) (hc : checkE ((ps.take k).map un) (un p) ≠ 0) : dictE (ps.map un) = checkE ((ps.take k).map un) (un p) := by
  have hps : ps.map un = (ps.take k).map un ++ un p :: (ps.drop (k + 1)).map un := by
    obtain ⟨hlt, hx⟩ := List.getElem?_eq_some_iff.1 h
    rw [← hx, ← List.map_cons, ← List.map_append, List.getElem_cons_drop, List.take_append_drop]
  unfold dictE
  rw [if_neg (by simpa using hl), hps, goE_append _ _ _ ho, List.nil_append, goE_stop _ _ _ hc]
theorem dict_fine {ps : List BP} {k : Nat} (hl : ¬ 256 < ps.length) (hk : ps.length ≤ k) (ho : okF [] ((ps.take k).map un)) : dictE (ps.map un) = 0 := by
  rw [List.take_of_length_le hk] at ho
  unfold dictE
  rw [if_neg (by simpa using hl), (goE_ok _ _).2 ho]
theorem dictL_take {ps : List BP} {k : Nat} {p : BP} (h : ps[k]? = some p) : dictL ((ps.take (k + 1)).map un) = dictL ((ps.take k).map un) ++ cat [p.1, ⟨#[58, 32]⟩, p.2] ++ [10] := by
  rw [take_un h]
  simp [dictL, pairsL, pairL, cat, un]
theorem dictL_le (ps : List BP) (k : Nat) : (dictL ((ps.take k).map un)).length ≤ (dictL (ps.map un)).length := by
  have : ps.map un = (ps.take k).map un ++ (ps.drop k).map un := by rw [← List.map_append, List.take_append_drop]
  rw [this]
  unfold dictL
  rw [pairs_append, List.length_append, List.length_append, List.length_append]
  omega
def DictPost (ps : List BP) (w : World) (e : Ending) (w' : World) : Prop := ∃ v, e = .returned (.tuple #[v, .int .i64 (dictE (ps.map un))]) ∧ Own w' w.heap.size v (if dictE (ps.map un) = 0 then dictL (ps.map un) else []) ∧ Below w.heap.size w w'

set_option maxHeartbeats 1000000 in
set_option maxRecDepth 1000000 in
theorem dict_any (a : Option Addr) (c : Nat) (ps : List BP) (w : World) (h : IsPairs w a c ps) (hb : (dictL (ps.map un)).length < 140737488355328) :
    Calls Try.prog 29 #[.slice a ps.length c] w (DictPost ps w) := by
  have HS : Hid (IsPairs w a c ps) := h
  have HL : Hid ((dictL (ps.map un)).length < 140737488355328) := hb
  have hlc : ps.length ≤ c := h.1
  have hlen : (ps.length : Int) ≤ 9223372036854775807 := by have := h.2.1; omega
  clear h hb
  by_cases hbig : 256 < ps.length
  · go_enter Try.func29, Try.ntmps29
    go_wp2
    go_ret2
    have e : dictE (ps.map un) = 1 := by unfold dictE; rw [if_pos (by simpa using hbig)]
    exact ⟨_, by rw [e]; rfl, by rw [e]; exact Own.nil _ _, Below.refl _ _⟩
  have HBG : Hid (¬ 256 < ps.length) := hbig
  go_enter Try.func29, Try.ntmps29
  go_wp2
  go_loopg [15] ps.length (fun gk i wr => ∃ k : Nat, i = .int .i64 k ∧ k ≤ ps.length ∧ ps.length - k ≤ gk ∧ Hid (Below w.heap.size w wr) ∧ Hid (okF [] ((ps.take k).map un)))
  case atStart => exact ⟨0, rfl, Nat.zero_le _, Nat.le_refl _, Below.refl _ _, trivial⟩
  case round =>
    obtain ⟨k, rfl, hk, hgk, HB, HA⟩ := hrel
    by_cases hlt : k < ps.length
    · obtain ⟨p, hp⟩ : ∃ p, ps[k]? = some p := ⟨_, List.getElem?_eq_getElem hlt⟩
      obtain ⟨b, o, rfl, hbw, c0, c1⟩ := (HS.out.below HB.out).at hp
      have HX : Hid (ps[k]? = some p) := hp
      clear hp
      obtain ⟨w1, hw1⟩ : ∃ w1, w1 = wr.alloc (.cells #[.string p.1, .string p.2] 41) := ⟨_, rfl⟩
      have HW1 : Hid (w1 = wr.alloc (.cells #[.string p.1, .string p.2] 41)) := hw1
      have B1 : Below wr.heap.size wr w1 := by rw [hw1]; exact (Below.refl _ wr).alloc (Nat.le_refl _) _
      have hbl : w1.heap[wr.heap.size]? = some (.cells #[.string p.1, .string p.2] 41 (0, 0)) := by rw [hw1]; exact heap_alloc_new _ _
      have m0 : w1.cell? ⟨wr.heap.size, 0, none⟩ = some (.string p.1) := by simp [World.cell?, hbl]
      have m1 : w1.cell? ⟨wr.heap.size, 1, none⟩ = some (.string p.2) := by simp [World.cell?, hbl]
      have hlt1 : wr.heap.size < w1.heap.size := cell_lt m0
      have HB1 : Hid (Below w.heap.size w w1) := HB.out.trans (B1.mono HB.out.size)
      have hkc : k ≤ c := by omega
      have hkci : (k : Int) ≤ (c : Int) := by omega
      clear hw1 B1 hbl
      go_wp2_with fail
      rw [← HW1.out]
      refine wp_tail 4 mixed (by kernel_rfl) ?_
      simp only [List.take_succ_cons, List.take_zero, List.drop_succ_cons, List.drop_zero]
      repeat still_step
      refine wpStill_nil ?_
      obtain ⟨eb, heb⟩ : ∃ eb, checkE ((ps.take k).map un) (un p) = eb := ⟨_, rfl⟩
      have HEB : Hid (checkE ((ps.take k).map un) (un p) = eb) := heb
      clear heb
      by_cases hz : eb = 0
      · obtain rfl := hz
        go_wp2_with (go_at_call 39; refine (check_at (HS.out.below (HB1.out.drew)) (by omega) p).mono ?_; rintro e w2 ⟨rfl, b2⟩; rw [HEB.out]; have HB2 : Hid (Below w.heap.size w w2) := HB1.out.drew.trans (b2.mono (HB1.out.drew).size); clear b2)
        go_roundg (ps.length - (k + 1))
        case measure => omega
        case rel => exact ⟨k + 1, by go_num, by omega, Nat.le_refl _, HB2.out, ok_step HX.out HA.out HEB.out⟩
      · have hzb : (eb != 0) = true := by simpa using hz
        have HZ : Hid (eb ≠ 0) := hz
        clear hz
        go_wp2_with (go_at_call 39; refine (check_at (HS.out.below (HB1.out.drew)) (by omega) p).mono ?_; rintro e w2 ⟨rfl, b2⟩; rw [HEB.out]; have HB2 : Hid (Below w.heap.size w w2) := HB1.out.drew.trans (b2.mono (HB1.out.drew).size); clear b2)
        go_ret2
        have e := dict_stop HBG.out HX.out HA.out (by rw [HEB.out]; exact HZ.out)
        rw [HEB.out] at e
        exact ⟨_, by rw [e]; rfl, by rw [e, if_neg HZ.out]; exact Own.nil _ _, HB2.out⟩
    · have HE : Hid (dictE (ps.map un) = 0) := dict_fine HBG.out (by omega) HA.out
      obtain ⟨w1, hw1⟩ : ∃ w1, w1 = wr.alloc (.cells #[.string ⟨#[45, 45, 45]⟩] 9) := ⟨_, rfl⟩
      have HW1 : Hid (w1 = wr.alloc (.cells #[.string ⟨#[45, 45, 45]⟩] 9)) := hw1
      have B1 : Below wr.heap.size wr w1 := by rw [hw1]; exact (Below.refl _ wr).alloc (Nat.le_refl _) _
      have P1 : StrRow w1 wr.heap.size [⟨#[45, 45, 45]⟩] := by rw [hw1]; exact heap_alloc_new _ _
      have HB1 : Hid (Below w.heap.size w w1) := HB.out.trans (B1.mono HB.out.size)
      have HP1 : Hid (StrRow w1 wr.heap.size [⟨#[45, 45, 45]⟩]) := P1
      clear hw1 B1 P1
      go_wp2_with (go_at_call 43; rw [← HW1.out]; refine (addLine_any w1 w.heap.size (.slice none 0 0) [] wr.heap.size [⟨#[45, 45, 45]⟩] (Own.nil _ _) HP1.out HB1.out.size (by decide) (by decide)).mono ?_; rintro e w2 ⟨v2, rfl, o2, b2⟩)
      have HO2 : Hid (Own w2 w.heap.size v2 (dictL ((ps.take 0).map un))) := o2
      have HB2 : Hid (Below w.heap.size w w2) := HB1.out.trans b2
      clear o2 b2 HB1 HP1 HW1
      go_loopg [7, 33] ps.length (fun gk v i wr => ∃ k : Nat, i = .int .i64 k ∧ k ≤ ps.length ∧ ps.length - k ≤ gk ∧ Hid (Own wr w.heap.size v (dictL ((ps.take k).map un))) ∧ Hid (Below w.heap.size w wr))
      case atStart => exact ⟨0, rfl, Nat.zero_le _, Nat.le_refl _, HO2.out, HB2.out⟩
      case round =>
        clear HB HA HO2 HB2 hlt hk hgk
        obtain ⟨k, rfl, hk, hgk, HO, HB⟩ := hrel
        by_cases hlt : k < ps.length
        · obtain ⟨p, hp⟩ : ∃ p, ps[k]? = some p := ⟨_, List.getElem?_eq_getElem hlt⟩
          obtain ⟨b, o, rfl, hbw, c0, c1⟩ := (HS.out.below HB.out).at hp
          have HX : Hid (ps[k]? = some p) := hp
          clear hp
          obtain ⟨w2, hw2⟩ : ∃ w2, w2 = wr.alloc (.cells #[.string p.1, .string p.2] 41) := ⟨_, rfl⟩
          have HW2 : Hid (w2 = wr.alloc (.cells #[.string p.1, .string p.2] 41)) := hw2
          have B2 : Below wr.heap.size wr w2 := by rw [hw2]; exact (Below.refl _ wr).alloc (Nat.le_refl _) _
          have hbl : w2.heap[wr.heap.size]? = some (.cells #[.string p.1, .string p.2] 41 (0, 0)) := by rw [hw2]; exact heap_alloc_new _ _
          have m0 : w2.cell? ⟨wr.heap.size, 0, none⟩ = some (.string p.1) := by simp [World.cell?, hbl]
          have m1 : w2.cell? ⟨wr.heap.size, 1, none⟩ = some (.string p.2) := by simp [World.cell?, hbl]
          have hlt2 : wr.heap.size < w2.heap.size := cell_lt m0
          obtain ⟨w3, hw3⟩ : ∃ w3, w3 = w2.alloc (.cells #[.string p.1, .string ⟨#[58, 32]⟩, .string p.2] 9) := ⟨_, rfl⟩
          have HW3 : Hid (w3 = w2.alloc (.cells #[.string p.1, .string ⟨#[58, 32]⟩, .string p.2] 9)) := hw3
          have B3 : Below w2.heap.size w2 w3 := by rw [hw3]; exact (Below.refl _ w2).alloc (Nat.le_refl _) _
          have P3 : StrRow w3 w2.heap.size [p.1, ⟨#[58, 32]⟩, p.2] := by rw [hw3]; exact heap_alloc_new _ _
          have HB3 : Hid (Below wr.heap.size wr w3) := B2.trans (B3.mono B2.size)
          have hs2 : w2.heap.size = wr.heap.size + 1 := by rw [hw2]; simp
          have HP3 : Hid (StrRow w3 (wr.heap.size + 1) [p.1, ⟨#[58, 32]⟩, p.2]) := by rw [← hs2]; exact P3
          have HLk : Hid ((dictL ((ps.take k).map un)).length + (cat [p.1, ⟨#[58, 32]⟩, p.2]).length < 140737488355328) := by
            have h1 := dictL_le ps (k + 1)
            rw [dictL_take HX.out, List.length_append, List.length_append] at h1
            have h2 := HL.out
            show (dictL ((ps.take k).map un)).length + (cat [p.1, ⟨#[58, 32]⟩, p.2]).length < 140737488355328
            omega
          have hsz : Hid (w.heap.size ≤ w3.heap.size) := Nat.le_trans HB.out.size HB3.out.size
          clear hw2 hw3 B2 B3 P3 hbl m0 m1 hlt2 hs2
          go_wp2_with (go_at_call 43; rw [← HW2.out, ← HW3.out]; refine (addLine_any w3 w.heap.size _ _ (wr.heap.size + 1) [p.1, ⟨#[58, 32]⟩, p.2] (HO.out.below HB3.out) HP3.out hsz.out (by simp) HLk.out).mono ?_; rintro e w4 ⟨v4, rfl, o4, b4⟩)
          have HO4 : Hid (Own w4 w.heap.size v4 (dictL ((ps.take (k + 1)).map un))) := by show Own _ _ _ _; rw [dictL_take HX.out]; exact o4
          have HB4 : Hid (Below w.heap.size w w4) := (HB.out.trans (HB3.out.mono HB.out.size)).trans b4
          go_roundg (ps.length - (k + 1))
          case measure => omega
          case rel => exact ⟨k + 1, by go_num, by omega, Nat.le_refl _, HO4.out, HB4.out⟩
        · go_wp2_with fail
          go_ret2
          have e := HE.out
          refine ⟨_, by rw [e]; rfl, ?_, HB.out⟩
          have o := HO.out
          rw [List.take_of_length_le (by omega)] at o
          rw [if_pos e]
          exact o
end Go.Proofs.Ytimgjbjibkljhaa
