/-
  Pairs in memory; the walks of hasKey and checkPair.
-/
import Derived.Test.YtimgjbjibkljhaaSmall
namespace Go.Proofs.Ytimgjbjibkljhaa
open Go.RowKit

abbrev BP := ByteArray × ByteArray
def un (p : BP) : Pr := (p.1.data.toList, p.2.data.toList)
/-- The slice at 'a', of capacity c, has the pairs ps. -/
def IsPairs (w : World) (a : Option Addr) (c : Nat) (ps : List BP) : Prop :=
  ps.length ≤ c ∧ ps.length ≤ 140737488355328 ∧ (ps = [] ∨ ∃ b o, a = some ⟨b, o, none⟩ ∧ b < w.heap.size ∧ ∀ (j : Nat) p, ps[j]? = some p → w.cell? ⟨b, o + j * 2, none⟩ = some (.string p.1) ∧ w.cell? ⟨b, o + j * 2 + 1, none⟩ = some (.string p.2))
theorem IsPairs.below {w w' : World} {a : Option Addr} {c : Nat} {ps : List BP} (h : IsPairs w a c ps) (hb : Below w.heap.size w w') : IsPairs w' a c ps := by
  obtain ⟨h1, h2, h3⟩ := h
  refine ⟨h1, h2, ?_⟩
  rcases h3 with h | ⟨b, o, ha, hbk, hc⟩
  · exact .inl h
  · exact .inr ⟨b, o, ha, Nat.lt_of_lt_of_le hbk hb.size, fun j p hj => ⟨(hb.cell (p := ⟨b, o + j * 2, none⟩) hbk).trans (hc j p hj).1, (hb.cell (p := ⟨b, o + j * 2 + 1, none⟩) hbk).trans (hc j p hj).2⟩⟩
theorem data_inj {a b : ByteArray} (h : a.data.toList = b.data.toList) : a = b := by
  cases a; cases b
  simp only [ByteArray.mk.injEq]
  exact Array.toList_inj.1 h

def hasB (ps : List BP) (key : ByteArray) : Bool := decide (key.data.toList ∈ (ps.map un).map Prod.fst)
theorem has_yes {ps : List BP} {key : ByteArray} {k : Nat} {p : BP} (hk : ps[k]? = some p) (h : p.1 = key) : hasB ps key = true := by
  simp only [hasB, decide_eq_true_eq, List.mem_map]
  exact ⟨un p, ⟨p, List.mem_of_getElem? hk, rfl⟩, by rw [← h]; rfl⟩
theorem has_end {ps : List BP} {key : ByteArray} {k : Nat} (hk : ps.length ≤ k) (h : ∀ j p, j < k → ps[j]? = some p → p.1 ≠ key) : hasB ps key = false := by
  simp only [hasB, decide_eq_false_iff_not, List.mem_map]
  rintro ⟨q, ⟨p, hp, rfl⟩, he⟩
  obtain ⟨j, hj⟩ := List.getElem?_of_mem hp
  exact h j p (by have := (List.getElem?_eq_some_iff.1 hj).1; omega) hj (data_inj he)

theorem has_step {ps : List BP} {key : ByteArray} {k : Nat} {p : BP} (hk : ps[k]? = some p) (hne : p.1 ≠ key) (h : ∀ j p, j < k → ps[j]? = some p → p.1 ≠ key) : ∀ j p, j < k + 1 → ps[j]? = some p → p.1 ≠ key := by
  intro j q hj hq
  by_cases hjk : j < k
  · exact h j q hjk hq
  · obtain rfl : j = k := by omega
    rw [hk] at hq
    cases hq
    exact hne
theorem list_inj {a b : ByteArray} (h : a.toList = b.toList) : a = b := by
  rw [ByteArray.toList_eq, ByteArray.toList_eq] at h
  exact WideShapes.bytes_inj h

set_option maxHeartbeats 1000000 in
set_option maxRecDepth 1000000 in
theorem hasKey_any (a : Option Addr) (c : Nat) (ps : List BP) (key : ByteArray) (w : World) (h : IsPairs w a c ps) :
    Calls Try.prog 47 #[.slice a ps.length c, .string key] w fun e w' => e = .returned (.bool (hasB ps key)) ∧ Below w.heap.size w w' := by
  obtain ⟨h1, h2, h3⟩ := h
  rcases h3 with rfl | ⟨b, o, rfl, hb, hc⟩
  · go_enter Try.func47, Try.ntmps47
    go_wp2
    go_loop [9] (fun i => i = .int .i64 0) (fun _ => 0)
    case atStart => rfl
    case round =>
      subst hrel
      go_wp2
      go_ret
      exact ⟨rfl, Below.refl _ _⟩
  · have HC : Hid (∀ (j : Nat) p, ps[j]? = some p → w.cell? ⟨b, o + j * 2, none⟩ = some (.string p.1) ∧ w.cell? ⟨b, o + j * 2 + 1, none⟩ = some (.string p.2)) := hc
    have HBW : Hid (b < w.heap.size) := hb
    clear hc hb
    go_enter Try.func47, Try.ntmps47
    go_wp2
    go_loopg [9] ps.length (fun gk i wr => ∃ k : Nat, i = .int .i64 k ∧ k ≤ ps.length ∧ ps.length - k ≤ gk ∧ Hid (Below w.heap.size w wr) ∧ Hid (∀ j p, j < k → ps[j]? = some p → p.1 ≠ key))
    case atStart => exact ⟨0, rfl, Nat.zero_le _, Nat.le_refl _, Below.refl _ _, fun j p hj => by omega⟩
    case round =>
      obtain ⟨k, rfl, hk, hgk, HB, HA⟩ := hrel
      by_cases hp : k < ps.length
      · obtain ⟨p, hpk⟩ : ∃ p, ps[k]? = some p := ⟨_, List.getElem?_eq_getElem hp⟩
        have c0 : wr.cell? ⟨b, o + k * 2, none⟩ = some (.string p.1) := (HB.out.cell (p := ⟨b, o + k * 2, none⟩) HBW.out).trans (HC.out k p hpk).1
        have c1 : wr.cell? ⟨b, o + k * 2 + 1, none⟩ = some (.string p.2) := (HB.out.cell (p := ⟨b, o + k * 2 + 1, none⟩) HBW.out).trans (HC.out k p hpk).2
        have HPK : Hid (ps[k]? = some p) := hpk
        have hbr : b < wr.heap.size := Nat.lt_of_lt_of_le HBW.out HB.out.size
        clear hpk
        by_cases he : p.1 = key
        · have hxx : (p.1.toList == key.toList) = true := by rw [he]; simp
          have HE : Hid (p.1 = key) := he
          clear he
          go_wp2_with fail
          go_ret
          exact ⟨by rw [has_yes HPK.out HE.out]; rfl, HB.out.alloc HB.out.size _⟩
        · have hxx : (p.1.toList == key.toList) = false := by rw [beq_eq_false_iff_ne]; exact fun e => he (list_inj e)
          have HE : Hid (p.1 ≠ key) := he
          clear he
          go_wp2_with fail
          go_roundg (ps.length - (k + 1))
          case measure => omega
          case rel => exact ⟨k + 1, by go_num, by omega, Nat.le_refl _, HB.out.alloc HB.out.size _, has_step HPK.out HE.out HA.out⟩
      · go_wp2_with fail
        go_ret
        exact ⟨by rw [has_end (by omega) HA.out]; rfl, HB.out⟩

theorem check_key {ps : List BP} {p : BP} (h : keyB p.1.data.toList = false) : checkE (ps.map un) (un p) = 90 := by
  unfold checkE un
  rw [if_pos (.inl h)]
theorem check_has {ps : List BP} {p : BP} (h : hasB ps p.1 = true) : checkE (ps.map un) (un p) = 90 := by
  unfold checkE
  rw [if_pos (.inr (of_decide_eq_true h))]
theorem check_text {ps : List BP} {p : BP} (h1 : keyB p.1.data.toList = true) (h2 : hasB ps p.1 = false) (h3 : textB p.2.data.toList = false) : checkE (ps.map un) (un p) = 91 := by
  unfold checkE
  rw [if_neg, if_neg]
  · show ¬ textB p.2.data.toList = true
    rw [h3]; simp
  · rintro (h | h)
    · have : keyB p.1.data.toList = false := h
      rw [h1] at this; cases this
    · simp only [hasB, decide_eq_false_iff_not] at h2
      exact h2 h
theorem check_fine {ps : List BP} {p : BP} (h1 : keyB p.1.data.toList = true) (h2 : hasB ps p.1 = false) (h3 : textB p.2.data.toList = true) : checkE (ps.map un) (un p) = 0 := by
  unfold checkE
  rw [if_neg, if_pos]
  · exact h3
  · rintro (h | h)
    · have : keyB p.1.data.toList = false := h
      rw [h1] at this; cases this
    · simp only [hasB, decide_eq_false_iff_not] at h2
      exact h2 h

set_option maxHeartbeats 1000000 in
set_option maxRecDepth 1000000 in
theorem checkPair_any (a : Option Addr) (c : Nat) (ps : List BP) (p : BP) (w : World) (h : IsPairs w a c ps) :
    Calls Try.prog 39 #[.slice a ps.length c, .agg #[.string p.1, .string p.2]] w fun e w' => e = .returned (.int .i64 (checkE (ps.map un) (un p))) ∧ Below w.heap.size w w' := by
  obtain ⟨kb, hkb⟩ : ∃ kb, keyB p.1.data.toList = kb := ⟨_, rfl⟩
  obtain ⟨hb, hhb⟩ : ∃ hb, hasB ps p.1 = hb := ⟨_, rfl⟩
  obtain ⟨tb, htb⟩ : ∃ tb, textB p.2.data.toList = tb := ⟨_, rfl⟩
  obtain ⟨w1, hw1⟩ : ∃ w1, w1 = w.alloc (.cells #[.string p.1, .string p.2] 41) := ⟨_, rfl⟩
  have B1 : Below w.heap.size w w1 := by rw [hw1]; exact (Below.refl _ w).alloc (Nat.le_refl _) _
  have hbl : w1.heap[w.heap.size]? = some (.cells #[.string p.1, .string p.2] 41 (0, 0)) := by rw [hw1]; exact heap_alloc_new _ _
  have m0 : w1.cell? ⟨w.heap.size, 0, none⟩ = some (.string p.1) := by simp [World.cell?, hbl]
  have m1 : w1.cell? ⟨w.heap.size, 1, none⟩ = some (.string p.2) := by simp [World.cell?, hbl]
  have hlt : w.heap.size < w1.heap.size := cell_lt m0
  have HI : Hid (IsPairs w1 a c ps) := h.below B1
  have HB1 : Hid (Below w.heap.size w w1) := B1
  have HW1 : Hid (w1 = w.alloc (.cells #[.string p.1, .string p.2] 41)) := hw1
  have HK : Hid (keyB p.1.data.toList = kb) := hkb
  have HH : Hid (hasB ps p.1 = hb) := hhb
  have HT : Hid (textB p.2.data.toList = tb) := htb
  clear h B1 hbl hw1 hkb hhb htb
  cases kb
  · go_enter Try.func39, Try.ntmps39
    go_wp2_with (first
      | (go_at_call 46; rw [← HW1.out]; refine (isKey_any p.1 _).mono ?_; rintro e w' ⟨rfl, hw'⟩; obtain rfl := hw'.symm; rw [HK.out]))
    go_ret
    exact ⟨by rw [check_key HK.out]; rfl, HB1.out⟩
  · cases hb
    · cases tb
      · go_enter Try.func39, Try.ntmps39
        go_wp2_with (first
          | (go_at_call 46; rw [← HW1.out]; refine (isKey_any p.1 _).mono ?_; rintro e w' ⟨rfl, hw'⟩; obtain rfl := hw'.symm; rw [HK.out])
          | (go_at_call 47; refine (hasKey_any a c ps p.1 _ HI.out).mono ?_; rintro e w2 ⟨rfl, B2⟩; rw [HH.out]; have n1 : w2.cell? ⟨w.heap.size, 1, none⟩ = some (.string p.2) := (B2.cell (p := ⟨w.heap.size, 1, none⟩) hlt).trans m1; have HB2 : Hid (Below w1.heap.size w1 w2) := B2; clear B2)
          | (go_at_call 35; refine (isText_any p.2 _).mono ?_; rintro e w' ⟨rfl, hw'⟩; obtain rfl := hw'.symm; rw [HT.out]))
        go_ret
        exact ⟨by rw [check_text HK.out HH.out HT.out]; rfl, HB1.out.trans (HB2.out.mono HB1.out.size)⟩
      · go_enter Try.func39, Try.ntmps39
        go_wp2_with (first
          | (go_at_call 46; rw [← HW1.out]; refine (isKey_any p.1 _).mono ?_; rintro e w' ⟨rfl, hw'⟩; obtain rfl := hw'.symm; rw [HK.out])
          | (go_at_call 47; refine (hasKey_any a c ps p.1 _ HI.out).mono ?_; rintro e w2 ⟨rfl, B2⟩; rw [HH.out]; have n1 : w2.cell? ⟨w.heap.size, 1, none⟩ = some (.string p.2) := (B2.cell (p := ⟨w.heap.size, 1, none⟩) hlt).trans m1; have HB2 : Hid (Below w1.heap.size w1 w2) := B2; clear B2)
          | (go_at_call 35; refine (isText_any p.2 _).mono ?_; rintro e w' ⟨rfl, hw'⟩; obtain rfl := hw'.symm; rw [HT.out]))
        go_ret
        exact ⟨by rw [check_fine HK.out HH.out HT.out]; rfl, HB1.out.trans (HB2.out.mono HB1.out.size)⟩
    · go_enter Try.func39, Try.ntmps39
      go_wp2_with (first
        | (go_at_call 46; rw [← HW1.out]; refine (isKey_any p.1 _).mono ?_; rintro e w' ⟨rfl, hw'⟩; obtain rfl := hw'.symm; rw [HK.out])
        | (go_at_call 47; refine (hasKey_any a c ps p.1 _ HI.out).mono ?_; rintro e w2 ⟨rfl, B2⟩; rw [HH.out]; have HB2 : Hid (Below w1.heap.size w1 w2) := B2; clear B2))
      go_ret
      exact ⟨by rw [check_has HH.out]; rfl, HB1.out.trans (HB2.out.mono HB1.out.size)⟩
end Go.Proofs.Ytimgjbjibkljhaa
