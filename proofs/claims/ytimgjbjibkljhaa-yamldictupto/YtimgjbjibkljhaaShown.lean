/-
  The walk of shown.
-/
import Derived.Test.YtimgjbjibkljhaaReadD
namespace Go.Proofs.Ytimgjbjibkljhaa
open Go.RowKit

theorem StrRow.is {w : World} {g : Nat} {ss : List ByteArray} (h : StrRow w g ss) (hl : ss.length ≤ 100) : IsStrs w (some ⟨g, 0, none⟩) ss.length ss :=
  ⟨Nat.le_refl _, by unfold maxLen; omega, .inr ⟨g, 0, rfl, h.lt, fun j x hj => by rw [Nat.zero_add]; exact h.cell j x hj⟩⟩
theorem pair_is {w : World} {g : Nat} {p : BP} (h : w.heap[g]? = some (.cells #[.string p.1, .string p.2] 41 (0, 0))) : IsPairs w (some ⟨g, 0, none⟩) 1 [p] := by
  refine ⟨by simp, by simp, .inr ⟨g, 0, rfl, (Array.getElem?_eq_some_iff.1 h).1, fun j q hj => ?_⟩⟩
  cases j with
  | zero =>
    simp at hj; subst hj
    constructor <;> simp [World.cell?, h]
  | succ j => simp at hj
theorem list_one {us vs : List Txt} (h1 : ∀ t ∈ us, textB t = true) (h2 : ∀ t ∈ vs, textB t = true) (h : listL us = listL vs) : us = vs := by
  obtain ⟨r, hr, he⟩ := lines_strip us vs [] h1 h2 (by rw [List.append_nil]; exact List.append_cancel_left h)
  cases r with
  | nil => simpa using hr.symm
  | cons t r => simp [linesL, lineL] at he
theorem dict_one {us vs : List Pr} (h1 : okF [] us) (h2 : okF [] vs) (h : dictL us = dictL vs) : us = vs := by
  obtain ⟨r, hr, he⟩ := pairs_strip us vs [] [] h1 h2 (by rw [List.append_nil]; exact List.append_cancel_left h)
  cases r with
  | nil => simpa using hr.symm
  | cons t r => simp [pairsL, pairL] at he
theorem readT_one {b : Txt} {er : Int} {ts us : List ByteArray} (h : readT b er ts) (hus : ∀ t ∈ us, textB (tx t) = true) (hb : b = listL (us.map tx)) : er = 0 ∧ ts = us := by
  have hus' : ∀ t ∈ us.map tx, textB t = true := fun t ht => by obtain ⟨s, hs, rfl⟩ := List.mem_map.1 ht; exact hus s hs
  rcases h with ⟨rfl, h1, h2⟩ | ⟨_, _, h3⟩
  · refine ⟨rfl, ?_⟩
    have h1' : ∀ t ∈ ts.map tx, textB t = true := fun t ht => by obtain ⟨s, hs, rfl⟩ := List.mem_map.1 ht; exact h1 s hs
    exact List.map_inj_right (fun _ _ e => data_inj e) |>.1 (list_one h1' hus' (h2.symm.trans hb))
  · exact absurd hb (h3 _ hus')
theorem un_inj {p q : BP} (h : un p = un q) : p = q := by
  unfold un at h
  simp only [Prod.mk.injEq] at h
  exact Prod.ext (data_inj h.1) (data_inj h.2)
theorem readD_one {b : Txt} {er : Int} {ts us : List BP} (h : readD b er ts) (hl : us.length ≤ 256) (hus : okF [] (us.map un)) (hb : b = dictL (us.map un)) : er = 0 ∧ ts = us := by
  rcases h with ⟨rfl, _, h1, h2⟩ | ⟨_, _, h3⟩
  · exact ⟨rfl, List.map_inj_right (fun _ _ e => un_inj e) |>.1 (dict_one h1 hus (h2.symm.trans hb))⟩
  · exact absurd hb (h3 _ (by simpa using hl) hus)
theorem Strs.is1 {W : World} {B : Nat} {v : Value} {ts : List ByteArray} (h : Strs W B v ts) (hl : ts.length ≤ 140737488355328 := by decide) : ∃ a c, v = .slice a ts.length c ∧ IsStrs W a c ts := by
  rcases h.2 with ⟨rfl, h0⟩ | ⟨g, cap, cur, rfl, hB, hg, hnc, hcm, hcs, htake⟩
  · obtain rfl : ts = [] := List.eq_nil_of_length_eq_zero h0
    exact ⟨none, 0, rfl, by simp, by simp, .inl rfl⟩
  · refine ⟨_, cap, rfl, hnc, by unfold maxLen; omega, .inr ⟨g, 0, rfl, (Array.getElem?_eq_some_iff.1 hg).1, fun j x hj => ?_⟩⟩
    have a1 := h.cells (g := g) rfl j (.string x) (by simp [hj])
    rw [Go.WideShapes.add_plain, Nat.zero_add] at a1
    rw [Nat.zero_add]
    exact a1
def nm : BP := (⟨#[110, 97, 109, 101]⟩, ⟨#[97, 58, 98]⟩)
def kv : BP := (⟨#[107]⟩, ⟨#[118]⟩)
def dfa : List ByteArray := [⟨#[100, 101, 102, 97, 117, 108, 116]⟩, ⟨#[97]⟩]
theorem nm_ok : dictE ([nm].map un) = 0 := by decide
theorem dfa_ok : allT dfa = true := by decide
theorem kv_ok : okF [] ([kv].map un) := ⟨by decide, trivial⟩
theorem one_ok : ∀ t ∈ ([⟨#[97]⟩] : List ByteArray), textB (tx t) = true := by
  intro t ht
  simp at ht; subst ht; decide

set_option maxHeartbeats 4000000 in
set_option maxRecDepth 1000000 in
theorem shown_any (w : World) (hm : MaxAt w) :
    Calls Try.prog 9 #[] w fun e w' => e = .returned (.bool true) ∧ Below w.heap.size w w' := by
  have HM : Hid (MaxAt w) := hm
  clear hm
  obtain ⟨w1, hw1⟩ : ∃ w1, w1 = w.alloc (.cells #[.string ⟨#[100, 101, 102, 97, 117, 108, 116]⟩, .string ⟨#[97]⟩] 9) := ⟨_, rfl⟩
  have HW1 : Hid (w1 = w.alloc (.cells #[.string ⟨#[100, 101, 102, 97, 117, 108, 116]⟩, .string ⟨#[97]⟩] 9)) := hw1
  have B1 : Below w.heap.size w w1 := by rw [hw1]; exact (Below.refl _ w).alloc (Nat.le_refl _) _
  have P1 : StrRow w1 w.heap.size dfa := by rw [hw1]; exact heap_alloc_new _ _
  have HB1 : Hid (Below w.heap.size w w1) := B1
  have HI1 : Hid (IsStrs w1 (some ⟨w.heap.size, 0, none⟩) 2 dfa) := P1.is (by decide)
  clear hw1 B1 P1
  go_enter Try.func9, Try.ntmps9
  go_upto_region 2 with (go_at_call 27; rw [← HW1.out]; refine (list_any (some ⟨w.heap.size, 0, none⟩) 2 dfa w1 HI1.out (by decide)).mono ?_; rintro e w2 ⟨v2, rfl, o2, b2⟩; rw [dfa_ok, if_pos rfl] at o2; rw [dfa_ok, if_pos rfl])
  have HO2 : Hid (Own w2 w1.heap.size v2 (listL (dfa.map tx))) := o2
  have HB2 : Hid (Below w.heap.size w w2) := HB1.out.trans (b2.mono HB1.out.size)
  clear o2 b2
  obtain ⟨w3, hw3⟩ : ∃ w3, w3 = w2.alloc (.cells #[.string nm.1, .string nm.2] 41) := ⟨_, rfl⟩
  have HW3 : Hid (w3 = w2.alloc (.cells #[.string ⟨#[110, 97, 109, 101]⟩, .string ⟨#[97, 58, 98]⟩] 41)) := hw3
  have B3 : Below w2.heap.size w2 w3 := by rw [hw3]; exact (Below.refl _ w2).alloc (Nat.le_refl _) _
  have P3 : w3.heap[w2.heap.size]? = some (.cells #[.string nm.1, .string nm.2] 41 (0, 0)) := by rw [hw3]; exact heap_alloc_new _ _
  have HB3 : Hid (Below w.heap.size w w3) := HB2.out.trans (B3.mono HB2.out.size)
  have HO3 : Hid (Own w3 w1.heap.size v2 (listL (dfa.map tx))) := HO2.out.below B3
  have HI3 : Hid (IsPairs w3 (some ⟨w2.heap.size, 0, none⟩) 1 [nm]) := pair_is P3
  clear hw3 B3 P3 HO2 HB2 HI1
  go_upto_region 3 with (go_at_call 29; rw [← HW3.out]; refine (dict_any (some ⟨w2.heap.size, 0, none⟩) 1 [nm] w3 HI3.out (by decide)).mono ?_; rintro e w4 ⟨v4, rfl, o4, b4⟩; rw [if_pos nm_ok] at o4; rw [nm_ok])
  have HO4 : Hid (Own w4 w3.heap.size v4 (dictL ([nm].map un))) := o4
  have HB4 : Hid (Below w.heap.size w w4) := HB3.out.trans (b4.mono HB3.out.size)
  have HP4 : Hid (Own w4 w1.heap.size v2 (listL (dfa.map tx))) := HO3.out.below b4
  clear o4 b4 HO3 HB3 HI3
  obtain ⟨w5, hw5⟩ : ∃ w5, w5 = w4.alloc (.cells #[.int .u8 45, .int .u8 45, .int .u8 45, .int .u8 10, .int .u8 45, .int .u8 32, .int .u8 97, .int .u8 10] 5 (8, 9)) := ⟨_, rfl⟩
  have HW5 : Hid (w5 = w4.alloc (.cells #[.int .u8 45, .int .u8 45, .int .u8 45, .int .u8 10, .int .u8 45, .int .u8 32, .int .u8 97, .int .u8 10] 5 (8, 9))) := hw5
  have B5 : Below w4.heap.size w4 w5 := by rw [hw5]; exact (Below.refl _ w4).alloc (Nat.le_refl _) _
  have P5 : w5.heap[w4.heap.size]? = some (.cells (u8s [45, 45, 45, 10, 45, 32, 97, 10]).toArray 5 (8, 9)) := by rw [hw5]; exact heap_alloc_new _ _
  have HI5 : Hid (IsBytes w5 (some ⟨w4.heap.size, 0, none⟩) 8 [45, 45, 45, 10, 45, 32, 97, 10]) := const_is [45, 45, 45, 10, 45, 32, 97, 10] P5 (by decide)
  have HB5 : Hid (Below w.heap.size w w5) := HB4.out.trans (B5.mono HB4.out.size)
  have HO5 : Hid (Own w5 w3.heap.size v4 (dictL ([nm].map un))) := HO4.out.below B5
  have HP5 : Hid (Own w5 w1.heap.size v2 (listL (dfa.map tx))) := HP4.out.below B5
  have kc := conv_new w4 #[.int .u8 45, .int .u8 45, .int .u8 45, .int .u8 10, .int .u8 45, .int .u8 32, .int .u8 97, .int .u8 10] 8 8
  clear hw5 B5 P5 HO4 HP4 HB4
  go_upto_region 4 with (go_at_call 15; rw [← HW5.out]; refine (readList_any (some ⟨w4.heap.size, 0, none⟩) 8 [45, 45, 45, 10, 45, 32, 97, 10] w5 HI5.out (by decide)).mono ?_; rintro e w6 ⟨v6, er, ts, rfl, r6, s6, b6⟩; obtain ⟨rfl, rfl⟩ := readT_one (us := [⟨#[97]⟩]) r6 one_ok (by decide); clear r6)
  have HB6 : Hid (Below w.heap.size w w6) := HB5.out.trans (b6.mono HB5.out.size)
  have HO6 : Hid (Own w6 w3.heap.size v4 (dictL ([nm].map un))) := HO5.out.below b6
  have HP6 : Hid (Own w6 w1.heap.size v2 (listL (dfa.map tx))) := HP5.out.below b6
  have HS6 : Hid (Strs w6 w5.heap.size v6 [⟨#[97]⟩]) := s6
  clear b6 s6 HO5 HP5 HB5 kc HI5
  obtain ⟨w7, hw7⟩ : ∃ w7, w7 = w6.alloc (.cells #[.int .u8 45, .int .u8 45, .int .u8 45, .int .u8 10, .int .u8 107, .int .u8 58, .int .u8 32, .int .u8 118, .int .u8 10] 5 (9, 10)) := ⟨_, rfl⟩
  have HW7 : Hid (w7 = w6.alloc (.cells #[.int .u8 45, .int .u8 45, .int .u8 45, .int .u8 10, .int .u8 107, .int .u8 58, .int .u8 32, .int .u8 118, .int .u8 10] 5 (9, 10))) := hw7
  have B7 : Below w6.heap.size w6 w7 := by rw [hw7]; exact (Below.refl _ w6).alloc (Nat.le_refl _) _
  have P7 : w7.heap[w6.heap.size]? = some (.cells (u8s [45, 45, 45, 10, 107, 58, 32, 118, 10]).toArray 5 (9, 10)) := by rw [hw7]; exact heap_alloc_new _ _
  have HI7 : Hid (IsBytes w7 (some ⟨w6.heap.size, 0, none⟩) 9 [45, 45, 45, 10, 107, 58, 32, 118, 10]) := const_is [45, 45, 45, 10, 107, 58, 32, 118, 10] P7 (by decide)
  have HB7 : Hid (Below w.heap.size w w7) := HB6.out.trans (B7.mono HB6.out.size)
  have HO7 : Hid (Own w7 w3.heap.size v4 (dictL ([nm].map un))) := HO6.out.below B7
  have HP7 : Hid (Own w7 w1.heap.size v2 (listL (dfa.map tx))) := HP6.out.below B7
  have HS7 : Hid (Strs w7 w5.heap.size v6 [⟨#[97]⟩]) := HS6.out.below B7
  have HM7 : Hid (MaxAt w7) := HM.out.below HB7.out
  have kc := conv_new w6 #[.int .u8 45, .int .u8 45, .int .u8 45, .int .u8 10, .int .u8 107, .int .u8 58, .int .u8 32, .int .u8 118, .int .u8 10] 9 9
  clear hw7 B7 P7 HO6 HP6 HB6 HS6
  go_upto_region 5 with (go_at_call 21; rw [← HW7.out]; refine (readDict_any (some ⟨w6.heap.size, 0, none⟩) 9 [45, 45, 45, 10, 107, 58, 32, 118, 10] w7 HI7.out (by decide) HM7.out).mono ?_; rintro e w8 ⟨v8, er, ts, rfl, r8, s8, b8⟩; obtain ⟨rfl, rfl⟩ := readD_one (us := [kv]) r8 (by decide) kv_ok (by decide); clear r8)
  have HB8 : Hid (Below w.heap.size w w8) := HB7.out.trans (b8.mono HB7.out.size)
  have o8 := HO7.out.below b8
  have p8 := HP7.out.below b8
  have q8 := HS7.out.below b8
  rw [show dictL ([nm].map un) = [45, 45, 45, 10, 110, 97, 109, 101, 58, 32, 97, 58, 98, 10] by decide] at o8
  rw [show listL (dfa.map tx) = [45, 45, 45, 10, 45, 32, 100, 101, 102, 97, 117, 108, 116, 10, 45, 32, 97, 10] by decide] at p8
  obtain ⟨a4, c4, rfl, i4⟩ := o8.shape
  obtain ⟨a2, c2, rfl, i2⟩ := p8.shape
  have k4 := conv_is i4 rfl
  have k2 := conv_is i2 rfl
  obtain ⟨a6, c6, rfl, i6⟩ := q8.is1
  obtain ⟨b6, o6, rfl, hb6, d6⟩ := i6.at (j := 0) rfl
  obtain ⟨a8, c8, rfl, i8⟩ := s8.is (by decide)
  obtain ⟨g8, n8, rfl, hg8, d80, d81⟩ := i8.at (j := 0) rfl
  clear o8 p8 q8 s8 i4 i2 i6 i8 b8 kc HO7 HP7 HS7 HB7 HI7
  simp only [List.length_cons, List.length_nil, Nat.zero_add, Nat.reduceAdd, Nat.add_zero, Nat.zero_mul, kv] at k4 k2 d6 d80 d81 ⊢
  go_wp2_with fail
  all_goals go_ret
  exact ⟨rfl, HB8.out⟩
end Go.Proofs.Ytimgjbjibkljhaa
