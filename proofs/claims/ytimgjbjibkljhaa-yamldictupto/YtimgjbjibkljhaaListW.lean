/-
  Lists of texts in memory; the walk of List.
-/
import Derived.Test.YtimgjbjibkljhaaLine
namespace Go.Proofs.Ytimgjbjibkljhaa
open Go.RowKit

/-- The slice at 'a', of capacity c, has the texts ss. -/
def IsStrs (w : World) (a : Option Addr) (c : Nat) (ss : List ByteArray) : Prop :=
  ss.length ≤ c ∧ ss.length ≤ maxLen ∧ (ss = [] ∨ ∃ b o, a = some ⟨b, o, none⟩ ∧ b < w.heap.size ∧ ∀ (j : Nat) x, ss[j]? = some x → w.cell? ⟨b, o + j, none⟩ = some (.string x))
theorem IsStrs.below {w w' : World} {a : Option Addr} {c : Nat} {ss : List ByteArray} (h : IsStrs w a c ss) (hb : Below w.heap.size w w') : IsStrs w' a c ss := by
  obtain ⟨h1, h2, h3⟩ := h
  refine ⟨h1, h2, ?_⟩
  rcases h3 with h | ⟨b, o, ha, hbk, hc⟩
  · exact .inl h
  · exact .inr ⟨b, o, ha, Nat.lt_of_lt_of_le hbk hb.size, fun j x hj => (hb.cell (p := ⟨b, o + j, none⟩) hbk).trans (hc j x hj)⟩
theorem IsStrs.at {w : World} {a : Option Addr} {c : Nat} {ss : List ByteArray} (h : IsStrs w a c ss) {j : Nat} {x : ByteArray} (hx : ss[j]? = some x) : ∃ b o, a = some ⟨b, o, none⟩ ∧ b < w.heap.size ∧ w.cell? ⟨b, o + j, none⟩ = some (.string x) := by
  rcases h.2.2 with rfl | ⟨b, o, ha, hb, hc⟩
  · simp at hx
  · exact ⟨b, o, ha, hb, hc j x hx⟩

abbrev tx (s : ByteArray) : Txt := s.data.toList
def allT (ts : List ByteArray) : Bool := ts.all fun s => textB (tx s)
theorem allT_take {ts : List ByteArray} {k : Nat} {x : ByteArray} (h : ts[k]? = some x) (ha : ∀ t ∈ ts.take k, textB (tx t) = true) (hx : textB (tx x) = true) : ∀ t ∈ ts.take (k + 1), textB (tx t) = true := by
  intro t ht
  rw [List.take_add_one, h] at ht
  rcases List.mem_append.1 ht with ht | ht
  · exact ha t ht
  · simp at ht; subst ht; exact hx
theorem allT_no {ts : List ByteArray} {k : Nat} {x : ByteArray} (h : ts[k]? = some x) (hx : textB (tx x) = false) : allT ts = false := by
  rw [Bool.eq_false_iff]
  intro ha
  have := List.all_eq_true.1 ha x (List.mem_of_getElem? h)
  rw [hx] at this
  cases this
theorem allT_end {ts : List ByteArray} {k : Nat} (h : ts.length ≤ k) (ha : ∀ t ∈ ts.take k, textB (tx t) = true) : allT ts = true := by
  rw [List.take_of_length_le h] at ha
  exact List.all_eq_true.2 ha
theorem listL_take {ts : List ByteArray} {k : Nat} {x : ByteArray} (h : ts[k]? = some x) : listL ((ts.take (k + 1)).map tx) = listL ((ts.take k).map tx) ++ cat [⟨#[45, 32]⟩, x] ++ [10] := by
  rw [List.take_add_one, h]
  simp [listL, linesL, lineL, cat]
theorem listL_le (ts : List ByteArray) (k : Nat) : (listL ((ts.take k).map tx)).length ≤ (listL (ts.map tx)).length := by
  have : ts.map tx = (ts.take k).map tx ++ (ts.drop k).map tx := by rw [← List.map_append, List.take_append_drop]
  rw [this]
  unfold listL
  rw [lines_append, List.length_append, List.length_append, List.length_append]
  omega
def ListPost (ts : List ByteArray) (w : World) (e : Ending) (w' : World) : Prop := ∃ v, e = .returned (.tuple #[v, .int .i64 (if allT ts then 0 else 91)]) ∧ Own w' w.heap.size v (if allT ts then listL (ts.map tx) else []) ∧ Below w.heap.size w w'

set_option maxHeartbeats 1000000 in
set_option maxRecDepth 1000000 in
theorem list_any (a : Option Addr) (c : Nat) (ts : List ByteArray) (w : World) (h : IsStrs w a c ts) (hb : (listL (ts.map tx)).length < 140737488355328) :
    Calls Try.prog 27 #[.slice a ts.length c] w (ListPost ts w) := by
  have HS : Hid (IsStrs w a c ts) := h
  have HL : Hid ((listL (ts.map tx)).length < 140737488355328) := hb
  have hlen : (ts.length : Int) ≤ 9223372036854775807 := by have := h.2.1; unfold maxLen at this; omega
  clear h hb
  go_enter Try.func27, Try.ntmps27
  go_wp2
  go_loopg [11] ts.length (fun gk i wr => ∃ k : Nat, i = .int .i64 k ∧ k ≤ ts.length ∧ ts.length - k ≤ gk ∧ wr = w ∧ Hid (∀ t ∈ ts.take k, textB (tx t) = true))
  case atStart => exact ⟨0, rfl, Nat.zero_le _, Nat.le_refl _, rfl, fun t ht => by simp at ht⟩
  case round =>
    obtain ⟨k, rfl, hk, hgk, hwr, HA⟩ := hrel
    obtain rfl := hwr.symm
    by_cases hlt : k < ts.length
    · obtain ⟨x, hx⟩ : ∃ x, ts[k]? = some x := ⟨_, List.getElem?_eq_getElem hlt⟩
      obtain ⟨b, o, rfl, hbw, c0⟩ := HS.out.at hx
      have HX : Hid (ts[k]? = some x) := hx
      clear hx
      obtain ⟨tb, htb⟩ : ∃ tb, textB (tx x) = tb := ⟨_, rfl⟩
      have HT : Hid (textB (tx x) = tb) := htb
      clear htb
      cases tb
      · go_wp2_with (go_at_call 35; refine (isText_any x _).mono ?_; rintro e w' ⟨rfl, hw'⟩; obtain rfl := hw'.symm; rw [HT.out])
        go_ret2
        have e := allT_no HX.out HT.out
        exact ⟨_, by rw [e]; rfl, by rw [e]; exact Own.nil _ _, Below.refl _ _⟩
      · go_wp2_with (go_at_call 35; refine (isText_any x _).mono ?_; rintro e w' ⟨rfl, hw'⟩; obtain rfl := hw'.symm; rw [HT.out])
        go_roundg (ts.length - (k + 1))
        case measure => omega
        case rel => exact ⟨k + 1, by go_num, by omega, Nat.le_refl _, rfl, allT_take HX.out HA.out HT.out⟩
    · have HE : Hid (allT ts = true) := allT_end (by omega) HA.out
      obtain ⟨w1, hw1⟩ : ∃ w1, w1 = w.alloc (.cells #[.string ⟨#[45, 45, 45]⟩] 9) := ⟨_, rfl⟩
      have HW1 : Hid (w1 = w.alloc (.cells #[.string ⟨#[45, 45, 45]⟩] 9)) := hw1
      have B1 : Below w.heap.size w w1 := by rw [hw1]; exact (Below.refl _ w).alloc (Nat.le_refl _) _
      have P1 : StrRow w1 w.heap.size [⟨#[45, 45, 45]⟩] := by rw [hw1]; exact heap_alloc_new _ _
      have HB1 : Hid (Below w.heap.size w w1) := B1
      have HP1 : Hid (StrRow w1 w.heap.size [⟨#[45, 45, 45]⟩]) := P1
      clear hw1 B1 P1
      go_wp2_with (go_at_call 43; rw [← HW1.out]; refine (addLine_any w1 w.heap.size (.slice none 0 0) [] w.heap.size [⟨#[45, 45, 45]⟩] (Own.nil _ _) HP1.out HB1.out.size (by decide) (by decide)).mono ?_; rintro e w2 ⟨v2, rfl, o2, b2⟩)
      have HO2 : Hid (Own w2 w.heap.size v2 (listL ((ts.take 0).map tx))) := o2
      have HB2 : Hid (Below w.heap.size w w2) := HB1.out.trans b2
      clear o2 b2 HB1 HP1 HW1
      go_loopg [6, 23] ts.length (fun gk v i wr => ∃ k : Nat, i = .int .i64 k ∧ k ≤ ts.length ∧ ts.length - k ≤ gk ∧ Hid (Own wr w.heap.size v (listL ((ts.take k).map tx))) ∧ Hid (Below w.heap.size w wr))
      case atStart => exact ⟨0, rfl, Nat.zero_le _, Nat.le_refl _, HO2.out, HB2.out⟩
      case round =>
        obtain ⟨k, rfl, hk, hgk, HO, HB⟩ := hrel
        by_cases hlt : k < ts.length
        · obtain ⟨x, hx⟩ : ∃ x, ts[k]? = some x := ⟨_, List.getElem?_eq_getElem hlt⟩
          obtain ⟨b, o, rfl, hbw, c0⟩ := (HS.out.below HB.out).at hx
          have HX : Hid (ts[k]? = some x) := hx
          clear hx
          obtain ⟨w3, hw3⟩ : ∃ w3, w3 = wr.alloc (.cells #[.string ⟨#[45, 32]⟩, .string x] 9) := ⟨_, rfl⟩
          have HW3 : Hid (w3 = wr.alloc (.cells #[.string ⟨#[45, 32]⟩, .string x] 9)) := hw3
          have B3 : Below wr.heap.size wr w3 := by rw [hw3]; exact (Below.refl _ wr).alloc (Nat.le_refl _) _
          have P3 : StrRow w3 wr.heap.size [⟨#[45, 32]⟩, x] := by rw [hw3]; exact heap_alloc_new _ _
          have HB3 : Hid (Below wr.heap.size wr w3) := B3
          have HP3 : Hid (StrRow w3 wr.heap.size [⟨#[45, 32]⟩, x]) := P3
          have HLk : Hid ((listL ((ts.take k).map tx)).length + (cat [⟨#[45, 32]⟩, x]).length < 140737488355328) := by
            have h1 := listL_le ts (k + 1)
            rw [listL_take HX.out, List.length_append, List.length_append] at h1
            have h2 := HL.out
            show (listL ((ts.take k).map tx)).length + (cat [⟨#[45, 32]⟩, x]).length < 140737488355328
            omega
          have hsz : Hid (w.heap.size ≤ w3.heap.size) := Nat.le_trans HB.out.size B3.size
          clear hw3 B3 P3
          go_wp2_with (go_at_call 43; rw [← HW3.out]; refine (addLine_any w3 w.heap.size _ _ wr.heap.size [⟨#[45, 32]⟩, x] (HO.out.below HB3.out) HP3.out hsz.out (by simp) HLk.out).mono ?_; rintro e w4 ⟨v4, rfl, o4, b4⟩)
          have HO4 : Hid (Own w4 w.heap.size v4 (listL ((ts.take (k + 1)).map tx))) := by show Own _ _ _ _; rw [listL_take HX.out]; exact o4
          have HB4 : Hid (Below w.heap.size w w4) := (HB.out.trans (HB3.out.mono HB.out.size)).trans b4
          go_roundg (ts.length - (k + 1))
          case measure => omega
          case rel => exact ⟨k + 1, by go_num, by omega, Nat.le_refl _, HO4.out, HB4.out⟩
        · go_wp2_with fail
          go_ret2
          have e := HE.out
          refine ⟨_, by rw [e]; rfl, ?_, HB.out⟩
          have o := HO.out
          rw [List.take_of_length_le (by omega)] at o
          rw [e]
          exact o
end Go.Proofs.Ytimgjbjibkljhaa
