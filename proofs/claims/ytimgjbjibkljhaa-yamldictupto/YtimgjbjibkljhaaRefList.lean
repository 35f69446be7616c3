/-
  The walk of the document's List.
-/
import Derived.Test.YtimgjbjibkljhaaRefText
import Derived.Test.YtimgjbjibkljhaaOwnC
import Derived.Deep.RegionWith
import Derived.Deep.Cut
import Derived.Deep.CutRange
namespace Go.Proofs.Ytimgjbjibkljhaa
open Go.RowKit

/-- Bytes that read l, in a block that was made since w. -/
def NewB (w w' : World) (a : Option Addr) (c : Nat) (l : List UInt8) : Prop := IsBytes w' a c l ∧ ∀ b' o, a = some ⟨b', o, none⟩ → w.heap.size ≤ b'
theorem NewB.nil (w w' : World) : NewB w w' none 0 [] := ⟨⟨by simp, by unfold maxLen; omega, .inl rfl⟩, fun _ _ h => by cases h⟩
def RefPost (er : Int) (l : Txt) (w : World) (e : Ending) (w' : World) : Prop := ∃ a c, e = .returned (.tuple #[.slice a l.length c, .int .i64 er]) ∧ NewB w w' a c l ∧ Below w.heap.size w w'
def RefListPost (ts : List ByteArray) (w : World) (e : Ending) (w' : World) : Prop := RefPost (if allT ts then 0 else 91) (if allT ts then listL (ts.map tx) else []) w e w'
theorem listL_take3 {ts : List ByteArray} {k : Nat} {x : ByteArray} (h : ts[k]? = some x) : listL ((ts.take (k + 1)).map tx) = listL ((ts.take k).map tx) ++ [45, 32] ++ x.data.toList ++ [10] := by
  rw [listL_take h]
  simp [cat]
theorem ten_src (W : World) : Src Try.prog 1 31 (.slice (some ⟨W.heap.size, 0, none⟩) 1 1) ([10] : List UInt8).length (u8s [10]) (W.alloc (.cells #[.int .u8 10] 5)) :=
  is_src (const_is (x := (0, 0)) [10] (heap_alloc_new _ _) (by decide))

set_option maxHeartbeats 2000000 in
set_option maxRecDepth 1000000 in
theorem refList_any (a : Option Addr) (c : Nat) (ts : List ByteArray) (w : World) (h : IsStrs w a c ts) (hb : (listL (ts.map tx)).length < 140737488355328) :
    Calls Try.prog 14 #[.slice a ts.length c] w (RefListPost ts w) := by
  have HS : Hid (IsStrs w a c ts) := h
  have HL : Hid ((listL (ts.map tx)).length < 140737488355328) := hb
  have hlen : (ts.length : Int) ≤ 9223372036854775807 := by have := h.2.1; unfold maxLen at this; omega
  have HZ : Hid (∀ k x, ts[k]? = some x → (listL ((ts.take k).map tx)).length + x.size + 3 < 140737488355328) := by
    intro k x hx
    have h1 := listL_le ts (k + 1)
    rw [listL_take3 hx] at h1
    simp only [List.length_append, List.length_cons, List.length_nil] at h1
    have e : x.data.toList.length = x.size := by simp
    omega
  clear h hb
  go_enter Try.func14, Try.ntmps14
  go_wp2
  go_loopg [11] ts.length (fun gk i wr => ∃ k : Nat, i = .int .i64 k ∧ k ≤ ts.length ∧ ts.length - k ≤ gk ∧ wr = w ∧ Hid (∀ t ∈ ts.take k, textB (tx t) = true))
  case atStart => exact ⟨0, rfl, Nat.zero_le _, Nat.le_refl _, rfl, fun t ht => by simp at ht⟩
  case round =>
    obtain ⟨k, rfl, hk, hgk, hwr, HA⟩ := hrel
    obtain rfl := hwr.symm
    by_cases hlt : k < ts.length
    · obtain ⟨x, hx⟩ : ∃ x, ts[k]? = some x := ⟨_, List.getElem?_eq_getElem hlt⟩
      obtain ⟨b, o, rfl, hbw, c0⟩ := HS.out.at hx
      have hxs : x.size ≤ 4611686018427387904 := by have := HZ.out k x hx; omega
      have HX : Hid (ts[k]? = some x) := hx
      clear hx
      obtain ⟨tb, htb⟩ : ∃ tb, textB (tx x) = tb := ⟨_, rfl⟩
      have HT : Hid (textB (tx x) = tb) := htb
      clear htb
      cases tb
      · go_wp2_with (go_at_call 33; refine (plain_any x _ hxs).mono ?_; rintro e w' ⟨rfl, hw'⟩; obtain rfl := hw'.symm; rw [HT.out])
        go_ret2
        have e := allT_no HX.out HT.out
        exact ⟨none, 0, by rw [e]; rfl, by rw [e]; exact NewB.nil _ _, Below.refl _ _⟩
      · go_wp2_with (go_at_call 33; refine (plain_any x _ hxs).mono ?_; rintro e w' ⟨rfl, hw'⟩; obtain rfl := hw'.symm; rw [HT.out])
        go_roundg (ts.length - (k + 1))
        case measure => omega
        case rel => exact ⟨k + 1, by go_num, by omega, Nat.le_refl _, rfl, allT_take HX.out HA.out HT.out⟩
    · have HE : Hid (allT ts = true) := allT_end (by omega) HA.out
      obtain ⟨w1, hw1⟩ : ∃ w1, w1 = w.alloc (.cells #[.int .u8 45, .int .u8 45, .int .u8 45, .int .u8 10] 5 (4, 5)) := ⟨_, rfl⟩
      have HW1 : Hid (w1 = w.alloc (.cells #[.int .u8 45, .int .u8 45, .int .u8 45, .int .u8 10] 5 (4, 5))) := hw1
      have B1 : Below w.heap.size w w1 := by rw [hw1]; exact (Below.refl _ w).alloc (Nat.le_refl _) _
      have P1 : w1.heap[w.heap.size]? = some (.cells (u8s headL).toArray 5 (4, 5)) := by rw [hw1]; exact heap_alloc_new _ _
      have HO1 : Hid (OwnC w1 w.heap.size (.slice (some ⟨w.heap.size, 0, none⟩) 4 4) headL) := const_own headL P1 (by decide) (by decide) (Nat.le_refl _)
      have HB1 : Hid (Below w.heap.size w w1) := B1
      have kc := conv_new w #[.int .u8 45, .int .u8 45, .int .u8 45, .int .u8 10] 4 4
      clear hw1 B1 P1
      go_wp2_with fail
      rw [← HW1.out]
      go_loopg [6, 23] ts.length (fun gk v i wr => ∃ k : Nat, i = .int .i64 k ∧ k ≤ ts.length ∧ ts.length - k ≤ gk ∧ Hid (OwnC wr w.heap.size v (listL ((ts.take k).map tx))) ∧ Hid (Below w.heap.size w wr))
      case atStart => exact ⟨0, rfl, Nat.zero_le _, Nat.le_refl _, HO1.out, HB1.out⟩
      case round =>
        clear HO1 HB1 HA hlt hk hgk kc
        obtain ⟨k, rfl, hk, hgk, HO, HB⟩ := hrel
        by_cases hlt : k < ts.length
        · obtain ⟨x, hx⟩ : ∃ x, ts[k]? = some x := ⟨_, List.getElem?_eq_getElem hlt⟩
          obtain ⟨b, o, rfl, hbw, c0⟩ := (HS.out.below HB.out).at hx
          have HX : Hid (ts[k]? = some x) := hx
          have HLk : Hid ((listL ((ts.take k).map tx)).length + x.size + 3 < 140737488355328) := HZ.out k x hx
          have hsz : w.heap.size ≤ wr.heap.size := HB.out.size
          have hxl : x.data.toList.length = x.size := by simp
          clear hx
          go_upto_region 12 with (at_builtin; go_must (refine wpList_appendS rfl (.tmp 27) _ 9 rfl w.heap.size _ (listL ((ts.take k).map tx)) rfl HO.out _ [45, 32] rfl (u8s_src _ ⟨#[45, 32]⟩) (by have := HLk.out; simp only [List.length_cons, List.length_nil]; omega) hsz ?_); intro v2 w2 o2 b2 _)
          have HO2 : Hid (OwnC w2 w.heap.size v2 (listL ((ts.take k).map tx) ++ [45, 32])) := o2
          have hsz2 : w.heap.size ≤ w2.heap.size := Nat.le_trans hsz b2.size
          have HB2 : Hid (Below w.heap.size w w2) := HB.out.trans b2
          clear o2 b2
          go_upto_region 13 with (at_builtin; go_must (refine wpList_appendS rfl (.tmp 29) (.tmp 30) 9 rfl w.heap.size _ (listL ((ts.take k).map tx) ++ [45, 32]) rfl HO2.out _ x.data.toList rfl (u8s_src _ x) (by have := HLk.out; simp only [List.length_append, List.length_cons, List.length_nil, hxl]; omega) hsz2 ?_); intro v3 w3 o3 b3 _)
          have HO3 : Hid (OwnC w3 w.heap.size v3 (listL ((ts.take k).map tx) ++ [45, 32] ++ x.data.toList)) := o3
          have hsz3 : w.heap.size ≤ w3.heap.size := Nat.le_trans hsz2 b3.size
          have HB3 : Hid (Below w.heap.size w w3) := HB2.out.trans b3
          clear o3 b3
          obtain ⟨w4, hw4⟩ : ∃ w4, w4 = w3.alloc (.cells #[.int .u8 10] 5) := ⟨_, rfl⟩
          have HW4 : Hid (w4 = w3.alloc (.cells #[.int .u8 10] 5)) := hw4
          have B4 : Below w3.heap.size w3 w4 := by rw [hw4]; exact (Below.refl _ w3).alloc (Nat.le_refl _) _
          have HT4 : Hid (Src Try.prog 1 31 (.slice (some ⟨w3.heap.size, 0, none⟩) 1 1) ([10] : List UInt8).length (u8s [10]) w4) := by show Src _ _ _ _ _ _ _; rw [hw4]; exact ten_src w3
          have HO4 : Hid (OwnC w4 w.heap.size v3 (listL ((ts.take k).map tx) ++ [45, 32] ++ x.data.toList)) := HO3.out.below B4
          have HB4 : Hid (Below w.heap.size w w4) := HB3.out.trans (B4.mono HB3.out.size)
          have hsz4 : w.heap.size ≤ w4.heap.size := Nat.le_trans hsz3 B4.size
          clear hw4 B4
          go_wp2_with (at_builtin; go_must (rw [← HW4.out]; refine wpList_appendS rfl (.tmp 32) (.tmp 33) 31 rfl w.heap.size _ (listL ((ts.take k).map tx) ++ [45, 32] ++ x.data.toList) rfl HO4.out _ [10] rfl HT4.out (by have := HLk.out; simp only [List.length_append, List.length_cons, List.length_nil, hxl]; omega) hsz4 ?_); intro v5 w5 o5 b5 _)
          have HO5 : Hid (OwnC w5 w.heap.size v5 (listL ((ts.take (k + 1)).map tx))) := by show OwnC _ _ _ _; rw [listL_take3 HX.out]; exact o5
          have HB5 : Hid (Below w.heap.size w w5) := HB4.out.trans b5
          go_roundg (ts.length - (k + 1))
          case measure => omega
          case rel => exact ⟨k + 1, by go_num, by omega, Nat.le_refl _, HO5.out, HB5.out⟩
        · go_wp2_with fail
          go_ret2
          have e := HE.out
          have o := HO.out
          rw [List.take_of_length_le (by omega)] at o
          obtain ⟨a9, c9, hv, hi, hn9⟩ := o.is
          exact ⟨a9, c9, by rw [e, if_pos rfl, if_pos rfl, ← hv]; rfl, by rw [e, if_pos rfl]; exact ⟨hi, hn9⟩, HB.out⟩
end Go.Proofs.Ytimgjbjibkljhaa
