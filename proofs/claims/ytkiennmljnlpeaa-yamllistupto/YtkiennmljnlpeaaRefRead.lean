/-
  The walk of the document's ReadList.
-/
import Derived.Test.YtkiennmljnlpeaaRefLines
import Derived.Test.YtkiennmljnlpeaaSameR
namespace Go.Proofs.Ytkiennmljnlpeaa
open Go.RowKit

def behind (s : ByteArray) : ByteArray := s.extract 2 s.size
theorem behind_tx (s : ByteArray) : tx (behind s) = (tx s).drop 2 := by
  unfold tx behind
  rw [ByteArray.data_extract]
  simp
  rw [List.take_of_length_le (by simp)]
theorem list_lines (us : List Txt) : listL us = headL ++ joinL (us.map fun t => [45, 32] ++ t) := by
  unfold listL linesL joinL
  rw [List.flatMap_map]
  rfl
theorem list_no (us : List Txt) (h : ∀ t ∈ us, textB t = true) : ∀ l ∈ us.map (fun t => [45, 32] ++ t), (10 : UInt8) ∉ l := by
  intro l hl
  obtain ⟨t, ht, rfl⟩ := List.mem_map.1 hl
  exact dash_no (h t ht)
/-- Where there is a list, its lines are these. -/
theorem ls_of {b : Txt} {ls : List ByteArray} (h1 : b = headL ++ joinL (ls.map tx)) (h2 : ∀ l ∈ ls.map tx, (10 : UInt8) ∉ l) {us : List Txt} (hus : ∀ t ∈ us, textB t = true) (hb : b = listL us) : ls.map tx = us.map (fun t => [45, 32] ++ t) := by
  rw [list_lines] at hb
  have := List.append_cancel_left (h1.symm.trans hb)
  exact (joinL_one _ _ [] h2 (list_no us hus) (by simp) (by rw [List.append_nil]; exact this)).1
theorem join_long (ls : List Txt) : ls.length ≤ (joinL ls).length := by
  induction ls with
  | nil => simp
  | cons l ls ih => rw [joinL_cons]; simp; omega
theorem lines_shorter : ∀ (ls : List Txt), (∀ l ∈ ls, 2 ≤ l.length) → (linesL (ls.map (·.drop 2))).length ≤ (joinL ls).length
  | [], _ => by simp [linesL]
  | l :: ls, h => by
    have ih := lines_shorter ls (fun x hx => h x (by simp [hx]))
    have hl := h l (by simp)
    rw [joinL_cons]
    simp only [linesL, List.map_cons, List.flatMap_cons, List.length_append, line_len, List.length_drop, List.length_cons] at ih ⊢
    omega

set_option maxHeartbeats 2000000 in
set_option maxRecDepth 1000000 in
theorem refReadList_any (a : Option Addr) (c : Nat) (b : List UInt8) (w : World) (h : IsBytes w a c b) (hb : b.length ≤ 1073741823) :
    Calls Try.prog 23 #[.slice a b.length c] w (ReadPost b w) := by
  have HI : Hid (IsBytes w a c b) := h
  clear h
  go_enter Try.func23, Try.ntmps23
  go_upto_region 2 with (go_at_call 40; refine (lines_any a c b w HI.out hb).mono ?_; rintro e w1 ⟨ok, a1, c1, ls, rfl, i1, b1, hl1, hy, hn⟩)
  have HI1 : Hid (IsStrs w1 a1 c1 ls) := i1
  have HB1 : Hid (Below w.heap.size w w1) := b1
  have hlc1 : ls.length ≤ c1 := i1.1
  clear i1 b1
  cases ok
  · have HN : Hid (∀ us : List Txt, (∀ t ∈ us, textB t = true) → b ≠ listL us) := fun us hus he => hn rfl _ (list_no us hus) (by rw [← list_lines]; exact he)
    clear hy hn
    go_wp2_with fail
    go_ret2
    exact ⟨_, _, [], rfl, .inr ⟨rfl, rfl, HN.out⟩, World.ownsRow_nil _ _ _ _, HB1.out⟩
  obtain ⟨hy1, hy2⟩ := hy rfl
  have HY1 : Hid (b = headL ++ joinL (ls.map tx)) := hy1
  have HY2 : Hid (∀ l ∈ ls.map tx, (10 : UInt8) ∉ l) := hy2
  clear hy hn hy1 hy2
  go_wp2_with fail
  go_loopg [6, 20] ls.length (fun gk v i wr => ∃ k : Nat, i = .int .i64 k ∧ k ≤ ls.length ∧ ls.length - k ≤ gk ∧ Hid (Strs wr w1.heap.size v ((ls.take k).map behind)) ∧ Hid (Below w1.heap.size w1 wr) ∧ Hid (∀ l ∈ ls.take k, 2 ≤ l.size))
  case atStart => exact ⟨0, rfl, Nat.zero_le _, Nat.le_refl _, World.ownsRow_nil _ _ _ _, Below.refl _ _, fun l hl => by simp at hl⟩
  case round =>
    obtain ⟨k, rfl, hk, hgk, HS, HB2, HT⟩ := hrel
    have HB : Hid (Below w.heap.size w wr) := HB1.out.trans (HB2.out.mono HB1.out.size)
    by_cases hlt : k < ls.length
    · obtain ⟨x, hx⟩ : ∃ x, ls[k]? = some x := ⟨_, List.getElem?_eq_getElem hlt⟩
      obtain ⟨g, o, rfl, hg, c0⟩ := (HI1.out.below HB2.out).at hx
      have HX : Hid (ls[k]? = some x) := hx
      clear hx
      have hsz : w1.heap.size ≤ wr.heap.size := HB2.out.size
      by_cases h2 : x.size < 2
      · have HN : Hid (∀ us : List Txt, (∀ t ∈ us, textB t = true) → b ≠ listL us) := fun us hus he => by
          have h3 := ls_of HY1.out HY2.out hus he
          have h4 : (ls.map tx)[k]? = some (tx x) := by simp [HX.out]
          rw [h3, List.getElem?_map] at h4
          obtain ⟨t, _, h5⟩ := Option.map_eq_some_iff.1 h4
          have h6 : (tx x).length = x.size := by simp [tx]
          rw [← h5] at h6
          simp at h6
          omega
        go_wp2_with fail
        go_ret2
        exact ⟨_, _, [], rfl, .inr ⟨rfl, rfl, HN.out⟩, World.ownsRow_nil _ _ _ _, HB.out⟩
      · have e8 : (ls.take (k + 1)).map behind = (ls.take k).map behind ++ [x.extract 2 x.size] := by
          rw [List.take_add_one, HX.out]; simp [behind]
        have hlk : ((ls.take k).map behind).length ≤ 1073741823 := by simp; omega
        go_wp2_with (at_builtin; go_must (refine wpList_push_text rfl (.tmp 27) (.tmp 30) rfl w1.heap.size _ ((ls.take k).map behind) (x.extract 2 x.size) rfl HS.out rfl hlk hsz ?_); intro v8 w8 o8 b8)
        go_roundg (ls.length - (k + 1))
        case measure => omega
        case rel =>
          refine ⟨k + 1, by go_num, by omega, Nat.le_refl _, by show Strs _ _ _ _; rw [e8]; exact o8, HB2.out.trans b8, ?_⟩
          intro l hl
          rw [List.take_add_one, HX.out] at hl
          rcases List.mem_append.1 hl with hl | hl
          · exact HT.out l hl
          · simp at hl; subst hl; omega
    · have hs := HS.out
      have ht := HT.out
      rw [List.take_of_length_le (by omega)] at hs ht
      obtain ⟨ob, hob⟩ : ∃ ob, ob = ls.map behind := ⟨_, rfl⟩
      have hol : ob.length ≤ 1073741823 := by rw [hob]; simp; omega
      rw [← hob] at hs
      obtain ⟨a6, c6, rfl, i6⟩ := hs.is1 (by omega)
      have hmb : ob.map tx = (ls.map tx).map (·.drop 2) := by
        rw [hob, List.map_map, List.map_map]
        exact List.map_congr_left (fun s _ => behind_tx s)
      have HL : Hid ((listL (ob.map tx)).length < 140737488355328) := by
        show _ < _
        rw [hmb]
        have h1 := lines_shorter (ls.map tx) (fun l hl => by obtain ⟨s, hs', rfl⟩ := List.mem_map.1 hl; have := ht s hs'; simpa [tx] using this)
        have h2 := congrArg List.length HY1.out
        rw [List.length_append] at h2
        unfold listL
        rw [List.length_append]
        omega
      have HI6 : Hid (IsStrs wr a6 c6 ob) := i6
      have HS6 : Hid (Strs wr w1.heap.size (.slice a6 ob.length c6) ob) := hs
      have HMB : Hid (ob.map tx = (ls.map tx).map (·.drop 2)) := hmb
      have HUS : Hid (∀ us : List Txt, (∀ t ∈ us, textB t = true) → b = listL us → ob.map tx = us) := fun us hus he => by
        rw [hmb, ls_of HY1.out HY2.out hus he, List.map_map]
        exact (List.map_congr_left (fun t _ => by simp)).trans (List.map_id us)
      clear hs ht i6 hmb HS hob
      obtain ⟨tb, htb⟩ : ∃ tb, allT ob = tb := ⟨_, rfl⟩
      have HTB : Hid (allT ob = tb) := htb
      clear htb
      cases tb
      · have HN : Hid (∀ us : List Txt, (∀ t ∈ us, textB t = true) → b ≠ listL us) := fun us hus he => by
          have h1 := HUS.out us hus he
          have h2 : allT ob = true := List.all_eq_true.2 (fun s hs => hus _ (by rw [← h1]; exact List.mem_map_of_mem hs))
          rw [HTB.out] at h2
          cases h2
        go_wp2_with (first
          | (go_at_call 14; refine (refList_any a6 c6 ob wr HI6.out HL.out).mono ?_; rintro e w7 ⟨a7, c7, rfl, i7, b7⟩; rw [HTB.out]; have HB7 : Hid (Below wr.heap.size wr w7) := b7; clear i7 b7))
        go_ret2
        exact ⟨_, _, [], rfl, .inr ⟨rfl, rfl, HN.out⟩, World.ownsRow_nil _ _ _ _, HB.out.trans (HB7.out.mono HB.out.size)⟩
      · obtain ⟨sb, hsb⟩ : ∃ sb, decide (listL (ob.map tx) = b) = sb := ⟨_, rfl⟩
        have HSB : Hid (decide (listL (ob.map tx) = b) = sb) := hsb
        clear hsb
        have HAT : Hid (∀ t ∈ ob, textB (tx t) = true) := List.all_eq_true.1 HTB.out
        have HN : Hid (sb = false → ∀ us : List Txt, (∀ t ∈ us, textB t = true) → b ≠ listL us) := fun hsb us hus he => by
          have h1 := HUS.out us hus he
          have h2 := HSB.out
          rw [h1, hsb, decide_eq_false_iff_not] at h2
          exact h2 he.symm
        have HY : Hid (sb = true → b = listL (ob.map tx)) := fun hsb => by
          have h2 := HSB.out
          rw [hsb, decide_eq_true_eq] at h2
          exact h2.symm
        go_wp2_with (first
          | (go_at_call 14; refine (refList_any a6 c6 ob wr HI6.out HL.out).mono ?_; rintro e w7 ⟨a7, c7, rfl, i7, b7⟩; rw [HTB.out]; rw [HTB.out] at i7; have HI7 : Hid (IsBytes w7 a7 c7 (listL (ob.map tx))) := i7.1; have HB7 : Hid (Below wr.heap.size wr w7) := b7; clear i7 b7)
          | (go_at_call 41; refine (sameR_any a7 a c7 c (listL (ob.map tx)) b w7 HI7.out ((HI.out.below HB.out).below HB7.out)).mono ?_; rintro e w8 ⟨rfl, n8, hw8⟩; have HB8 : Hid (Below wr.heap.size wr w8) := (by rw [hw8]; exact below_drewN HB7.out n8); clear hw8; rw [HSB.out]))
        · go_ret2
          rename_i hq
          exact ⟨_, _, [], rfl, .inr ⟨rfl, rfl, HN.out (by simpa using hq)⟩, World.ownsRow_nil _ _ _ _, HB.out.trans (HB8.out.mono HB.out.size)⟩
        · go_ret2
          rename_i hq
          exact ⟨_, _, ob, rfl, .inl ⟨rfl, HAT.out, HY.out (by simpa using hq)⟩, (HS6.out.below HB8.out).mono HB1.out.size, HB.out.trans (HB8.out.mono HB.out.size)⟩
end Go.Proofs.Ytkiennmljnlpeaa
