/-
  The walk of the document's lines.
-/
import Derived.Test.YtkiennmljnlpeaaRefDict
import Derived.Test.YtkiennmljnlpeaaShown
namespace Go.Proofs.Ytkiennmljnlpeaa
open Go.RowKit

def joinL (ls : List Txt) : Txt := ls.flatMap (fun l => l ++ [10])
theorem joinL_snoc (ls : List Txt) (l : Txt) : joinL (ls ++ [l]) = joinL ls ++ (l ++ [10]) := by simp [joinL]
theorem joinL_cons (l : Txt) (ls : List Txt) : joinL (l :: ls) = l ++ 10 :: joinL ls := by simp [joinL]
theorem joinL_one : ∀ (a b : List Txt) (t : Txt), (∀ l ∈ a, (10 : UInt8) ∉ l) → (∀ l ∈ b, (10 : UInt8) ∉ l) → (10 : UInt8) ∉ t → joinL a ++ t = joinL b → a = b ∧ t = []
  | [], [], t, _, _, _, h => ⟨rfl, by simpa [joinL] using h⟩
  | [], l :: b, t, _, _, ht, h => by
    exfalso
    rw [joinL_cons] at h
    have h : t = l ++ 10 :: joinL b := by simpa [joinL] using h
    exact ht (by rw [h]; simp)
  | l :: a, [], t, _, _, _, h => by
    exfalso
    rw [joinL_cons] at h
    simp [joinL] at h
  | l :: a, m :: b, t, h1, h2, ht, h => by
    rw [joinL_cons, joinL_cons, List.append_assoc, List.cons_append] at h
    obtain ⟨rfl, h'⟩ := part_one (h1 l (by simp)) (h2 m (by simp)) h
    obtain ⟨rfl, rfl⟩ := joinL_one a b t (fun x hx => h1 x (by simp [hx])) (fun x hx => h2 x (by simp [hx])) ht h'
    exact ⟨rfl, rfl⟩
theorem head_join (ls : List Txt) : headL ++ joinL ls = joinL ([45, 45, 45] :: ls) := by simp [joinL, headL]
/-- How far it has gone: i bytes, of which the lines, and what is behind the last one from 'fr' on. -/
def LinesAt (b : Txt) (i fr : Nat) (out : List Txt) : Prop := fr ≤ i ∧ b.take fr = joinL out ∧ (∀ l ∈ out, (10 : UInt8) ∉ l) ∧ (10 : UInt8) ∉ (b.take i).drop fr
theorem LinesAt.step {b : Txt} {i fr : Nat} {out : List Txt} (h : LinesAt b i fr out) {x : UInt8} (hx : b[i]? = some x) (hne : x ≠ 10) : LinesAt b (i + 1) fr out := by
  obtain ⟨h1, h2, h3, h4⟩ := h
  have hi := (List.getElem?_eq_some_iff.1 hx).1
  refine ⟨by omega, h2, h3, ?_⟩
  rw [List.take_add_one, hx, List.drop_append_of_le_length (by simp; omega)]
  intro hm
  rcases List.mem_append.1 hm with hm | hm
  · exact h4 hm
  · simp at hm; exact hne hm.symm
theorem LinesAt.line {b : Txt} {i fr : Nat} {out : List Txt} (h : LinesAt b i fr out) (hx : b[i]? = some 10) : LinesAt b (i + 1) (i + 1) (out ++ [(b.drop fr).take (i - fr)]) := by
  obtain ⟨h1, h2, h3, h4⟩ := h
  have hi := (List.getElem?_eq_some_iff.1 hx).1
  have e : (b.drop fr).take (i - fr) = (b.take i).drop fr := by rw [List.drop_take]
  refine ⟨Nat.le_refl _, ?_, ?_, ?_⟩
  · rw [joinL_snoc, List.take_add_one, hx, ← h2, e, ← List.append_assoc]
    congr 1
    conv => lhs; rw [← List.take_append_drop fr (b.take i)]
    rw [List.take_take, Nat.min_eq_left h1]
  · intro l hl
    rcases List.mem_append.1 hl with hl | hl
    · exact h3 l hl
    · simp at hl; rw [hl, e]; exact h4
  · rw [List.drop_eq_nil_of_le (by simp; omega)]; simp
theorem LinesAt.all {b : Txt} {i fr : Nat} {out : List Txt} (h : LinesAt b i fr out) (hi : b.length ≤ i) : b = joinL out ++ b.drop fr ∧ (10 : UInt8) ∉ b.drop fr := by
  obtain ⟨h1, h2, h3, h4⟩ := h
  rw [List.take_of_length_le hi] at h4
  exact ⟨by rw [← h2, List.take_append_drop], h4⟩

theorem IsStrs.drop1 {w : World} {g o c : Nat} {ss : List ByteArray} (h : IsStrs w (some ⟨g, o, none⟩) c ss) : IsStrs w (some ⟨g, o + 1, none⟩) (c - 1) (ss.drop 1) := by
  obtain ⟨h1, h2, h3⟩ := h
  refine ⟨by simp; omega, by simp; omega, ?_⟩
  rcases h3 with rfl | ⟨b', o', e, hb, hc⟩
  · exact .inl rfl
  · cases e
    refine .inr ⟨g, o + 1, rfl, hb, fun j x hj => ?_⟩
    rw [List.getElem?_drop] at hj
    rw [Nat.add_assoc]
    exact hc _ x hj
def LinesPost (b : Txt) (w : World) (e : Ending) (w' : World) : Prop := ∃ (ok : Bool) (a : Option Addr) (c : Nat) (ls : List ByteArray), e = .returned (.tuple #[.slice a ls.length c, .bool ok]) ∧ IsStrs w' a c ls ∧ Below w.heap.size w w' ∧ ls.length ≤ b.length ∧
  (ok = true → b = headL ++ joinL (ls.map tx) ∧ ∀ l ∈ ls.map tx, (10 : UInt8) ∉ l) ∧ (ok = false → ∀ us : List Txt, (∀ l ∈ us, (10 : UInt8) ∉ l) → b ≠ headL ++ joinL us)
theorem head_ok (us : List Txt) (h : ∀ l ∈ us, (10 : UInt8) ∉ l) : ∀ l ∈ ([45, 45, 45] :: us : List Txt), (10 : UInt8) ∉ l := by
  intro l hl
  rcases List.mem_cons.1 hl with rfl | hl
  · decide
  · exact h l hl

set_option maxHeartbeats 2000000 in
set_option maxRecDepth 1000000 in
theorem lines_any (a : Option Addr) (c : Nat) (b : List UInt8) (w : World) (h : IsBytes w a c b) (hb : b.length ≤ 1073741823) :
    Calls Try.prog 40 #[.slice a b.length c] w (LinesPost b w) := by
  have HI : Hid (IsBytes w a c b) := h
  have hbc : b.length ≤ c := h.1
  clear h
  go_enter Try.func40, Try.ntmps40
  go_wp2
  go_loopg [4, 5, 10] b.length (fun gk v f i wr => ∃ (k fr : Nat) (out : List ByteArray), i = .int .i64 k ∧ f = .int .i64 fr ∧ k ≤ b.length ∧ fr ≤ k ∧ out.length ≤ k ∧ b.length - k ≤ gk ∧ Hid (LinesAt b k fr (out.map tx)) ∧ Hid (Strs wr w.heap.size v out) ∧ Hid (Below w.heap.size w wr))
  case atStart => exact ⟨0, 0, [], rfl, rfl, Nat.zero_le _, Nat.le_refl _, Nat.le_refl _, Nat.le_refl _, ⟨Nat.le_refl _, by simp [joinL], (fun l hl => by cases hl), by simp⟩, World.ownsRow_nil _ _ _ _, Below.refl _ _⟩
  case round =>
    obtain ⟨k, fr, out, rfl, rfl, hk, hfr, hol, hgk, HL, HS, HB⟩ := hrel
    by_cases hlt : k < b.length
    · obtain ⟨x, hx⟩ : ∃ x, b[k]? = some x := ⟨_, List.getElem?_eq_getElem hlt⟩
      obtain ⟨g, o, rfl⟩ := HI.out.addr (by omega)
      have c0 : wr.cell? ⟨g, o + k, none⟩ = some (.int .u8 (x.toNat : Int)) := by
        rcases (HI.out.below HB.out).2.2 with e | ⟨b', o', e, _, hc⟩
        · rw [e] at hlt; simp at hlt
        · cases e; exact hc k x hx
      have HX : Hid (b[k]? = some x) := hx
      clear hx
      by_cases hx10 : x = 10
      · subst hx10
        obtain ⟨T, hT⟩ : ∃ T : ByteArray, T = ⟨((b.drop fr).take (k - fr)).toArray⟩ := ⟨_, rfl⟩
        have HTD : Hid (tx T = (b.drop fr).take (k - fr)) := by show tx T = _; rw [hT]
        have hfc : fr ≤ c := by omega
        have hkc : k ≤ c := by omega
        have hi3 := ((HI.out.below HB.out).drop fr (by omega)).take (k - fr)
        have kt := conv_is hi3 (n := k - fr) (by simp; omega)
        rw [← hT] at kt
        have hsz : w.heap.size ≤ wr.heap.size := HB.out.size
        clear hT hi3
        rw [if_neg (show ¬ c = fr by omega)] at kt
        go_wp2_with (at_builtin; go_must (refine wpList_push_text rfl (.tmp 17) (.tmp 23) rfl w.heap.size _ out T rfl HS.out rfl (by omega) hsz ?_); intro v8 w8 o8 b8)
        go_roundg (b.length - (k + 1))
        case measure => omega
        case rel => exact ⟨k + 1, k + 1, out ++ [T], by go_num, by go_num, by omega, Nat.le_refl _, by simp; omega, Nat.le_refl _, by show LinesAt _ _ _ _; rw [List.map_append, List.map_singleton, HTD.out]; exact HL.out.line HX.out, o8, HB.out.trans b8⟩
      · have hxt : ((x.toNat : Int) == 10) = false := by
          rw [beq_eq_false_iff_ne]
          intro e
          exact hx10 (UInt8.toNat_inj.1 (by rw [show (10 : UInt8).toNat = 10 from rfl]; omega))
        have HXN : Hid (x ≠ 10) := hx10
        clear hx10
        go_wp2_with fail
        go_roundg (b.length - (k + 1))
        case measure => omega
        case rel => exact ⟨k + 1, fr, out, by go_num, rfl, by omega, by omega, by omega, Nat.le_refl _, HL.out.step HX.out HXN.out, HS.out, HB.out⟩
    · obtain ⟨hall, hno⟩ := HL.out.all (by omega)
      have HALL : Hid (b = joinL (out.map tx) ++ b.drop fr) := hall
      have HNO : Hid ((10 : UInt8) ∉ b.drop fr) := hno
      have HOUT : Hid (∀ l ∈ out.map tx, (10 : UInt8) ∉ l) := HL.out.2.2.1
      have HKEY : Hid (∀ us : List Txt, (∀ l ∈ us, (10 : UInt8) ∉ l) → b = headL ++ joinL us → out.map tx = [45, 45, 45] :: us ∧ b.drop fr = []) := by
        intro us hus he
        rw [head_join] at he
        exact joinL_one _ _ _ HOUT.out (head_ok us hus) HNO.out (HALL.out.symm.trans he)
      clear hall hno HL
      obtain ⟨a4, c4, rfl, i4⟩ := HS.out.is1 (by omega)
      have HI4 : Hid (IsStrs wr a4 c4 out) := i4
      clear i4
      have hlc4 : out.length ≤ c4 := HI4.out.1
      by_cases hf : fr = b.length
      · have hfb : ((fr : Int) != (b.length : Int)) = false := by simp; omega
        have HD : Hid (b.drop fr = []) := List.drop_eq_nil_of_le (by omega)
        clear hf
        by_cases h0 : out.length = 0
        · have h0b : ((out.length : Int) == 0) = true := by rw [h0]; rfl
          have HN : Hid (∀ us : List Txt, (∀ l ∈ us, (10 : UInt8) ∉ l) → b ≠ headL ++ joinL us) := fun us hus he => by
            have := (HKEY.out us hus he).1
            rw [List.eq_nil_of_length_eq_zero h0] at this
            cases this
          clear h0
          go_wp2_with fail
          go_ret2
          exact ⟨false, none, 0, [], rfl, ⟨by simp, by simp, .inl rfl⟩, HB.out, by simp, (fun h => by cases h), fun _ => HN.out⟩
        · have h0b : ((out.length : Int) == 0) = false := beq_eq_false_iff_ne.2 (by omega)
          obtain ⟨x, hx⟩ : ∃ x, out[0]? = some x := ⟨_, List.getElem?_eq_getElem (by omega)⟩
          obtain ⟨g, o, rfl, hg, c0⟩ := HI4.out.at hx
          rw [Nat.add_zero] at c0
          have h0l : 0 < out.length := by omega
          have HX : Hid (out[0]? = some x) := hx
          clear hx
          by_cases hd : x = ⟨#[45, 45, 45]⟩
          · have hdb : (!x.toList == [45, 45, 45]) = false := by rw [hd, ByteArray.toList_eq]; decide
            have HT : Hid (out = ⟨#[45, 45, 45]⟩ :: out.drop 1) := by
              show out = _
              rw [← hd]
              cases out with
              | nil => simp at h0l
              | cons y ys => have := HX.out; simp at this; rw [this]; rfl
            have HR : Hid (b = headL ++ joinL ((out.drop 1).map tx)) := by
              show b = _
              have h1 := HALL.out
              rw [HD.out, List.append_nil, HT.out, List.map_cons] at h1
              rw [head_join]
              exact h1
            have HR2 : Hid (∀ l ∈ (out.drop 1).map tx, (10 : UInt8) ∉ l) := fun l hl => HOUT.out l (by rw [HT.out, List.map_cons]; exact List.mem_cons_of_mem _ hl)
            have hl1 : (out.drop 1).length = out.length - 1 := by simp
            have hi1 := HI4.out.drop1
            clear hd
            go_wp2_with fail
            · go_ret2
              exact ⟨true, some ⟨g, o, none⟩, 0, out.drop 1, by rw [hl1]; rfl, ⟨by simp; omega, by simp; omega, .inl (List.drop_eq_nil_of_le (by omega))⟩, HB.out, by rw [hl1]; omega, fun _ => ⟨HR.out, HR2.out⟩, fun h => by cases h⟩
            · go_ret2
              exact ⟨true, some ⟨g, o + 1, none⟩, c4 - 1, out.drop 1, by rw [hl1]; rfl, hi1, HB.out, by rw [hl1]; omega, fun _ => ⟨HR.out, HR2.out⟩, fun h => by cases h⟩
          · have hdb : (!x.toList == [45, 45, 45]) = true := by
              rw [Bool.not_eq_true', beq_eq_false_iff_ne]
              intro e
              exact hd (list_inj (by rw [e, ByteArray.toList_eq]))
            have HN : Hid (∀ us : List Txt, (∀ l ∈ us, (10 : UInt8) ∉ l) → b ≠ headL ++ joinL us) := fun us hus he => by
              have h1 := (HKEY.out us hus he).1
              cases out with
              | nil => simp at h0l
              | cons y ys =>
                have h2 := HX.out
                simp at h2
                subst h2
                simp only [List.map_cons, List.cons.injEq] at h1
                exact hd (data_inj h1.1)
            clear hd
            go_wp2_with fail
            go_ret2
            exact ⟨false, none, 0, [], rfl, ⟨by simp, by simp, .inl rfl⟩, HB.out, by simp, (fun h => by cases h), fun _ => HN.out⟩
      · have hfb : ((fr : Int) != (b.length : Int)) = true := by simp; omega
        have HN : Hid (∀ us : List Txt, (∀ l ∈ us, (10 : UInt8) ∉ l) → b ≠ headL ++ joinL us) := fun us hus he => by
          have := (HKEY.out us hus he).2
          have h2 : (b.drop fr).length = 0 := by rw [this]; rfl
          simp at h2
          omega
        clear hf
        go_wp2_with fail
        go_ret2
        exact ⟨false, none, 0, [], rfl, ⟨by simp, by simp, .inl rfl⟩, HB.out, by simp, (fun h => by cases h), fun _ => HN.out⟩
end Go.Proofs.Ytkiennmljnlpeaa
