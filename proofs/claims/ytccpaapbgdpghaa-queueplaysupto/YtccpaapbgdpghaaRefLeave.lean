/-
  The document's queue: At, Leave.
-/
import Derived.Test.YtccpaapbgdpghaaRef
namespace Go.Proofs.Ytccpaapbgdpghaa
open Go.RowKit

/-- Where a ticket stands. -/
def spot (T : List Int) (t : Int) : Option Nat := T.findIdx? (fun x => x == t)
def spotI (T : List Int) (t : Int) : Int := match spot T t with | some k => (k : Int) | none => -1
theorem spot_here {T : List Int} {t : Int} {i : Nat} (h0 : ∀ j, j < i → ∀ x, T[j]? = some x → x ≠ t) (hi : T[i]? = some t) : spot T t = some i := by
  unfold spot
  rw [List.findIdx?_eq_some_iff_getElem]
  have hl := (List.getElem?_eq_some_iff.1 hi)
  refine ⟨hl.1, by simp [hl.2], fun j hj => ?_⟩
  have := h0 j hj _ (List.getElem?_eq_getElem (Nat.lt_trans hj hl.1))
  simpa using this
theorem spot_none {T : List Int} {t : Int} (h0 : ∀ j, j < T.length → ∀ x, T[j]? = some x → x ≠ t) : spot T t = none := by
  unfold spot
  rw [List.findIdx?_eq_none_iff]
  intro x hx
  obtain ⟨j, hj⟩ := List.mem_iff_getElem?.1 hx
  simpa using h0 j (List.getElem?_eq_some_iff.1 hj).1 x hj
theorem spot_lt {T : List Int} {t : Int} {k : Nat} (h : spot T t = some k) : k < T.length := by
  unfold spot at h
  exact (List.findIdx?_eq_some_iff_getElem.1 h).1
theorem spot_at {T : List Int} {t : Int} {k : Nat} (h : spot T t = some k) : T[k]? = some t := by
  unfold spot at h
  obtain ⟨h1, h2, _⟩ := List.findIdx?_eq_some_iff_getElem.1 h
  rw [List.getElem?_eq_getElem h1]
  simpa using h2

set_option maxHeartbeats 4000000 in
set_option maxRecDepth 1000000 in
theorem refAt (B : Nat) (w : World) (rb : Nat) (J t : Int) (vt vh : Value) (T H : List Int) (h : RefAt B w rb J vt vh T H) (hT : T.length ≤ 1073741823) :
    Calls Try.prog 21 #[.pointer (some ⟨rb, 0, none⟩), .int .i64 t] w fun e w' => e = .returned (.int .i64 (spotI T t)) ∧ w' = w := by
  obtain ⟨a, c, rfl⟩ := h.rt.form
  have m0 : w.cell? ⟨rb, 0, none⟩ = some (.slice a T.length c) := by simp [World.cell?, h.box]
  have HR : Hid (Nums w B (.slice a T.length c) T) := h.rt
  clear h
  go_enter Try.func21, Try.ntmps21
  go_wp2_with fail
  go_loopg [5] T.length (fun gk s5 wr => ∃ i : Nat, s5 = .int .i64 (i : Int) ∧ i ≤ T.length ∧ T.length - i ≤ gk ∧ wr = w ∧ Hid (∀ j, j < i → ∀ x, T[j]? = some x → x ≠ t))
  case atStart => exact ⟨0, rfl, Nat.zero_le _, Nat.le_refl _, rfl, fun j hj => by omega⟩
  case round =>
    obtain ⟨i, rfl, hi, hgk, hwr, HN⟩ := hrel
    subst hwr
    by_cases hit : i < T.length
    · have t1 : (i : Int) < (T.length : Int) := by omega
      obtain ⟨x, hx⟩ : ∃ x, T[i]? = some x := ⟨_, List.getElem?_eq_getElem hit⟩
      obtain ⟨g, rfl, cx⟩ := HR.out.cell hx
      have HX : Hid (T[i]? = some x) := hx
      clear hx
      by_cases hxt : x = t
      · subst hxt
        go_wp2_with fail
        go_ret
        refine ⟨?_, rfl⟩
        unfold spotI
        rw [spot_here HN.out HX.out]
        rfl
      · have hxb : (x == t) = false := by simpa using hxt
        go_wp2_with fail
        go_roundg (T.length - (i + 1))
        case measure => omega
        case rel =>
          refine ⟨i + 1, by go_num, by omega, Nat.le_refl _, rfl, fun j hj y hy => ?_⟩
          by_cases e : j = i
          · subst e
            rw [HX.out] at hy
            cases hy
            exact hxt
          · exact HN.out j (by omega) y hy
    · have t1 : ¬ (i : Int) < (T.length : Int) := by omega
      obtain rfl : i = T.length := by omega
      go_wp2_with fail
      go_ret
      refine ⟨?_, rfl⟩
      unfold spotI
      rw [spot_none HN.out]
      rfl

theorem erase_step {l : List Int} {k i : Nat} {x : Int} (hx : l[i]? = some x) (hne : i ≠ k) : (l.take (i + 1)).eraseIdx k = (l.take i).eraseIdx k ++ [x] := by
  have hil := (List.getElem?_eq_some_iff.1 hx).1
  rw [List.take_add_one, hx]
  by_cases h : k < i
  · rw [List.eraseIdx_append_of_lt_length (by rw [List.length_take]; omega)]
    rfl
  · rw [List.eraseIdx_of_length_le (by simp; omega), List.eraseIdx_of_length_le (by rw [List.length_take]; omega)]
    rfl
theorem erase_skip (l : List Int) (k : Nat) : (l.take (k + 1)).eraseIdx k = (l.take k).eraseIdx k := by
  rw [List.eraseIdx_eq_take_drop_succ, List.eraseIdx_of_length_le (by rw [List.length_take]; omega), List.take_take, List.drop_eq_nil_of_le (by rw [List.length_take]; omega)]
  simp
theorem erase_len {l : List Int} {k i : Nat} (hi : i ≤ l.length) : ((l.take i).eraseIdx k).length ≤ i := by
  rw [List.length_eraseIdx]
  split <;> rw [List.length_take] <;> omega

/-- What Leave tells. -/
def refLeft (T H : List Int) (t : Int) : Value := match spot T t with | some k => .tuple #[.int .i64 (H.getD k 0), .bool true] | none => .tuple #[.int .i64 0, .bool false]
def refRest (T L : List Int) (t : Int) : List Int := match spot T t with | some k => L.eraseIdx k | none => L

theorem nums_lit (w : World) (B : Nat) (hB : B ≤ w.heap.size) : Nums (w.alloc (.cells #[] 3)) B (.slice (some ⟨w.heap.size, 0, none⟩) 0 0) [] :=
  ⟨rfl, .inr ⟨w.heap.size, 0, #[], rfl, hB, heap_alloc_new w _, Nat.le_refl _, by simp [maxLen], rfl, rfl⟩⟩

theorem ap_symm {a b : Option Nat} (h : a = none ∨ a ≠ b) : b = none ∨ b ≠ a := by
  rcases h with h | h
  · cases b with
    | none => exact .inl rfl
    | some b => exact .inr (by rw [h]; simp)
  · exact .inr (fun e => h e.symm)
/-- One of two rows grows: the other one stays, and they stay apart. -/
theorem sep_step {wr wb : World} {o : Obj} {B : Nat} {u8 u9 v8 : Value} {l9 : List Int} (h9 : Nums wr B u9 l9) (ap : u8.ownBlock = none ∨ u8.ownBlock ≠ u9.ownBlock) (hg : (wr.alloc o).grownBy wb u8.ownBlock) (hat : v8.ownBlock = u8.ownBlock ∨ v8.ownBlock = some (wr.alloc o).heap.size) :
    Nums wb B u9 l9 ∧ (v8.ownBlock = none ∨ v8.ownBlock ≠ u9.ownBlock) := by
  have hk : Kept (fun k => u8.ownBlock = some k) wr wb := (Kept.ofBelow ((Below.refl _ wr).alloc (Nat.le_refl _) _)).trans (Kept.ofGrown hg (fun _ e => e))
  refine ⟨hk.own h9 (fun g e hg => ?_), ?_⟩
  · rcases ap with h0 | h0
    · rw [h0] at hg; cases hg
    · exact h0 (hg.trans e.symm)
  · rcases hat with h | h
    · rw [h]; exact ap
    · refine .inr (fun e => ?_)
      obtain ⟨cur, hc, _⟩ := h9.block (e.symm.trans h)
      have := (Array.getElem?_eq_some_iff.1 hc).1
      simp at this
      omega

set_option maxHeartbeats 8000000 in
set_option maxRecDepth 1000000 in
theorem refLeaveF (B : Nat) (w : World) (rb : Nat) (J t : Int) (vt vh : Value) (T H : List Int) (h : RefAt B w rb J vt vh T H) (hT : T.length ≤ 1073741823) (hTH : T.length = H.length) (hB : B ≤ w.heap.size) :
    Calls Try.prog 34 #[.pointer (some ⟨rb, 0, none⟩), .int .i64 t] w fun e w' => e = .returned (refLeft T H t) ∧
      ∃ vt' vh', RefAt B w' rb J vt' vh' (refRest T T t) (refRest T H t) ∧ Kept (RMine rb vt vh) w w' ∧ (∀ k, RMine rb vt' vh' k → RMine rb vt vh k ∨ w.heap.size ≤ k) := by
  have HA := refAt B w rb J t vt vh T H h hT
  obtain ⟨at_, ct, rfl⟩ := h.rt.form
  obtain ⟨ah, ch, rfl⟩ := h.rh.form
  have m0 : w.cell? ⟨rb, 0, none⟩ = some (.slice at_ T.length ct) := by simp [World.cell?, h.box]
  have m1 : w.cell? ⟨rb, 1, none⟩ = some (.slice ah H.length ch) := by simp [World.cell?, h.box]
  have HR : Hid (RefAt B w rb J (.slice at_ T.length ct) (.slice ah H.length ch) T H) := h
  have hrl : rb < w.heap.size := cell_lt m0
  obtain ⟨i0, hi, hz0, hz1, hz2⟩ := info_parts info_int
  cases hs : spot T t with
  | none =>
    have HS : Hid (spot T t = none) := hs
    unfold spotI at HA
    rw [hs] at HA
    have HAH : Hid (Calls Try.prog 21 #[.pointer (some ⟨rb, 0, none⟩), .int .i64 t] w fun e w' => e = .returned (.int .i64 (-1)) ∧ w' = w) := HA
    clear HA h hs
    go_enter Try.func34, Try.ntmps34
    go_wp2_with fail
    refine HAH.out.mono ?_
    rintro e w' ⟨rfl, hW⟩
    have hW := hW.symm
    subst hW
    go_wp2_with fail
    go_ret2
    refine ⟨by unfold refLeft; rw [HS.out]; rfl, .slice at_ T.length ct, .slice ah H.length ch, ?_, Kept.refl _ _, fun k h => .inl h⟩
    unfold refRest
    rw [HS.out]
    exact HR.out
  | some k =>
    have hk := spot_lt hs
    have HS : Hid (spot T t = some k) := hs
    unfold spotI at HA
    rw [hs] at HA
    have HAH : Hid (Calls Try.prog 21 #[.pointer (some ⟨rb, 0, none⟩), .int .i64 t] w fun e w' => e = .returned (.int .i64 (k : Int)) ∧ w' = w) := HA
    obtain ⟨y, hy⟩ : ∃ y, H[k]? = some y := ⟨_, List.getElem?_eq_getElem (by omega)⟩
    obtain ⟨gh, rfl, cy⟩ := h.rh.cell hy
    have HY : Hid (H[k]? = some y) := hy
    have t0 : ¬ (k : Int) < 0 := by omega
    have hkl : (k : Int) < (H.length : Int) := by omega
    have hch : H.length ≤ ch := by
      rcases h.rh.2 with ⟨h0, _⟩ | ⟨g, cap, cur, hv, _, _, h1, _⟩
      · simp at h0
      · simp only [Value.slice.injEq] at hv; omega
    obtain ⟨wa, hwa⟩ : ∃ wa, wa = (w.alloc (.cells #[] 3)).alloc (.cells #[] 3) := ⟨_, rfl⟩
    have hBa : Below w.heap.size w wa := by rw [hwa]; exact ((Below.refl _ w).alloc (Nat.le_refl _) _).alloc (by simp) _
    have HBA : Hid (Below w.heap.size w wa) := hBa
    have HNT : Hid (Nums wa w.heap.size (.slice (some ⟨w.heap.size, 0, none⟩) 0 0) []) := by rw [hwa]; exact World.ownsRow.alloc (nums_lit w _ (Nat.le_refl _)) _
    have HNH : Hid (Nums wa w.heap.size (.slice (some ⟨w.heap.size + 1, 0, none⟩) 0 0) []) := by
      have := nums_lit (w.alloc (.cells #[] 3)) w.heap.size (by simp)
      rw [World.size_alloc] at this
      rw [hwa]
      exact this
    have HWA : Hid (wa = (w.alloc (.cells #[] 3)).alloc (.cells #[] 3)) := hwa
    clear HA h hs hy hwa hBa
    go_enter Try.func34, Try.ntmps34
    go_wp2_with fail
    refine HAH.out.mono ?_
    rintro e w' ⟨rfl, hW⟩
    have hW := hW.symm
    subst hW
    go_wp2_with fail
    rw [← HWA.out]
    go_loopg [8, 9, 10] T.length (fun gk s8 s9 s10 wr => ∃ i : Nat, s10 = .int .i64 (i : Int) ∧ i ≤ T.length ∧ T.length - i ≤ gk ∧ Hid (Below w.heap.size w wr) ∧ Hid (Nums wr w.heap.size s8 ((T.take i).eraseIdx k)) ∧ Hid (Nums wr w.heap.size s9 ((H.take i).eraseIdx k)) ∧ Hid (s8.ownBlock = none ∨ s8.ownBlock ≠ s9.ownBlock))
    case atStart => exact ⟨0, rfl, Nat.zero_le _, Nat.le_refl _, HBA, HNT, HNH, .inr (by simp [Value.ownBlock])⟩
    case round =>
      clear HBA HNT HNH HWA
      obtain ⟨i, rfl, hit, hgk, HB, H8, H9, HAP⟩ := hrel
      have n0 : wr.cell? ⟨rb, 0, none⟩ = some (.slice at_ T.length ct) := (HB.out.cell (p := ⟨rb, 0, none⟩) hrl).trans m0
      have n1 : wr.cell? ⟨rb, 1, none⟩ = some (.slice (some ⟨gh, 0, none⟩) H.length ch) := (HB.out.cell (p := ⟨rb, 1, none⟩) hrl).trans m1
      have hrr : rb < wr.heap.size := cell_lt n0
      by_cases hil : i < T.length
      · have t1 : (i : Int) < (T.length : Int) := by omega
        by_cases hik : i = k
        · subst hik
          have HE : Hid ((T.take (i + 1)).eraseIdx i = (T.take i).eraseIdx i ∧ (H.take (i + 1)).eraseIdx i = (H.take i).eraseIdx i) := ⟨erase_skip _ _, erase_skip _ _⟩
          go_wp2_with fail
          go_roundg (T.length - (i + 1))
          case measure => omega
          case rel => exact ⟨i + 1, by go_num, by omega, Nat.le_refl _, HB, by rw [HE.out.1]; exact H8, by rw [HE.out.2]; exact H9, HAP⟩
        · obtain ⟨x, hx⟩ : ∃ x, T[i]? = some x := ⟨_, List.getElem?_eq_getElem hil⟩
          obtain ⟨z, hzz⟩ : ∃ z, H[i]? = some z := ⟨_, List.getElem?_eq_getElem (by omega)⟩
          have hiH : (i : Int) < (H.length : Int) := by omega
          obtain ⟨gt, rfl, cx⟩ := HR.out.rt.cell hx
          obtain ⟨gh', hgh, cz⟩ := HR.out.rh.cell hzz
          simp only [Option.some.injEq, Addr.mk.injEq, and_true] at hgh
          subst hgh
          have cxl := cell_lt cx
          have czl := cell_lt cz
          have cx2 : wr.cell? ⟨gt, i, none⟩ = some (.int .i64 x) := (HB.out.cell (p := ⟨gt, i, none⟩) cxl).trans cx
          have nek : ((i : Int) != (k : Int)) = true := by simp; omega
          have HET : Hid ((T.take (i + 1)).eraseIdx k = (T.take i).eraseIdx k ++ [x]) := erase_step hx hik
          have HEH : Hid ((H.take (i + 1)).eraseIdx k = (H.take i).eraseIdx k ++ [z]) := erase_step hzz hik
          obtain ⟨MT, hMT⟩ : ∃ MT, MT = (T.take i).eraseIdx k := ⟨_, rfl⟩
          obtain ⟨MH, hMH⟩ : ∃ MH, MH = (H.take i).eraseIdx k := ⟨_, rfl⟩
          rw [← hMT] at H8 HET
          rw [← hMH] at H9 HEH
          have HLT : Hid (MT.length ≤ 1073741823) := (show MT.length ≤ 1073741823 by have := erase_len (l := T) (k := k) hit; rw [← hMT] at this; omega)
          have HLH : Hid (MH.length ≤ 1073741823) := (show MH.length ≤ 1073741823 by have := erase_len (l := H) (k := k) (i := i) (by omega); rw [← hMH] at this; omega)
          have HZ : Hid (w.cell? ⟨gh, i, none⟩ = some (.int .i64 z) ∧ gh < w.heap.size) := ⟨cz, czl⟩
          clear hx hzz cx cz hMT hMH czl
          go_wp2_with (first
            | (at_builtin; refine wpList_append_own_at _ rfl (.tmp 37) (.tmp 45) 32 rfl w.heap.size 3 i0 (.int .i64 0) 1 8 Try.underlying32 hi hz0 hz1 hz2 rfl (by decide) _ MT.length (ints MT) rfl (World.ownsRow.alloc H8.out _) ⟨wr.heap.size, 0, none⟩ 1 1 [.int .i64 x] rfl rfl (by intro j u hj; cases j with | zero => simp at hj; subst hj; simp [Addr.add] | succ j => simp at hj) (by intro u hu; simp at hu; subst hu; rfl) (by have := HLT.out; unfold maxLen; omega) (by have := HLT.out; omega) (by have := HB.out.size; simp; omega) ?_; intro v8 wb hownb hgrb _ hatb; have hB2 : Below w.heap.size w wb := (HB.out.alloc HB.out.size _).grown hgrb (by have := HB.out.size; simp; omega) (fun g e => (World.ownsRow.lt H8.out g e).1); have N8 : Hid (Nums wb w.heap.size v8 (MT ++ [x])) := (show World.ownsRow _ _ _ _ _ _ _ by rw [ints_append, List.length_append]; exact hownb); have N9 : Hid (Nums wb w.heap.size u9 MH ∧ (v8.ownBlock = none ∨ v8.ownBlock ≠ u9.ownBlock)) := sep_step H9.out HAP.out hgrb hatb; have HB2 : Hid (Below w.heap.size w wb) := hB2; have p1 : wb.cell? ⟨rb, 1, none⟩ = some (.slice (some ⟨gh, 0, none⟩) H.length ch) := (hB2.cell (p := ⟨rb, 1, none⟩) hrl).trans m1; have cz2 : wb.cell? ⟨gh, i, none⟩ = some (.int .i64 z) := (hB2.cell (p := ⟨gh, i, none⟩) HZ.out.2).trans HZ.out.1; clear hB2 hownb hgrb hatb)
            | (at_builtin; refine wpList_append_own_at _ rfl (.tmp 47) (.tmp 55) 32 rfl w.heap.size 3 i0 (.int .i64 0) 1 8 Try.underlying32 hi hz0 hz1 hz2 rfl (by decide) _ MH.length (ints MH) rfl (World.ownsRow.alloc N9.out.1 _) ⟨wb.heap.size, 0, none⟩ 1 1 [.int .i64 z] rfl rfl (by intro j u hj; cases j with | zero => simp at hj; subst hj; simp [Addr.add] | succ j => simp at hj) (by intro u hu; simp at hu; subst hu; rfl) (by have := HLH.out; unfold maxLen; omega) (by have := HLH.out; omega) (by have := HB2.out.size; simp; omega) ?_; intro v9 wd hownd hgrd _ hatd; have hB3 : Below w.heap.size w wd := (HB2.out.alloc HB2.out.size _).grown hgrd (by have := HB2.out.size; simp; omega) (fun g e => (World.ownsRow.lt N9.out.1 g e).1); have P9 : Hid (Nums wd w.heap.size v9 (MH ++ [z])) := (show World.ownsRow _ _ _ _ _ _ _ by rw [ints_append, List.length_append]; exact hownd); have P8 : Hid (Nums wd w.heap.size v8 (MT ++ [x]) ∧ (v9.ownBlock = none ∨ v9.ownBlock ≠ v8.ownBlock)) := sep_step N8.out (ap_symm N9.out.2) hgrd hatd; have HB3 : Hid (Below w.heap.size w wd) := hB3; clear hB3 hownd hgrd hatd))
          go_roundg (T.length - (i + 1))
          case measure => omega
          case rel => exact ⟨i + 1, by go_num, by omega, Nat.le_refl _, HB3, by rw [HET.out]; exact P8.out.1, by rw [HEH.out]; exact P9, ap_symm P8.out.2⟩
      · have t1 : ¬ (i : Int) < (T.length : Int) := by omega
        obtain rfl : i = T.length := by omega
        have hTT := H8.out
        have hHH := H9.out
        rw [List.take_length] at hTT
        rw [hTH, List.take_length] at hHH
        obtain ⟨a8, c8, rfl⟩ := hTT.form
        obtain ⟨a9, c9, rfl⟩ := hHH.form
        have hRw := HR.out.below HB.out
        have hsep : ∀ v : Value, (∃ l, Nums wr w.heap.size v l) → ∀ u : Value, (∃ l, Nums w B u l) → v.ownBlock = none ∨ v.ownBlock ≠ u.ownBlock := fun v hv u hu => by
          cases hb : v.ownBlock with
          | none => exact .inl rfl
          | some g =>
            refine .inr (fun e => ?_)
            obtain ⟨_, h1⟩ := hv
            obtain ⟨_, h2⟩ := hu
            obtain ⟨_, _, h3⟩ := h1.block hb
            obtain ⟨_, h4, _⟩ := h2.block e.symm
            have := (Array.getElem?_eq_some_iff.1 h4).1
            omega
        have hT8 : Nums wr B (.slice a8 (T.eraseIdx k).length c8) (T.eraseIdx k) := ⟨hTT.1, hTT.2.imp id (fun ⟨g, cap, cur, h1, h2, h3⟩ => ⟨g, cap, cur, h1, Nat.le_trans hB h2, h3⟩)⟩
        have hH9 : Nums wr B (.slice a9 (H.eraseIdx k).length c9) (H.eraseIdx k) := ⟨hHH.1, hHH.2.imp id (fun ⟨g, cap, cur, h1, h2, h3⟩ => ⟨g, cap, cur, h1, Nat.le_trans hB h2, h3⟩)⟩
        obtain ⟨r2, k2, e1, e2⟩ := hRw.putT (Kept.refl _ _) hT8 (hsep _ ⟨_, hTT⟩ _ ⟨_, HR.out.rh⟩)
        obtain ⟨w2, hw2⟩ : ∃ w2, w2 = wr.setCell ⟨rb, 0, none⟩ (.slice a8 (T.eraseIdx k).length c8) := ⟨_, rfl⟩
        rw [← hw2] at r2 k2
        have hH92 : Nums w2 B (.slice a9 (H.eraseIdx k).length c9) (H.eraseIdx k) := by rw [hw2]; exact own_set hH9 ⟨_, hRw.box⟩
        obtain ⟨r3, k3, e3, e4⟩ := r2.putH (Kept.refl _ _) hH92 HAP.out
        have HF : Hid (RefAt B (w2.setCell ⟨rb, 1, none⟩ (.slice a9 (H.eraseIdx k).length c9)) rb J (.slice a8 (T.eraseIdx k).length c8) (.slice a9 (H.eraseIdx k).length c9) (T.eraseIdx k) (H.eraseIdx k)) := r3
        have HKF : Hid (Kept (RMine rb (.slice at_ T.length ct) (.slice (some ⟨gh, 0, none⟩) H.length ch)) w (w2.setCell ⟨rb, 1, none⟩ (.slice a9 (H.eraseIdx k).length c9))) := by
          refine ((Kept.ofBelow HB.out).trans k2).step k3 (fun j hj e => ?_)
          rcases e with e | e | e
          · exact .inl e
          · obtain ⟨_, _, h3⟩ := hTT.block e
            omega
          · exact .inr (.inr e)
        have HFR : Hid (∀ j, RMine rb (.slice a8 (T.eraseIdx k).length c8) (.slice a9 (H.eraseIdx k).length c9) j → RMine rb (.slice at_ T.length ct) (.slice (some ⟨gh, 0, none⟩) H.length ch) j ∨ w.heap.size ≤ j) := (show _ from fun j hj => by
          rcases hj with e | e | e
          · exact .inl (.inl e)
          · obtain ⟨_, _, h3⟩ := hTT.block e
            exact .inr h3
          · obtain ⟨_, _, h3⟩ := hHH.block e
            exact .inr h3)
        have fr1 : wr.frozen? ⟨rb, 1, none⟩ = false := by simp [World.frozen?, hRw.box]
        have HW2 : Hid (w2 = wr.setCell ⟨rb, 0, none⟩ (.slice a8 (T.eraseIdx k).length c8)) := hw2
        obtain ⟨lt8, hlt8⟩ : ∃ n, n = (T.eraseIdx k).length := ⟨_, rfl⟩
        obtain ⟨lh9, hlh9⟩ : ∃ n, n = (H.eraseIdx k).length := ⟨_, rfl⟩
        rw [← hlt8] at HF HW2 HFR ⊢
        rw [← hlh9] at HF HKF HFR ⊢
        clear r2 k2 r3 k3 hRw hsep hT8 hH9 hH92 hTT hHH hw2 hlt8 hlh9 H8 H9 HAP
        have HTH : Hid (T.length = H.length) := hTH
        clear hTH e3 e4
        go_wp2_with fail
        rw [← HW2.out]
        go_ret2
        refine ⟨?_, .slice a8 lt8 c8, .slice a9 lh9 c9, ?_, HKF.out, HFR.out⟩
        · unfold refLeft
          rw [HS.out]
          simp only [List.getD_eq_getElem?_getD, HY.out, Option.getD_some]
          rfl
        · unfold refRest
          rw [HS.out]
          exact HF.out
theorem refLeave (B : Nat) (w : World) (rb : Nat) (J t : Int) (vt vh : Value) (T H : List Int) (h : RefAt B w rb J vt vh T H) (hT : T.length ≤ 1073741823) (hTH : T.length = H.length) (hB : B ≤ w.heap.size) :
    Calls Try.prog 34 #[.pointer (some ⟨rb, 0, none⟩), .int .i64 t] w fun e w' => e = .returned (refLeft T H t) ∧
      ∃ vt' vh', RefAt B w' rb J vt' vh' (refRest T T t) (refRest T H t) ∧ Kept (RMine rb vt vh) w w' := by
  refine (refLeaveF B w rb J t vt vh T H h hT hTH hB).mono ?_
  rintro e w' ⟨h1, vt', vh', h2, h3, _⟩
  exact ⟨h1, vt', vh', h2, h3⟩
end Go.Proofs.Ytccpaapbgdpghaa
