/-
  The functions that word hands to sort.Search, and number to word.
-/
import Derived.Test.YtomgnailgddchaaDoorTrial
import Derived.Test.YtomgnailgddchaaDoorJD
import Derived.Test.YtomgnailgddchaaDoorShelfS
import Derived.Sort.Grow
namespace Go.Proofs.YtomgnailgddchaaDoor
open Go.RowKit Go.Sort

/-- Blocks were laid and orders drawn: nothing else. -/
def Grew (w w' : World) : Prop := ∃ q os, w' = grow (w.drewN q) os
theorem Grew.refl (w : World) : Grew w w := ⟨0, #[], by simp; rfl⟩
theorem Grew.trans {a b c : World} (h : Grew a b) (k : Grew b c) : Grew a c := by
  obtain ⟨q, os, rfl⟩ := h
  obtain ⟨q', os', rfl⟩ := k
  refine ⟨q + q', os ++ os', ?_⟩
  rw [show (grow (a.drewN q) os).drewN q' = grow (a.drewN (q + q')) os by simp [grow, World.drewN, Nat.add_assoc], grow_grow]
theorem Grew.alloc {a b : World} (h : Grew a b) (o : Obj) : Grew a (b.alloc o) := h.trans ⟨0, #[o], by rw [alloc_eq_grow]; rfl⟩
theorem Grew.drew {a b : World} (h : Grew a b) : Grew a b.drew := h.trans ⟨1, #[], by simp; rfl⟩
theorem Grew.below {a b : World} (h : Grew a b) : Below a.heap.size a b := by
  obtain ⟨q, os, rfl⟩ := h
  exact below_grow _ _ (Nat.le_refl _) _ _
theorem Grew.cell {a b : World} (h : Grew a b) {p : Addr} {v : Value} (hc : a.cell? p = some v) : b.cell? p = some v := (h.below.cell (p := p) (cell_lt hc)).trans hc
/-- The table that Itoa reads. -/
def PowAt (w : World) : Prop := Lib.TabIs Tryd.prog w "internal/strconv.uint64pow10" .u64 Lib.pow10Tab
theorem PowAt.grew {w w' : World} (h : PowAt w) (hg : Grew w w') : PowAt w' := tab_below hg.below h

/-- A function of texts, wherever the memory has got to. -/
def FitsFn (w : World) (g : Nat) (cb : Array Value) (fits : List UInt8 → Bool) : Prop :=
  ∀ (W : World) (s : ByteArray), Grew w W → s.size ≤ 200 → Calls Tryd.prog g (#[.string s] ++ cb) W fun e w' => e = .returned (.bool (fits s.data.toList)) ∧ Grew W w'
theorem FitsFn.grew {w w' : World} {g : Nat} {cb : Array Value} {fits : List UInt8 → Bool} (h : FitsFn w g cb fits) (hg : Grew w w') : FitsFn w' g cb fits := fun W s hW hs => h W s (hg.trans hW) hs
theorem fits_valid (w : World) : FitsFn w 37 #[] validB := fun W s _ _ => by
  refine (valid_any s W).mono ?_
  rintro e w' ⟨rfl, rfl⟩
  exact ⟨rfl, Grew.refl _⟩

theorem parse_pos (most : Int) : ∀ (l : List UInt8) (n : Int), 0 ≤ n → ∀ v, parseFrom most l n = some v → 0 ≤ v
  | [], n, hn, v, h => by rw [parseFrom] at h; cases h; exact hn
  | c :: r, n, hn, v, h => by
    rw [parseFrom] at h
    split at h
    · rename_i hc
      split at h
      · cases h
      · exact parse_pos most r _ (by omega) v h
    · cases h
theorem parse_le (most : Int) : ∀ (l : List UInt8) (n : Int), n ≤ most → ∀ v, parseFrom most l n = some v → v ≤ most
  | [], n, hn, v, h => by rw [parseFrom] at h; cases h; exact hn
  | c :: r, n, hn, v, h => by
    rw [parseFrom] at h
    split at h
    · rename_i hc
      split at h
      · cases h
      · exact parse_le most r _ (by omega) v h
    · cases h
theorem parseV_pos (l : List UInt8) (most : Int) : 0 ≤ parseV l most := by
  unfold parseV
  split
  · exact Int.le_refl _
  · cases h : parseFrom most l 0 with
    | none => exact Int.le_refl _
    | some v => exact parse_pos most l 0 (Int.le_refl _) v h
theorem parseV_le (l : List UInt8) (most : Int) (hm : 0 ≤ most) : parseV l most ≤ most := by
  unfold parseV
  split
  · exact hm
  · cases h : parseFrom most l 0 with
    | none => exact hm
    | some v => exact parse_le most l 0 hm v h

set_option maxHeartbeats 2000000 in
set_option maxRecDepth 1000000 in
theorem numfits_any (W : World) (s : ByteArray) (least most : Int) (bm bl : Nat) (hm : W.cell? ⟨bm, 0, none⟩ = some (.int .i64 most)) (hl : W.cell? ⟨bl, 0, none⟩ = some (.int .i64 least)) (h0 : 0 ≤ most) (h1 : most ≤ 9223372036854775807) (hp : PowAt W) :
    Calls Tryd.prog 63 (#[.string s] ++ #[.pointer (some ⟨bm, 0, none⟩), .pointer (some ⟨bl, 0, none⟩)]) W fun e w' => e = .returned (.bool (numFits least most s.data.toList)) ∧ Grew W w' := by
  have HP : Hid (PowAt W) := hp
  have v0 := parseV_pos s.data.toList most
  have v1 := parseV_le s.data.toList most h0
  obtain ⟨v, hv⟩ : ∃ v, v = parseV s.data.toList most := ⟨_, rfl⟩
  obtain ⟨ok, hok⟩ : ∃ ok, ok = parseB s.data.toList most := ⟨_, rfl⟩
  have HF : Hid (numFits least most s.data.toList = (ok && decide (least ≤ v) && decide (decL v = s.data.toList))) := by
    show numFits _ _ _ = _
    unfold numFits
    rw [← hv, ← hok]
  have HPA : Hid (∀ w : World, Calls Tryd.prog 64 #[.string s, .int .i64 most] w fun e w' => e = .returned (.tuple #[.int .i64 v, .bool ok]) ∧ Grew w w') := fun w => by
    rw [hv, hok]
    refine (parse_any s most w (by omega) h1).mono ?_
    rintro e w' ⟨rfl, pos, rfl⟩
    exact ⟨rfl, (Grew.refl w).alloc _⟩
  rw [← hv] at v0 v1
  clear hv hok hp
  have hlt1 := cell_lt hm
  have HL : Hid (W.cell? ⟨bl, 0, none⟩ = some (.int .i64 least)) := hl
  clear hl
  cases ok with
  | false =>
    go_enter Tryd.func63, Tryd.ntmps63
    go_wp2_with (first
      | (go_at_call 64; refine (HPA.out _).mono ?_; rintro e w1 ⟨rfl, G1⟩; have hl1 := G1.cell HL.out; have hG1 := hide G1; clear G1))
    go_ret
    exact ⟨by rw [HF.out]; rfl, hG1.out⟩
  | true =>
    by_cases hle : least ≤ v
    · go_enter Tryd.func63, Tryd.ntmps63
      go_wp2_with (first
        | (go_at_call 64; refine (HPA.out _).mono ?_; rintro e w1 ⟨rfl, G1⟩; have hl1 := G1.cell HL.out; have hG1 := hide G1; clear G1)
        | (go_at_call 40; refine (print_grew v _ (by omega) (by omega) (PowAt.grew HP.out hG1.out)).mono ?_; rintro e w2 ⟨rfl, G2⟩; have hG2 := hide (G2 : Grew w1 w2); clear G2))
      go_ret
      refine ⟨?_, hG1.out.trans hG2.out⟩
      rw [HF.out, print_dec v0, decide_eq_true hle]
      refine congrArg (fun b => Ending.returned (.bool b)) ?_
      rw [ByteArray.toList_eq]
      unfold decL
      rw [Bool.true_and, Bool.true_and, Bool.beq_eq_decide_eq]
    · go_enter Tryd.func63, Tryd.ntmps63
      go_wp2_with (first
        | (go_at_call 64; refine (HPA.out _).mono ?_; rintro e w1 ⟨rfl, G1⟩; have hl1 := G1.cell HL.out; have hG1 := hide G1; clear G1))
      go_ret
      exact ⟨by rw [HF.out, decide_eq_false (by omega)]; rfl, hG1.out⟩

theorem extract_take (s : ByteArray) (n : Nat) : (s.extract 0 n).data.toList = s.data.toList.take n := by
  rw [ByteArray.data_extract, Array.toList_extract]
  simp [List.extract]
set_option maxHeartbeats 2000000 in
set_option maxRecDepth 1000000 in
theorem wordfits_any (W : World) (g : Nat) (cb : Array Value) (fits : List UInt8 → Bool) (s : ByteArray) (bf bs i : Nat) (hf : W.cell? ⟨bf, 0, none⟩ = some (.func (.func g) #[] cb)) (hs : W.cell? ⟨bs, 0, none⟩ = some (.string s)) (hi : i < s.size) (hsz : s.size ≤ 200) (F : FitsFn W g cb fits) (eg : ∀ args w, (callFunc g args).run Tryd.prog w = .ok (.enter g args) w) :
    Calls Tryd.prog 66 (#[.int .i64 (i : Int)] ++ #[.pointer (some ⟨bf, 0, none⟩), .pointer (some ⟨bs, 0, none⟩)]) W fun e w' => e = .returned (.bool (!fits (s.data.toList.take (i + 1)))) ∧ Grew W w' := by
  have HF := hide F
  clear F
  have HZ : Hid ((s.extract 0 (i + 1)).size ≤ 200) := by
    show (s.extract 0 (i + 1)).size ≤ 200
    rw [ByteArray.size_extract]
    omega
  have hlt1 := cell_lt hf
  have hlt2 := cell_lt hs
  go_enter Tryd.func66, Tryd.ntmps66
  go_wp2_with fail
  refine wp_tail 5 mixed (by kernel_rfl) ?_
  simp only [List.take_succ_cons, List.take_zero, List.drop_succ_cons, List.drop_zero]
  still_step
  still_step
  still_step
  still_step
  rw [show IntKind.i64.wrap ((i : Int) + 1) = ((i + 1 : Nat) : Int) by rw [IntWalk.i64_in _ (by omega)]; omega]
  refine wpStill_step (fun K hK => ?_)
  go_simp
  rw [if_pos (show (0 : Int) ≤ (i : Int) + 1 ∧ (i : Int) + 1 ≤ (s.size : Int) by omega)]
  refine ⟨rfl, hK _ ?_⟩
  clear hK K
  refine wpStill_nil ?_
  go_wp2_with (go_at_fn g; refine (HF.out W.drew (s.extract 0 (i + 1)) (Grew.refl W).drew HZ.out).mono ?_; rintro e w1 ⟨rfl, G1⟩; have hG1 := hide G1; clear G1)
  go_ret
  refine ⟨?_, (Grew.refl W).drew.trans hG1.out⟩
  rw [← extract_take]
  rfl
end Go.Proofs.YtomgnailgddchaaDoor
