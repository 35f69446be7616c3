/-
  The walk of RecordForms.
-/
import Derived.Test.YtgpfomidecihdaaShown
import Derived.Test.YtgpfomidecihdaaSameW
namespace Go.Proofs.Ytgpfomidecihdaa
open Go.RowKit

theorem takeN_len : ∀ (fs : List Nat) (b : List UInt8) (n n' : Nat → Int) (rest : List UInt8), takeN fs b n = some (n', rest) → b.length = 8 * fs.length + rest.length
  | [], b, n, n', rest, h => by
    simp only [takeN, Option.some.injEq, Prod.mk.injEq] at h
    rw [h.2]
    simp
  | g :: fs, b, n, n', rest, h => by
    rw [takeN] at h
    split at h
    · cases h
    · have := takeN_len fs _ _ n' rest h
      rw [List.length_drop] at this
      rw [List.length_cons]
      omega
theorem get_length {c : UInt8} {r : List UInt8} {x : Rec} {body : List UInt8} (h : getP (c :: r) = some (x, body)) (hk : ¬ (c.toNat : Int) = 2) : r.length = 8 * (fieldsL (c.toNat : Int)).length ∧ x.kind = (c.toNat : Int) := by
  simp only [getP] at h
  split at h
  · cases h
  · rename_i n rest hn
    rw [getK, if_neg hk] at h
    obtain ⟨rfl, rfl, hc⟩ := fin_some h
    have ht := (check_ok hc).2.2.2
    rw [textB, if_neg hk, Bool.and_eq_true, beq_iff_eq, beq_iff_eq] at ht
    have := takeN_len _ _ _ _ _ hn
    exact ⟨by rw [this, ht.2]; rfl, rfl⟩
theorem get_other {c : UInt8} {r r' : List UInt8} {x : Rec} {body : List UInt8} (h : getP (c :: r) = some (x, body)) (hk : ¬ (c.toNat : Int) = 2) (hr : r'.length ≠ r.length) : getP (c :: r') = none := by
  cases h2 : getP (c :: r') with
  | none => rfl
  | some p =>
    have h1 := (get_length h hk).1
    have h3 := (get_length (x := p.1) (body := p.2) h2 hk).1
    omega
theorem kind_head {c : UInt8} {r : List UInt8} {x : Rec} {body : List UInt8} (h : getP (c :: r) = some (x, body)) : x.kind = (c.toNat : Int) := by
  by_cases hk : (c.toNat : Int) = 2
  · simp only [getP] at h
    split at h
    · cases h
    · rename_i n rest hn
      rw [getK, if_pos hk] at h
      split at h
      · cases h
      · exact (fin_some h).1 ▸ rfl
  · exact (get_length h hk).2
theorem fields_pos {k : Int} (h : withinB k 1 4 = true) : 0 < (fieldsL k).length := by
  have := within_iff.1 h
  have : k = 1 ∨ k = 2 ∨ k = 3 ∨ k = 4 := by omega
  rcases this with rfl | rfl | rfl | rfl <;> decide
/-- One byte more or less of what is no whole record is not read. -/
theorem forms_other {l : List UInt8} {x : Rec} {body : List UInt8} (h : getP l = some (x, body)) (hk : ¬ x.kind = 2) : getP (l.take (l.length - 1)) = none ∧ getP (l ++ [0]) = none ∧ 1 ≤ l.length := by
  match l, h with
  | c :: r, h =>
    have hc := kind_head h
    rw [hc] at hk
    have hl := get_length h hk
    have hp := fields_pos (check_ok (get_put _ _ _ h).1).1
    rw [hc] at hp
    refine ⟨?_, ?_, by simp⟩
    · have e : (c :: r).take ((c :: r).length - 1) = c :: r.take (r.length - 1) := by
        obtain ⟨m, hm⟩ : ∃ m, r.length = m + 1 := ⟨r.length - 1, by omega⟩
        rw [List.length_cons, hm]
        rfl
      rw [e]
      exact get_other h hk (by rw [List.length_take]; omega)
    · rw [List.cons_append]
      exact get_other h hk (by simp)
theorem Own.lit (w : World) (B : Nat) (hB : B ≤ w.heap.size) : Own (w.alloc (.cells #[] 5)) B (.slice (some ⟨w.heap.size, 0, none⟩) 0 0) [] :=
  ⟨rfl, .inr ⟨w.heap.size, 0, #[], rfl, hB, heap_alloc_last _ _, Nat.le_refl _, by unfold maxLen; omega, rfl, rfl⟩⟩
end Go.Proofs.Ytgpfomidecihdaa
namespace Go.Proofs.Ytgpfomidecihdaa.recordForms
open Go.RowKit

set_option maxHeartbeats 2000000 in
set_option maxRecDepth 1000000 in
theorem walk_no (a : Option Addr) (cap : Nat) (l : List UInt8) (w : World) (hb : IsBytes w a cap l) (h0 : getP l = none) :
    Calls Try.prog 8 #[.slice a l.length cap] w fun e w' => e = .returned (.bool true) ∧ Below w.heap.size w w' := by
  have CG : Hid (∀ W, Below w.heap.size w W → Calls Try.prog 22 #[.slice a l.length cap] W fun e w' => e = .returned (.tuple #[.agg (recA zeroR (.slice none 0 0)), .int .i64 102]) ∧ Below W.heap.size W w') := fun W hW => by
    refine (get_any a cap l W (hb.below hW)).mono ?_
    rintro e w' ⟨hB, ⟨_, rfl⟩ | ⟨x, body, v, h, _⟩⟩
    · exact ⟨rfl, hB⟩
    · rw [h0] at h; cases h
  have CM : Hid (∀ W, Calls Try.prog 24 #[.agg (recA zeroR (.slice none 0 0)), .agg (recA zeroR (.slice none 0 0))] W fun e w' => e = .returned (.bool true) ∧ Below W.heap.size W w') := fun W => same_any zeroR zeroR none none 0 0 [] W (nil_bytes W) (nil_bytes W) rfl rfl (fun _ _ => rfl)
  clear hb h0
  go_enter Try.func8, Try.ntmps8
  go_wp2_with (first
    | (go_at_call 9
       refine (shown_any _).mono ?_
       rintro e w1 ⟨rfl, B1⟩
       have BX1 : Hid (Below w.heap.size w w1) := B1
       clear B1)
    | (go_at_call 22
       refine (CG.out _ BX1.out).mono ?_
       rintro e w2 ⟨rfl, B2⟩
       have BX2 : Hid (Below w.heap.size w w2) := BX1.out.trans (B2.mono BX1.out.size)
       clear B2)
    | (refine wpList_store_new rfl 34 (.tmp 4) (.tmp 17) rfl (recA zeroR (.slice none 0 0)) rfl rfl 34 _ info_rec rfl (rec_one _ _ _ _) ?_)
    | (refine wpList_load_wanted (by rfl) 34 (.tmp 4) rfl w2.heap.size rfl 34 (recA zeroR (.slice none 0 0)) (0, 0) _ (heap_alloc_last _ _) under_rec rfl info_rec ?_)
    | (go_at_call 24
       refine (CM.out _).mono ?_
       rintro e w3 ⟨rfl, B3⟩
       have BX3 : Hid (Below w.heap.size w w3) := BX2.out.trans ((below_box B3).mono BX2.out.size)
       clear B3))
  go_ret
  exact ⟨rfl, BX3.out⟩

set_option maxHeartbeats 2000000 in
set_option maxRecDepth 1000000 in
theorem walk_whole (a : Option Addr) (cap : Nat) (l : List UInt8) (w : World) (hb : IsBytes w a cap l) (X : Rec) (body : List UInt8) (h0 : getP l = some (X, body)) (hk : X.kind = 2) :
    Calls Try.prog 8 #[.slice a l.length cap] w fun e w' => e = .returned (.bool true) ∧ Below w.heap.size w w' := by
  obtain ⟨hck, hput⟩ := get_put l X body h0
  have hll : (putL X body).length = l.length := by rw [hput]
  have CG : Hid (∀ W, Below w.heap.size w W → Calls Try.prog 22 #[.slice a l.length cap] W fun e w' => ∃ a3 c3, e = .returned (.tuple #[.agg (recA X (.slice a3 body.length c3)), .int .i64 0]) ∧ IsBytes w' a3 c3 body ∧ Below W.heap.size W w') := fun W hW => by
    refine (get_any a cap l W (hb.below hW)).mono ?_
    rintro e w' ⟨hB, ⟨h, _⟩ | ⟨x, body', v, h, rfl, o⟩⟩
    · rw [h0] at h; cases h
    · rw [h0] at h
      simp only [Option.some.injEq, Prod.mk.injEq] at h
      obtain ⟨rfl, rfl⟩ := h
      obtain ⟨a3, c3, rfl, hi⟩ := o.shape
      exact ⟨a3, c3, rfl, hi, hB⟩
  have CP : Hid (∀ W a3 c3, IsBytes W a3 c3 body → Calls Try.prog 18 #[.agg (recA X (.slice a3 body.length c3))] W fun e w' => ∃ a2 c2, e = .returned (.tuple #[.slice a2 l.length c2, .int .i64 0]) ∧ IsBytes w' a2 c2 l ∧ Below W.heap.size W w') := fun W a3 c3 hI => by
    refine (put_yes X a3 c3 body W hI hck).mono ?_
    rintro e w' ⟨v, rfl, o, hB⟩
    rw [hput] at o
    obtain ⟨a2, c2, rfl, hi⟩ := o.shape
    exact ⟨a2, c2, rfl, hi, hB⟩
  have CC : Hid (∀ W a3 c3, Calls Try.prog 13 #[.agg (recA X (.slice a3 body.length c3))] W fun e w' => e = .returned (.int .i64 0) ∧ Below W.heap.size W w') := fun W a3 c3 => by
    have := check_any X a3 body.length c3 W
    rw [hck] at this
    exact this
  obtain ⟨T, hT⟩ : ∃ T : ByteArray, T = ⟨l.toArray⟩ := ⟨_, rfl⟩
  have KC : Hid (∀ W a2 c2, IsBytes W a2 c2 l → (convert 30 9 (.slice a2 l.length c2)).run Try.prog W = .ok (.string T) W) := fun W a2 c2 hI => by rw [hT]; exact conv_is hI rfl
  have HB : Hid (IsBytes w a cap l) := hb
  have hsl : (l.length : Int) ≤ 65841 := by
    have hs := check_small hck
    have hn := fields_len X.kind
    rw [← hll, put_length]
    unfold sizeL
    split <;> omega
  obtain ⟨n, hn⟩ : ∃ n, n = l.length := ⟨_, rfl⟩
  have HN : Hid (n = l.length) := hn
  rw [← hn] at CG CP KC hsl ⊢
  have e2 : (X.kind == 2) = true := by rw [hk]; rfl
  have hcap : n ≤ cap := by rw [hn]; exact hb.1
  have hcm : cap ≤ 9223372036854775807 := by have := hb.2.1; unfold maxLen at this; omega
  obtain ⟨m, hm⟩ : ∃ m, m = body.length := ⟨_, rfl⟩
  rw [← hm] at CG CP CC
  clear hT hn hm hb h0 hk hck hput hll
  go_enter Try.func8, Try.ntmps8
  go_wp2_with (first
    | (go_at_call 9
       refine (shown_any _).mono ?_
       rintro e w1 ⟨rfl, B1⟩
       have BX1 : Hid (Below w.heap.size w w1) := B1
       clear B1)
    | (go_at_call 22
       refine (CG.out _ BX1.out).mono ?_
       rintro e w2 ⟨a3, c3, rfl, i2, B2⟩
       have BX2 : Hid (Below w.heap.size w w2) := BX1.out.trans (B2.mono BX1.out.size)
       have I2 : Hid (IsBytes w2 a3 c3 body) := i2
       clear B2 i2
       obtain ⟨D, hD⟩ : ∃ D, D = recA X (.slice a3 m c3) := ⟨_, rfl⟩
       rw [← hD]
       have HD : Hid (D = recA X (.slice a3 m c3)) := hD
       have HD1 : Hid (D.all (·.oneCell') = true ∧ D.size = 19) := ⟨by rw [hD]; exact rec_one _ _ _ _, by rw [hD]; rfl⟩
       clear hD)
    | (refine wpList_store_new rfl 34 (.tmp 4) (.tmp 17) rfl D rfl rfl 34 _ (by rw [HD1.out.2]; exact info_rec) (by rw [HD1.out.2]; rfl) HD1.out.1 ?_)
    | (refine wpList_load_row rfl 34 (.tmp 4) rfl w2.heap.size rfl 34 D (0, 0) _ (heap_alloc_last _ _) under_rec rfl (by rw [HD1.out.2]; exact info_rec) ?_)
    | (go_at_call 18
       rw [HD.out]
       refine (CP.out _ a3 c3 (I2.out.below ((Below.refl _ w2).alloc (Nat.le_refl _) _))).mono ?_
       rw [← HD.out]
       rintro e w3 ⟨a2, c2, rfl, i3, B3⟩
       have Bz : Below w2.heap.size w2 w3 := below_box B3
       have BX3 : Hid (Below w.heap.size w w3) := BX2.out.trans (Bz.mono BX2.out.size)
       have D3 : Hid (RecAt w3 w2.heap.size X (.slice a3 m c3)) := (B3.block _ (by simp)).trans (by rw [HD.out]; exact heap_alloc_last _ _)
       have q1 := KC.out w3 a2 c2 i3
       have q2 := KC.out w3 a cap (HB.out.below BX3.out)
       clear B3 Bz i3)
    | (refine wpList_load_wanted (by rfl) 34 (.tmp 4) rfl w2.heap.size rfl 34 D (0, 0) _ (by rw [HD.out]; exact D3.out) under_rec rfl (by rw [HD1.out.2]; exact info_rec) ?_)
    | (go_at_call 13
       rw [HD.out]
       refine (CC.out _ a3 c3).mono ?_
       rw [← HD.out]
       rintro e w4 ⟨rfl, B4⟩
       have BX4 : Hid (Below w.heap.size w w4) := BX3.out.trans (B4.mono BX3.out.size)
       have k0 := (D3.out.below B4).kind
       clear B4))
  go_ret
  exact ⟨rfl, BX4.out⟩

set_option maxHeartbeats 2000000 in
set_option maxRecDepth 1000000 in
theorem walk_plain (a : Option Addr) (cap : Nat) (l : List UInt8) (w : World) (hb : IsBytes w a cap l) (X : Rec) (body : List UInt8) (h0 : getP l = some (X, body)) (hk : ¬ X.kind = 2) :
    Calls Try.prog 8 #[.slice a l.length cap] w fun e w' => e = .returned (.bool true) ∧ Below w.heap.size w w' := by
  obtain ⟨hck, hput⟩ := get_put l X body h0
  have hll : (putL X body).length = l.length := by rw [hput]
  have CG : Hid (∀ W, Below w.heap.size w W → Calls Try.prog 22 #[.slice a l.length cap] W fun e w' => ∃ a3 c3, e = .returned (.tuple #[.agg (recA X (.slice a3 body.length c3)), .int .i64 0]) ∧ IsBytes w' a3 c3 body ∧ Below W.heap.size W w') := fun W hW => by
    refine (get_any a cap l W (hb.below hW)).mono ?_
    rintro e w' ⟨hB, ⟨h, _⟩ | ⟨x, body', v, h, rfl, o⟩⟩
    · rw [h0] at h; cases h
    · rw [h0] at h
      simp only [Option.some.injEq, Prod.mk.injEq] at h
      obtain ⟨rfl, rfl⟩ := h
      obtain ⟨a3, c3, rfl, hi⟩ := o.shape
      exact ⟨a3, c3, rfl, hi, hB⟩
  have CP : Hid (∀ W a3 c3, IsBytes W a3 c3 body → Calls Try.prog 18 #[.agg (recA X (.slice a3 body.length c3))] W fun e w' => ∃ a2 c2, e = .returned (.tuple #[.slice a2 l.length c2, .int .i64 0]) ∧ IsBytes w' a2 c2 l ∧ Below W.heap.size W w') := fun W a3 c3 hI => by
    refine (put_yes X a3 c3 body W hI hck).mono ?_
    rintro e w' ⟨v, rfl, o, hB⟩
    rw [hput] at o
    obtain ⟨a2, c2, rfl, hi⟩ := o.shape
    exact ⟨a2, c2, rfl, hi, hB⟩
  have CC : Hid (∀ W a3 c3, Calls Try.prog 13 #[.agg (recA X (.slice a3 body.length c3))] W fun e w' => e = .returned (.int .i64 0) ∧ Below W.heap.size W w') := fun W a3 c3 => by
    have := check_any X a3 body.length c3 W
    rw [hck] at this
    exact this
  obtain ⟨ho1, ho2, ho3⟩ := forms_other h0 hk
  have CG2 : Hid (∀ W, Below w.heap.size w W → Calls Try.prog 22 #[.slice a (l.length - 1) cap] W fun e w' => e = .returned (.tuple #[.agg (recA zeroR (.slice none 0 0)), .int .i64 102]) ∧ Below W.heap.size W w') := fun W hW => by
    have := get_any a cap (l.take (l.length - 1)) W ((hb.take (l.length - 1)).below hW)
    rw [show (l.take (l.length - 1)).length = l.length - 1 by rw [List.length_take]; omega] at this
    refine this.mono ?_
    rintro e w' ⟨hB, ⟨_, rfl⟩ | ⟨x, body', v, h, _⟩⟩
    · exact ⟨rfl, hB⟩
    · rw [ho1] at h; cases h
  have CG3 : Hid (∀ W a2 c2, IsBytes W a2 c2 (l ++ [0]) → Calls Try.prog 22 #[.slice a2 (l.length + 1) c2] W fun e w' => e = .returned (.tuple #[.agg (recA zeroR (.slice none 0 0)), .int .i64 102]) ∧ Below W.heap.size W w') := fun W a2 c2 hI => by
    have := get_any a2 c2 (l ++ [0]) W hI
    rw [show (l ++ [(0 : UInt8)]).length = l.length + 1 by simp] at this
    refine this.mono ?_
    rintro e w' ⟨hB, ⟨_, rfl⟩ | ⟨x, body', v, h, _⟩⟩
    · exact ⟨rfl, hB⟩
    · rw [ho2] at h; cases h
  obtain ⟨T, hT⟩ : ∃ T : ByteArray, T = ⟨l.toArray⟩ := ⟨_, rfl⟩
  have KC : Hid (∀ W a2 c2, IsBytes W a2 c2 l → (convert 30 9 (.slice a2 l.length c2)).run Try.prog W = .ok (.string T) W) := fun W a2 c2 hI => by rw [hT]; exact conv_is hI rfl
  have HB : Hid (IsBytes w a cap l) := hb
  have hsl : (l.length : Int) ≤ 65841 := by
    have hs := check_small hck
    have hn := fields_len X.kind
    rw [← hll, put_length]
    unfold sizeL
    split <;> omega
  obtain ⟨n, hn⟩ : ∃ n, n = l.length := ⟨_, rfl⟩
  have HN : Hid (n = l.length) := hn
  rw [← hn] at CG CP KC hsl ⊢
  rw [← hn] at CG2 CG3 ho3
  have e2 : (X.kind == 2) = false := by simpa using hk
  have hn1 : (1 : Int) ≤ (n : Int) := by omega
  clear ho1 ho2 ho3
  have hcap : n ≤ cap := by rw [hn]; exact hb.1
  have hcm : cap ≤ 9223372036854775807 := by have := hb.2.1; unfold maxLen at this; omega
  obtain ⟨m, hm⟩ : ∃ m, m = body.length := ⟨_, rfl⟩
  rw [← hm] at CG CP CC
  clear hT hn hm hb h0 hk hck hput hll
  go_enter Try.func8, Try.ntmps8
  go_wp2_with (first
    | (go_at_call 9
       refine (shown_any _).mono ?_
       rintro e w1 ⟨rfl, B1⟩
       have BX1 : Hid (Below w.heap.size w w1) := B1
       clear B1)
    | (go_at_call 22
       refine (CG3.out _ a9 c9 I9.out).mono ?_
       rintro e w10 ⟨rfl, B10⟩
       have BX10 : Hid (Below w.heap.size w w10) := BX9.out.trans (B10.mono BX9.out.size)
       clear B10)
    | (go_at_call 22
       refine (CG2.out _ BX4.out).mono ?_
       rintro e w5 ⟨rfl, B5⟩
       have BX5 : Hid (Below w.heap.size w w5) := BX4.out.trans (B5.mono BX4.out.size)
       clear B5)
    | (refine wpList_store_new rfl 34 (.tmp 8) (.tmp 64) rfl (recA zeroR (.slice none 0 0)) rfl rfl 34 _ info_rec rfl (rec_one _ _ _ _) ?_
       obtain ⟨w6, hw6⟩ : ∃ w6, w6 = w5.alloc (.cells (recA zeroR (.slice none 0 0)) 34) := ⟨_, rfl⟩
       rw [← hw6]
       have BX6 : Hid (Below w.heap.size w w6) := BX5.out.trans ((show Below w5.heap.size w5 w6 by rw [hw6]; exact (Below.refl _ w5).alloc (Nat.le_refl _) _).mono BX5.out.size)
       clear hw6)
    | (refine wpList_append8 rfl (.tmp 66) (.tmp 67) rfl w.heap.size (.slice (some ⟨w6.heap.size, 0, none⟩) 0 0) [] rfl (Own.lit w6 _ BX6.out.size) a cap l (by rw [← HN.out]; rfl) (HB.out.below (BX6.out.trans (((Below.refl _ w6).alloc (Nat.le_refl _) _).mono BX6.out.size))) (by have := HN.out; simp; omega) (by have := BX6.out.size; simp; omega) ?_
       intro v7 w7 own7 gr7 g1 g2 g3
       clear g1 g2 g3
       rw [List.nil_append] at own7
       have BX7 : Hid (Below w.heap.size w w7) := (BX6.out.trans (((Below.refl _ w6).alloc (Nat.le_refl _) _).mono BX6.out.size)).grown gr7 (by have := BX6.out.size; simp; omega) (fun g hg => by simp [Value.ownBlock] at hg; have := BX6.out.size; omega)
       have O7 : Hid (Own w7 w.heap.size v7 l) := own7
       clear own7 gr7)
    | (refine wpList_append8 rfl (.tmp 69) (.tmp 70) rfl w.heap.size v7 l rfl (O7.out.below ((Below.refl _ w7).alloc (Nat.le_refl _) _)) (some ⟨w7.heap.size, 0, none⟩) 1 [0] rfl (Own.ofNew1 w7 0) (by have := HN.out; simp; omega) (by have := BX7.out.size; simp; omega) ?_
       intro v8 w8 own8 gr8 g1 g2 g3
       clear g1 g2 g3
       have BX9 : Hid (Below w.heap.size w w8) := (BX7.out.trans (((Below.refl _ w7).alloc (Nat.le_refl _) _).mono BX7.out.size)).grown gr8 (by have := BX7.out.size; simp; omega) (fun g hg => (O7.out.lt g hg).1)
       obtain ⟨a9, c9, hv9, i9⟩ := own8.shape
       rw [show (l ++ [(0 : UInt8)]).length = n + 1 by rw [HN.out]; simp] at hv9
       subst hv9
       have I9 : Hid (IsBytes w8 a9 c9 (l ++ [0])) := i9
       clear own8 gr8 i9)
    | (refine wpList_store_new rfl 34 (.tmp 11) (.tmp 75) rfl (recA zeroR (.slice none 0 0)) rfl rfl 34 _ info_rec rfl (rec_one _ _ _ _) ?_)
    | (go_at_call 22
       refine (CG.out _ BX1.out).mono ?_
       rintro e w2 ⟨a3, c3, rfl, i2, B2⟩
       have BX2 : Hid (Below w.heap.size w w2) := BX1.out.trans (B2.mono BX1.out.size)
       have I2 : Hid (IsBytes w2 a3 c3 body) := i2
       clear B2 i2
       obtain ⟨D, hD⟩ : ∃ D, D = recA X (.slice a3 m c3) := ⟨_, rfl⟩
       rw [← hD]
       have HD : Hid (D = recA X (.slice a3 m c3)) := hD
       have HD1 : Hid (D.all (·.oneCell') = true ∧ D.size = 19) := ⟨by rw [hD]; exact rec_one _ _ _ _, by rw [hD]; rfl⟩
       clear hD)
    | (refine wpList_store_new rfl 34 (.tmp 4) (.tmp 17) rfl D rfl rfl 34 _ (by rw [HD1.out.2]; exact info_rec) (by rw [HD1.out.2]; rfl) HD1.out.1 ?_)
    | (refine wpList_load_row rfl 34 (.tmp 4) rfl w2.heap.size rfl 34 D (0, 0) _ (heap_alloc_last _ _) under_rec rfl (by rw [HD1.out.2]; exact info_rec) ?_)
    | (go_at_call 18
       rw [HD.out]
       refine (CP.out _ a3 c3 (I2.out.below ((Below.refl _ w2).alloc (Nat.le_refl _) _))).mono ?_
       rw [← HD.out]
       rintro e w3 ⟨a2, c2, rfl, i3, B3⟩
       have Bz : Below w2.heap.size w2 w3 := below_box B3
       have BX3 : Hid (Below w.heap.size w w3) := BX2.out.trans (Bz.mono BX2.out.size)
       have D3 : Hid (RecAt w3 w2.heap.size X (.slice a3 m c3)) := (B3.block _ (by simp)).trans (by rw [HD.out]; exact heap_alloc_last _ _)
       have q1 := KC.out w3 a2 c2 i3
       have q2 := KC.out w3 a cap (HB.out.below BX3.out)
       clear B3 Bz i3)
    | (refine wpList_load_wanted (by rfl) 34 (.tmp 4) rfl w2.heap.size rfl 34 D (0, 0) _ (by rw [HD.out]; exact D3.out) under_rec rfl (by rw [HD1.out.2]; exact info_rec) ?_)
    | (go_at_call 13
       rw [HD.out]
       refine (CC.out _ a3 c3).mono ?_
       rw [← HD.out]
       rintro e w4 ⟨rfl, B4⟩
       have BX4 : Hid (Below w.heap.size w w4) := BX3.out.trans (B4.mono BX3.out.size)
       have k0 := (D3.out.below B4).kind
       clear B4))
  go_ret
  exact ⟨rfl, BX10.out.trans (((Below.refl _ w10).alloc (Nat.le_refl _) _).mono BX10.out.size)⟩
theorem walk (a : Option Addr) (cap : Nat) (l : List UInt8) (w : World) (hb : IsBytes w a cap l ∧ (a = none → cap = 0)) :
    Calls Try.prog 8 #[.slice a l.length cap] w fun e w' => e = .returned (.bool true) ∧ Below w.heap.size w w' := by
  cases h0 : getP l with
  | none => exact walk_no a cap l w hb.1 h0
  | some p =>
    by_cases hk : p.1.kind = 2
    · exact walk_whole a cap l w hb.1 p.1 p.2 h0 hk
    · exact walk_plain a cap l w hb.1 p.1 p.2 h0 hk
end Go.Proofs.Ytgpfomidecihdaa.recordForms
