/-
  The walk of 'shown', the document's example.
-/
import Derived.Test.YtcgpfhkndbggiaaCalls
namespace Go.Proofs.Ytcgpfhkndbggiaa
open Go.RowKit

def t0 : In := In.new 4
def t1 : In := t0.feed [97, 98, 13, 10, 120, 121, 122, 13, 10, 113]
def t2 : In := t1.next.2
def t3 : In := t2.body 3
def t4 : In := t3.next.2
theorem ex1 : t1.next.1.kind = 1 ∧ t1.next.1.text = [97, 98] ∧ t1.next.1.body = [] := by decide +kernel
theorem ex2 : t2.bodyE 3 = 0 := by decide +kernel
theorem ex3 : t3.next.1.kind = 3 ∧ t3.next.1.text = [] ∧ t3.next.1.body = [120, 121, 122] := by decide +kernel
theorem ex4 : t4.held.length = 1 := by decide +kernel
theorem fit0 : t0.Fit := ⟨by decide +kernel, by decide +kernel, by decide +kernel⟩
theorem fit1 : t1.Fit := ⟨by decide +kernel, by decide +kernel, by decide +kernel⟩
theorem fit2 : t2.Fit := ⟨by decide +kernel, by decide +kernel, by decide +kernel⟩
theorem fit3 : t3.Fit := ⟨by decide +kernel, by decide +kernel, by decide +kernel⟩
theorem fit4 : t4.Fit := ⟨by decide +kernel, by decide +kernel, by decide +kernel⟩
/-- From block B on. -/
def From (B : Nat) (ib : Nat) (v : Value) : Prop := ∀ k, Mine ib v k → B ≤ k
theorem Went.below {B : Nat} {w w' : World} {ib : Nat} {v : Value} {s : In} (h : Went w ib v s w') (hf : From B ib v) (hB : B ≤ w.heap.size) : ∃ v', InAt w' ib v' s ∧ From B ib v' ∧ Below B w w' := by
  obtain ⟨v', h1, h2, h3⟩ := h
  refine ⟨v', h1, fun k hk => ?_, h2.below hB (fun k hk hm => by have := hf k hm; omega)⟩
  rcases h3 k hk with h | h
  · exact hf k h
  · omega
theorem lit_bytes {w : World} (cs : List UInt8) (m : Nat × Nat) (h : cs.length ≤ maxLen) : IsBytes (w.alloc (.cells (u8s cs).toArray 5 m)) (some ⟨w.heap.size, 0, none⟩) cs.length cs := by
  refine ⟨Nat.le_refl _, h, .inr ⟨_, 0, rfl, by simp, fun j x hj => ?_⟩⟩
  have hl := heap_alloc_last w (.cells (u8s cs).toArray 5 m)
  unfold World.cell?
  rw [hl]
  simp [u8s_get, hj]
theorem nil_from (B ib : Nat) (h : B ≤ ib) : From B ib (.slice none 0 0) := by
  rintro k (rfl | hk)
  · exact h
  · cases hk

set_option maxHeartbeats 4000000 in
set_option maxRecDepth 1000000 in
theorem shown_any (w : World) (hm : MaxAt w) : Calls Try.prog 9 #[] w fun e w' => e = .returned (.bool true) ∧ Below w.heap.size w w' := by
  have h0 : 0 ≠ w.heap.size := by have := hm.lt; omega
  have HM : Hid (MaxAt w) := hm
  have kc := fun (w : World) (C : Array Value) (n c : Nat) => Lib.run_convert_bytes_const (P := Try.prog) w 30 5 C n c Try.underlying30 Try.underlying5
  clear hm
  go_enter Try.func9, Try.ntmps9
  go_wp2_with fail
  refine (new_yes w 4 (by decide) (by decide)).mono ?_
  rintro e w1 ⟨rfl, hI, B1⟩
  have HI1 : Hid (InAt w1 w.heap.size (.slice none 0 0) t0) := hI
  have HB1 : Hid (Below w.heap.size w w1) := B1
  clear hI B1
  go_wp2_with fail
  refine (Clone_any w1 w.heap.size _ t0 HI1.out fit0.held).mono ?_
  rintro e w2 ⟨v2, rfl, _, _, B2⟩
  have HI2 : Hid (InAt w2 w.heap.size (.slice none 0 0) t0) := HI1.out.below B2
  have HB2 : Hid (Below w.heap.size w w2) := HB1.out.trans (B2.mono HB1.out.size)
  clear B2
  go_wp2_with fail
  have h3 : InAt (w2.alloc (.cells (u8s [97, 98, 13, 10, 120, 121, 122, 13, 10, 113]).toArray 5 (10, 11))) w.heap.size (.slice none 0 0) t0 := HI2.out.below ((Below.refl _ w2).alloc (Nat.le_refl _) _)
  have B3 : Below w.heap.size w (w2.alloc (.cells (u8s [97, 98, 13, 10, 120, 121, 122, 13, 10, 113]).toArray 5 (10, 11))) := HB2.out.alloc HB2.out.size _
  have HB3 : Hid (Below w.heap.size w (w2.alloc (.cells (u8s [97, 98, 13, 10, 120, 121, 122, 13, 10, 113]).toArray 5 (10, 11)))) := B3
  refine (feed_any _ w.heap.size (.slice none 0 0) t0 (some ⟨w2.heap.size, 0, none⟩) 10 [97, 98, 13, 10, 120, 121, 122, 13, 10, 113] h3 (lit_bytes _ _ (by unfold maxLen; decide)) fit0.held (by decide) fit0.need (HM.out.below B3 HM.out.lt)).mono ?_
  rintro e w4 ⟨rfl, W4⟩
  obtain ⟨v4, hI4, F4, B4⟩ := W4.below (nil_from w.heap.size w.heap.size (Nat.le_refl _)) B3.size
  have HI4 : Hid (InAt w4 w.heap.size v4 t1 ∧ From w.heap.size w.heap.size v4) := ⟨hI4, F4⟩
  have HB4 : Hid (Below w.heap.size w w4) := HB3.out.trans B4
  clear h3 B3 W4 hI4 F4 B4
  go_wp2_with fail
  refine (next_any w4 w.heap.size v4 t1 HI4.out.1 fit1 (HM.out.below HB4.out HM.out.lt) h0).mono ?_
  rintro e w5 ⟨vb, rfl, own5, W5⟩
  obtain ⟨v5, hI5, F5, B5⟩ := W5.went.below HI4.out.2 HB4.out.size
  have HI5 : Hid (InAt w5 w.heap.size v5 t2 ∧ From w.heap.size w.heap.size v5) := ⟨hI5, F5⟩
  have HB5 : Hid (Below w.heap.size w w5) := HB4.out.trans B5
  rw [ex1.2.2] at own5
  obtain ⟨a5, c5, rfl, _⟩ := own5.slice
  have HIT : Hid (itemV t1.next.1.kind t1.next.1.text (.slice a5 ([] : List UInt8).length c5) = .agg #[.int .i64 1, .string ⟨#[97, 98]⟩, .slice a5 0 c5] ∧ (t1.next.1.kind != 0) = true) := ⟨by rw [ex1.1, ex1.2.1]; rfl, by rw [ex1.1]; rfl⟩
  rw [HIT.out.1, HIT.out.2]
  clear own5 W5 hI5 F5 B5
  obtain ⟨w6, hw6⟩ : ∃ w6, w6 = w5.alloc (.cells #[.int .i64 1, .string ⟨#[97, 98]⟩, .slice a5 0 c5] 54) := ⟨_, rfl⟩
  have HW6 : Hid (w6 = w5.alloc (.cells #[.int .i64 1, .string ⟨#[97, 98]⟩, .slice a5 0 c5] 54)) := hw6
  have B6 : Below w5.heap.size w5 w6 := by rw [hw6]; exact (Below.refl _ w5).alloc (Nat.le_refl _) _
  have HI6 : Hid (InAt w6 w.heap.size v5 t2 ∧ From w.heap.size w.heap.size v5) := ⟨HI5.out.1.below B6, HI5.out.2⟩
  have HB6 : Hid (Below w.heap.size w w6) := HB5.out.trans (B6.mono HB5.out.size)
  have HX6 : Hid (w6.heap[w5.heap.size]? = some (.cells #[.int .i64 1, .string ⟨#[97, 98]⟩, .slice a5 0 c5] 54 (0, 0))) := by
    show w6.heap[w5.heap.size]? = _
    rw [hw6]; exact heap_alloc_last _ _
  clear hw6 B6
  go_wp2_with fail
  rw [← HW6.out]
  refine (Body_any w6 w.heap.size v5 t2 3 HI6.out.1 fit2 (HM.out.below HB6.out HM.out.lt) h0).mono ?_
  rintro e w7 ⟨rfl, W7⟩
  rw [ex2]
  have x7 := (W7.kept.block w5.heap.size (Array.getElem?_eq_some_iff.1 HX6.out).1 (HI6.out.1.item HX6.out)).trans HX6.out
  have HX7 : Hid (w7.heap[w5.heap.size]? = some (.cells #[.int .i64 1, .string ⟨#[97, 98]⟩, .slice a5 0 c5] 54 (0, 0))) := x7
  obtain ⟨v7, hI7, F7, B7⟩ := W7.below HI6.out.2 HB6.out.size
  have HI7 : Hid (InAt w7 w.heap.size v7 t3 ∧ From w.heap.size w.heap.size v7) := ⟨hI7, F7⟩
  have HB7 : Hid (Below w.heap.size w w7) := HB6.out.trans B7
  clear W7 x7 hI7 F7 B7
  go_wp2_with fail
  refine (next_any w7 w.heap.size v7 t3 HI7.out.1 fit3 (HM.out.below HB7.out HM.out.lt) h0).mono ?_
  rintro e w8 ⟨vb, rfl, own8, W8⟩
  have x8 := (W8.went.kept.block w5.heap.size (Array.getElem?_eq_some_iff.1 HX7.out).1 (HI7.out.1.item HX7.out)).trans HX7.out
  obtain ⟨v8, hI8, F8, B8⟩ := W8.went.below HI7.out.2 HB7.out.size
  have HI8 : Hid (InAt w8 w.heap.size v8 t4) := hI8
  have HB8 : Hid (Below w.heap.size w w8) := HB7.out.trans B8
  rw [ex3.2.2] at own8
  obtain ⟨a8, c8, rfl, is8, _⟩ := own8.slice
  have HIT8 : Hid (itemV t3.next.1.kind t3.next.1.text (.slice a8 ([120, 121, 122] : List UInt8).length c8) = .agg #[.int .i64 3, .string ⟨#[]⟩, .slice a8 3 c8] ∧ (t3.next.1.kind != 0) = true) := ⟨by rw [ex3.1, ex3.2.1]; rfl, by rw [ex3.1]; rfl⟩
  rw [HIT8.out.1, HIT8.out.2]
  obtain ⟨w9, hw9⟩ : ∃ w9, w9 = w8.alloc (.cells #[.int .i64 3, .string ⟨#[]⟩, .slice a8 3 c8] 54) := ⟨_, rfl⟩
  have B9 : Below w8.heap.size w8 w9 := by rw [hw9]; exact (Below.refl _ w8).alloc (Nat.le_refl _) _
  have hx9 := (B9.block w5.heap.size (Array.getElem?_eq_some_iff.1 x8).1).trans x8
  have hy9 : w9.heap[w8.heap.size]? = some (.cells #[.int .i64 3, .string ⟨#[]⟩, .slice a8 3 c8] 54 (0, 0)) := by rw [hw9]; exact heap_alloc_last _ _
  have p0 : w9.cell? ⟨w5.heap.size, 0, none⟩ = some (.int .i64 1) := by simp [World.cell?, hx9]
  have p1 : w9.cell? ⟨w5.heap.size, 1, none⟩ = some (.string ⟨#[97, 98]⟩) := by simp [World.cell?, hx9]
  have q0 : w9.cell? ⟨w8.heap.size, 0, none⟩ = some (.int .i64 3) := by simp [World.cell?, hy9]
  have q2 : w9.cell? ⟨w8.heap.size, 2, none⟩ = some (.slice a8 3 c8) := by simp [World.cell?, hy9]
  have hcv := conv_is (n := 3) (is8.below B9) rfl
  have HW9 : Hid (w9 = w8.alloc (.cells #[.int .i64 3, .string ⟨#[]⟩, .slice a8 3 c8] 54)) := hw9
  have HI9 : Hid (InAt w9 w.heap.size v8 t4) := HI8.out.below B9
  have HB9 : Hid (Below w.heap.size w w9) := HB8.out.trans (B9.mono HB8.out.size)
  clear own8 W8 x8 hI8 F8 B8 is8 hw9 B9 hx9 hy9
  go_upto_region 8 with fail
  rw [← HW9.out]
  go_wp2_with (go_at_call 14; refine (Held_in w9 w.heap.size v8 t4 HI9.out fit4.held).mono ?_; rintro e w10 ⟨rfl, n10, hW⟩; subst hW; rw [ex4])
  go_ret
  exact ⟨rfl, below_drewN HB9.out n10⟩
end Go.Proofs.Ytcgpfhkndbggiaa
