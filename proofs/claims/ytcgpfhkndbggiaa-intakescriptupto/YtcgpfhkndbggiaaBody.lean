/-
  The walk of tellBody.
-/
import Derived.Test.YtcgpfhkndbggiaaLine
import Derived.Deep.RegionWith
import Derived.Deep.Cut
import Derived.Deep.CutRange
namespace Go.Proofs.Ytcgpfhkndbggiaa
open Go.RowKit

theorem ends_of {W : World} {g : Nat} (h : W.heap[g]? = some (.cells #[.int .u8 13, .int .u8 10] 5 (2, 3))) : IsBytes W (some ⟨g, 0, none⟩) 2 [13, 10] := by
  refine ⟨by decide, by unfold maxLen; decide, .inr ⟨_, 0, rfl, (Array.getElem?_eq_some_iff.1 h).1, fun j x hj => ?_⟩⟩
  match j, hj with
  | 0, hj => cases hj; unfold World.cell?; rw [h]; rfl
  | 1, hj => cases hj; unfold World.cell?; rw [h]; rfl
  | j + 2, hj => simp at hj
/-- What is cut off a body that is whole. -/
theorem suffix_at {w4 W : World} {v : Value} {came l : List UInt8} {a : Option Addr} {c n g : Nat} (hi : ∀ W, Own W 0 v came → IsBytes W a c l) (hn : (l.take n).length = n) (ho : Own w4 0 v came) (hB : Below w4.heap.size w4 W) (hE : W.heap[g]? = some (.cells #[.int .u8 13, .int .u8 10] 5 (2, 3))) :
    Calls Try.prog 55 #[.slice a n c, .slice (some ⟨g, 0, none⟩) 2 2] W fun e w' => (∃ n' c', e = .returned (.tuple #[.slice a n' c', .bool (Lib.hasSuffix (l.take n) [13, 10])]) ∧ (Lib.hasSuffix (l.take n) [13, 10] = true → n' = n - 2 ∧ IsBytes W a c' (l.take (n - 2)))) ∧ w' = W := by
  have := cutSuffix_any a (some ⟨g, 0, none⟩) c 2 (l.take n) W ((hi W (ho.below hB)).take n) (ends_of hE)
  rw [hn] at this
  refine this.mono ?_
  rintro e w' ⟨⟨n', c', rfl, h⟩, rfl⟩
  refine ⟨⟨n', c', rfl, fun hs => ?_⟩, rfl⟩
  obtain ⟨h1, h2⟩ := h hs
  rw [List.take_take, Nat.min_eq_left (by omega)] at h2
  exact ⟨h1, h2⟩
theorem InAt.drewN {w : World} {ib : Nat} {v : Value} {s : In} (h : InAt w ib v s) (n : Nat) : InAt (w.drewN n) ib v s := h
/-- Held. -/
theorem Held_in (w : World) (ib : Nat) (v : Value) (s : In) (h : InAt w ib v s) (hl : s.held.length ≤ 2147483648) :
    Calls Try.prog 14 #[.pointer (some ⟨ib, 0, none⟩)] w fun e w' => e = .returned (.int .i64 (s.held.length : Int)) ∧ ∃ n, w' = w.drewN n := by
  obtain ⟨g, came, hbox, hown, hg, hheld, hgh⟩ := h
  have hcl : came.length = g + s.held.length := by rw [← hheld]; simp; omega
  have := Held_any w ib _ _ _ v g came hbox hown hg (by omega)
  rwa [show came.length - g = s.held.length by omega] at this

/-- What stands behind the drop. -/
theorem body_fin {w w8 w9 : World} {ib g9 ibk X : Nat} {v v9 vb : Value} {s : In} {kd : Int} {body came9 : List UInt8} (hI : InAt w ib v s) (hvb : Own w8 X vb body) (hX : w.heap.size ≤ X) (hXk : ibk < X) (hX8 : X ≤ w8.heap.size) (hk : w.heap.size < ibk)
    (hr : w8.heap[ibk]? = some (.cells #[.int .i64 kd, .string ⟨#[]⟩, vb] 54 (0, 0))) (hr0 : w8.heap[w.heap.size]? = some (.cells #[.int .i64 0, .string ⟨#[]⟩, .slice none 0 0] 54 (0, 0))) (K8 : Kept (fun _ => False) w w8)
    (bx9 : BoxAt w9 ib s.most s.stand s.need v9 g9) (ow9 : Own w9 0 v9 came9) (hg9 : g9 ≤ came9.length) (hd9 : came9.drop g9 = s.held.drop s.need) (hh9 : g9 ≤ came9.length - g9) (K9 : Kept (fun k => k = ib) w8 w9) (hv9 : v9 = v ∨ ∀ k, v9.ownBlock = some k → w8.heap.size ≤ k) :
    w9.cell? ⟨ib, 1, none⟩ = some (.int .i64 s.stand) ∧ w9.frozen? ⟨ib, 1, none⟩ = false ∧ ib < w9.heap.size ∧
    (w9.setCell ⟨ib, 1, none⟩ (.int .i64 0)).heap[ibk]? = some (.cells #[.int .i64 kd, .string ⟨#[]⟩, vb] 54 (0, 0)) ∧ (w9.setCell ⟨ib, 1, none⟩ (.int .i64 0)).heap[w.heap.size]? = some (.cells #[.int .i64 0, .string ⟨#[]⟩, .slice none 0 0] 54 (0, 0)) ∧
    ∀ W, W = (((w9.setCell ⟨ib, 1, none⟩ (.int .i64 0)).setCell ⟨w.heap.size, 0, none⟩ (.int .i64 kd)).setCell ⟨w.heap.size, 1, none⟩ (.string ⟨#[]⟩)).setCell ⟨w.heap.size, 2, none⟩ vb →
      W.heap[w.heap.size]? = some (.cells #[.int .i64 kd, .string ⟨#[]⟩, vb] 54 (0, 0)) ∧ Own W w.heap.size vb body ∧ WentX vb w ib v { s with stand := 0, held := s.held.drop s.need } W := by
  have hib := hI.lt ib (.inl rfl)
  obtain ⟨bxA, KA⟩ := bx9.setStand 0
  have KA' : Kept (fun k => k = ib) w9 (w9.setCell ⟨ib, 1, none⟩ (.int .i64 0)) := KA
  have K10 : Kept (fun k => k = ib) w8 (w9.setCell ⟨ib, 1, none⟩ (.int .i64 0)) := K9.trans KA'
  have hr' := (K10.block ibk (by omega) (by omega)).trans hr
  have hr0' := (K10.block w.heap.size (by omega) (by omega)).trans hr0
  have hmine : ∀ k, Mine ib v k → k < w.heap.size := hI.lt
  have hnew : ∀ k, Mine ib v9 k → Mine ib v k ∨ (w.heap.size ≤ k ∧ vb.ownBlock ≠ some k) := by
    rintro k (rfl | hk)
    · exact .inl (.inl rfl)
    · rcases hv9 with rfl | hv9
      · exact .inl (.inr hk)
      · refine .inr ⟨by have := hv9 k hk; omega, fun e => ?_⟩
        have h1 := hv9 k hk
        have h2 := (hvb.old k e).2
        omega
  have went : WentX vb w ib v { s with stand := 0, held := s.held.drop s.need } (w9.setCell ⟨ib, 1, none⟩ (.int .i64 0)) := by
    refine ⟨v9, ⟨g9, came9, bxA, ow9.kept KA' (ow9.apart bx9), hg9, hd9, ?_⟩, ?_, hnew⟩
    · show g9 ≤ (s.held.drop s.need).length
      rw [← hd9]; simpa using hh9
    · exact (K8.mono (fun _ _ h => h.elim)).step K10 (fun j _ e => .inl e)
  have ovb : Own (w9.setCell ⟨ib, 1, none⟩ (.int .i64 0)) X vb body := hvb.kept K10 (fun k hk e => by have := (hvb.old k hk).1; omega)
  refine ⟨bx9.cell.2.1, bx9.free 1, bx9.lt, hr', hr0', ?_⟩
  rintro W rfl
  obtain ⟨q1, q2⟩ := went.item (Nat.le_refl _) hr0' (.int .i64 kd) (.string ⟨#[]⟩) vb
  refine ⟨q2, ?_, q1⟩
  have hne : ∀ k, vb.ownBlock = some k → ¬ k = w.heap.size := fun k hk e => by have := (hvb.old k hk).1; omega
  exact (((ovb.kept (Kept.setCell (fun k => k = w.heap.size) _ w.heap.size 0 _ rfl) hne).kept (Kept.setCell (fun k => k = w.heap.size) _ w.heap.size 1 _ rfl) hne).kept (Kept.setCell (fun k => k = w.heap.size) _ w.heap.size 2 _ rfl) hne).mono hX

set_option maxHeartbeats 4000000 in
set_option maxRecDepth 1000000 in
theorem tellBody_any (w : World) (ib : Nat) (v : Value) (s : In) (h : InAt w ib v s) (hl : s.held.length ≤ 2147483648) :
    Calls Try.prog 41 #[.pointer (some ⟨ib, 0, none⟩)] w fun e w' => ∃ vb, e = .returned (itemV s.tellBody.1.kind s.tellBody.1.text vb) ∧ Own w' w.heap.size vb s.tellBody.1.body ∧ WentX vb w ib v s.tellBody.2 w' := by
  obtain ⟨g, came, hbox, hown, hg, hheld, hgh⟩ := h
  have hcl : came.length = g + s.held.length := by rw [← hheld]; simp; omega
  have hcl2 : came.length ≤ 4611686018427387904 := by omega
  obtain ⟨w1, hw1⟩ : ∃ w1, w1 = w.alloc (.cells #[.int .i64 0, .string ⟨#[]⟩, .slice none 0 0] 54) := ⟨_, rfl⟩
  have B1 : Below w.heap.size w w1 := by rw [hw1]; exact (Below.refl _ w).alloc (Nat.le_refl _) _
  have hr1 : w1.heap[w.heap.size]? = some (.cells #[.int .i64 0, .string ⟨#[]⟩, .slice none 0 0] 54 (0, 0)) := by rw [hw1]; exact heap_alloc_last _ _
  have hs1 : w1.heap.size = w.heap.size + 1 := by rw [hw1]; simp
  have HX : Hid (BoxAt w1 ib s.most s.stand s.need v g) := hbox.below B1 hbox.lt
  have HO : Hid (Own w1 0 v came) := hown.below B1
  have HI0 : Hid (InAt w ib v s) := ⟨g, came, hbox, hown, hg, hheld, hgh⟩
  have HI1 : Hid (InAt w1 ib v s) := HI0.out.below B1
  have HH : Hid (came.drop g = s.held) := hheld
  have HC : Hid (came.length = g + s.held.length ∧ g ≤ s.held.length) := ⟨hcl, hgh⟩
  have HB1 : Hid (Below w.heap.size w w1) := B1
  have HR1 : Hid (w1.heap[w.heap.size]? = some (.cells #[.int .i64 0, .string ⟨#[]⟩, .slice none 0 0] 54 (0, 0))) := hr1
  have HS1 : Hid (w1.heap.size = w.heap.size + 1) := hs1
  have HW1 : Hid (w1 = w.alloc (.cells #[.int .i64 0, .string ⟨#[]⟩, .slice none 0 0] 54)) := hw1
  have HE : Hid (came.length - g = s.held.length) := by show came.length - g = _; omega
  have k2 : w1.cell? ⟨ib, 2, none⟩ = some (.int .i64 s.need) := HX.out.cell.2.2.1
  have hlt1 : ib < w1.heap.size := HX.out.lt
  have hlt : ib < w.heap.size := hbox.lt
  clear hbox hown hheld hcl hgh B1 hr1 hs1 hw1
  by_cases hw : s.held.length < s.need
  · have hw' : (s.held.length : Int) < (s.need : Int) := by omega
    have HT : Hid (s.tellBody = (.none, s)) := by show s.tellBody = _; unfold In.tellBody; rw [if_pos hw]
    go_enter Try.func41, Try.ntmps41
    go_wp2_with fail
    rw [← HW1.out]
    go_quiet ((go_at_call 14; exact Calls.quiet_of (Held_in _ ib v s (HI1.out.drewN _) hl)))
    obtain ⟨w3, hq3⟩ : ∃ w3, w3 = w1.drewN nq := ⟨_, rfl⟩
    rw [← hq3]
    have B3 : Below w1.heap.size w1 w3 := by rw [hq3]; exact below_drewN (Below.refl _ w1) nq
    clear hq3
    have hs11 := HS1.out
    have hr3 : w3.heap[w.heap.size]? = _ := (B3.block w.heap.size (by omega)).trans HR1.out
    have c0 : w3.cell? ⟨w.heap.size, 0, none⟩ = some (.int .i64 0) := by simp [World.cell?, hr3]
    have c1 : w3.cell? ⟨w.heap.size, 1, none⟩ = some (.string ⟨#[]⟩) := by simp [World.cell?, hr3]
    have c2 : w3.cell? ⟨w.heap.size, 2, none⟩ = some (.slice none 0 0) := by simp [World.cell?, hr3]
    have f0 : ∀ i, w3.frozen? ⟨w.heap.size, i, none⟩ = false := fun i => by simp [World.frozen?, hr3]
    have f00 := f0 0
    have f01 := f0 1
    have f02 := f0 2
    have hw3 : WentX (.slice none 0 0) w ib v s w3 := Went.x ⟨v, HI0.out.below (HB1.out.trans (B3.mono HB1.out.size)), Kept.ofBelow (HB1.out.trans (B3.mono HB1.out.size)), fun k h => .inl h⟩
    obtain ⟨q1, q2⟩ := hw3.item (Nat.le_refl _) hr3 (.int .i64 0) (.string ⟨#[]⟩) (.slice none 0 0)
    have HQ1 : Hid (WentX (.slice none 0 0) w ib v s (((w3.setCell ⟨w.heap.size, 0, none⟩ (.int .i64 0)).setCell ⟨w.heap.size, 1, none⟩ (.string ⟨#[]⟩)).setCell ⟨w.heap.size, 2, none⟩ (.slice none 0 0))) := q1
    have HQ2 : Hid ((((w3.setCell ⟨w.heap.size, 0, none⟩ (.int .i64 0)).setCell ⟨w.heap.size, 1, none⟩ (.string ⟨#[]⟩)).setCell ⟨w.heap.size, 2, none⟩ (.slice none 0 0)).heap[w.heap.size]? = some (.cells #[.int .i64 0, .string ⟨#[]⟩, .slice none 0 0] 54 (0, 0))) := q2
    clear hr3 hw3 q1 q2 f0 B3
    go_wp2
    refine bodyPost_ret (results_cell_row rfl _ _ w.heap.size 54 _ (0, 0) _ rfl HQ2.out Try.underlying54 rfl (by kernel_rfl)) rfl ?_
    rw [HT.out]
    exact ⟨_, rfl, Own.nil _ _, HQ1.out⟩
  · have hw' : ¬ (s.held.length : Int) < (s.need : Int) := by omega
    have HT : Hid (s.tellBody = (if Lib.hasSuffix (s.held.take s.need) [13, 10] then ⟨3, [], s.held.take (s.need - 2)⟩ else ⟨5, [], []⟩, { s with stand := 0, held := s.held.drop s.need })) := by show s.tellBody = _; unfold In.tellBody; rw [if_neg hw]
    go_enter Try.func41, Try.ntmps41
    go_wp2_with fail
    rw [← HW1.out]
    go_quiet ((go_at_call 14; exact Calls.quiet_of (Held_in _ ib v s (HI1.out.drewN _) hl)))
    obtain ⟨w3, hw3⟩ : ∃ w3, w3 = w1.drewN nq := ⟨_, rfl⟩
    rw [← hw3]
    have B3 : Below w1.heap.size w1 w3 := by rw [hw3]; exact below_drewN (Below.refl _ w1) nq
    obtain ⟨w4, hw4⟩ : ∃ w4, w4 = w3.alloc (.cells #[.int .i64 5, .string ⟨#[]⟩, .slice none 0 0] 54) := ⟨_, rfl⟩
    have B4 : Below w3.heap.size w3 w4 := by rw [hw4]; exact (Below.refl _ w3).alloc (Nat.le_refl _) _
    have HB4 : Hid (Below w1.heap.size w1 w4) := B3.trans (B4.mono B3.size)
    have HR4 : Hid (w4.heap[w3.heap.size]? = some (.cells #[.int .i64 5, .string ⟨#[]⟩, .slice none 0 0] 54 (0, 0))) := by
      show w4.heap[w3.heap.size]? = _
      rw [hw4]; exact heap_alloc_last _ _
    have hs13 : w3.heap.size = w1.heap.size := by rw [hw3]; rfl
    have HS4 : Hid (w4.heap.size = w3.heap.size + 1 ∧ w3.heap.size = w.heap.size + 1) := ⟨by rw [hw4]; simp, hs13.trans HS1.out⟩
    have HW4 : Hid (w4 = w3.alloc (.cells #[.int .i64 5, .string ⟨#[]⟩, .slice none 0 0] 54)) := hw4
    have HX4 : Hid (BoxAt w4 ib s.most s.stand s.need v g) := HX.out.below HB4.out hlt1
    have HO4 : Hid (Own w4 0 v came) := HO.out.below HB4.out
    clear hw3 hw4 B3 B4 k2 hs13
    have hnl : s.need ≤ s.held.length := by omega
    have HN : Hid ((s.held.take s.need).length = s.need) := by show (s.held.take s.need).length = _; simp; omega
    have i2 : w4.cell? ⟨ib, 2, none⟩ = some (.int .i64 s.need) := HX4.out.cell.2.2.1
    have hlt4 : ib < w4.heap.size := HX4.out.lt
    go_upto_region 4 with fail
    rw [← HW4.out]
    go_cut [4, 5] from 15 to 27 (fun u4 u5 wx => ∃ a n c', u4 = .slice a n c' ∧ u5 = .bool (Lib.hasSuffix (s.held.take s.need) [13, 10]) ∧ Hid (Lib.hasSuffix (s.held.take s.need) [13, 10] = true → n = s.need - 2 ∧ IsBytes wx a c' (s.held.take (s.need - 2))) ∧ Hid (Below w4.heap.size w4 wx))
    case first =>
      have kc1 : ∀ (C : Array Value) (k : Nat), (convert 30 30 (.slice (some ⟨w4.heap.size, 0, none⟩) 2 2)).run Try.prog ((w4.drewN k).alloc (.cells C 5)) = .ok (.slice (some ⟨w4.heap.size, 0, none⟩) 2 2) ((w4.drewN k).alloc (.cells C 5 (C.size, C.size + 1))) := fun C k => Lib.run_convert_bytes_const (P := Try.prog) (w4.drewN k) 30 5 C 2 2 Try.underlying30 Try.underlying5
      have kc2 : ∀ (C : Array Value), (convert 30 30 (.slice (some ⟨w4.heap.size, 0, none⟩) 2 2)).run Try.prog (w4.alloc (.cells C 5)).drew = .ok (.slice (some ⟨w4.heap.size, 0, none⟩) 2 2) (w4.alloc (.cells C 5 (C.size, C.size + 1))).drew := fun C => Lib.run_convert_bytes_const (P := Try.prog) w4.drew 30 5 C 2 2 Try.underlying30 Try.underlying5
      have kc3 : ∀ (C : Array Value) (k : Nat), (convert 30 30 (.slice (some ⟨w4.heap.size, 0, none⟩) 2 2)).run Try.prog ((w4.alloc (.cells C 5)).drewN k) = .ok (.slice (some ⟨w4.heap.size, 0, none⟩) 2 2) ((w4.alloc (.cells C 5 (C.size, C.size + 1))).drewN k) := fun C k => Lib.run_convert_bytes_const (P := Try.prog) (w4.drewN k) 30 5 C 2 2 Try.underlying30 Try.underlying5
      have i2a : ∀ (o : Obj), (w4.alloc o).cell? ⟨ib, 2, none⟩ = some (.int .i64 s.need) := fun o => (((Below.refl w4.heap.size w4).alloc (Nat.le_refl _) o).cell (p := ⟨ib, 2, none⟩) hlt4).trans i2
      have i2b : ∀ (o : Obj) (k : Nat), ((w4.drewN k).alloc o).cell? ⟨ib, 2, none⟩ = some (.int .i64 s.need) := fun o k => i2a o
      have i2c : ∀ (o : Obj) (k : Nat), ((w4.alloc o).drewN k).cell? ⟨ib, 2, none⟩ = some (.int .i64 s.need) := fun o k => i2a o
      have i2d : ∀ (k : Nat), (w4.drewN k).cell? ⟨ib, 2, none⟩ = some (.int .i64 s.need) := fun k => i2
      have HXE : Hid (∀ (o : Obj), BoxAt (w4.alloc o).drew ib s.most s.stand s.need v g ∧ Own (w4.alloc o).drew 0 v came) := fun o => ⟨HX4.out.below ((Below.refl _ w4).alloc (Nat.le_refl _) o).drew hlt4, HO4.out.below ((Below.refl _ w4).alloc (Nat.le_refl _) o).drew⟩
      have HBE : Hid (Below w4.heap.size w4 (w4.alloc (.cells #[.int .u8 13, .int .u8 10] 5 (2, 3)))) := (Below.refl _ w4).alloc (Nat.le_refl _) _
      go_region_with (first
        | (go_at_call 43
           refine (held_all _ ib _ _ _ v g came (by first | exact (HXE.out _).1 | exact HX4.out) (by first | exact (HXE.out _).2 | exact HO4.out) hg).mono ?_
           rintro e w5 ⟨⟨a, c, rfl, hi, _⟩, n5, hW⟩
           subst hW
           have HI : Hid (∀ W, Own W 0 v came → IsBytes W a c s.held) := by rw [← HH.out]; exact hi
           rw [HE.out]
           have hnc : s.held.length ≤ c := (HI.out w4 HO4.out).1
           have hcm : c ≤ 9223372036854775807 := by have := (HI.out w4 HO4.out).2.1; unfold maxLen at this; omega
           clear hi)
        | (go_at_call 55
           refine (suffix_at (w4 := w4) (v := v) (came := came) HI.out HN.out HO4.out ?hB ?hE).mono ?_
           case hB => exact ⟨rfl, rfl, rfl, HBE.out.size, HBE.out.block⟩
           case hE => exact heap_alloc_last w4 _
           rintro e w6 ⟨⟨n6, c6, rfl, h6⟩, hW6⟩
           have HB6 : Hid (Below w4.heap.size w4 w6) := by rw [hW6]; exact ⟨rfl, rfl, rfl, HBE.out.size, HBE.out.block⟩
           have H6 : Hid (Lib.hasSuffix (s.held.take s.need) [13, 10] = true → n6 = s.need - 2 ∧ IsBytes w6 a c6 (s.held.take (s.need - 2))) := by rw [hW6]; exact h6
           clear hW6 h6))
      all_goals (go_wp2_with fail; go_meet)
      all_goals exact ⟨a, n6, c6, rfl, rfl, H6, HB6⟩
    case rest =>
      obtain ⟨a, n6, c6, rfl, rfl, H6, HB6⟩ := hcut
      have hs4 := HS4.out
      have hszc : w4.heap.size ≤ wc.heap.size := HB6.out.size
      have hne3 : ib ≠ w3.heap.size := by omega
      have r6i : wc.heap[w3.heap.size]? = _ := (HB6.out.block w3.heap.size (by omega)).trans HR4.out
      have r6r : wc.heap[w.heap.size]? = _ := (HB6.out.block w.heap.size (by omega)).trans ((HB4.out.block w.heap.size (by have := HS1.out; omega)).trans HR1.out)
      have bx6 : BoxAt wc ib s.most s.stand s.need v g := HX4.out.below HB6.out hlt4
      have ow6 : Own wc 0 v came := HO4.out.below HB6.out
      have BB6 : Below w.heap.size w wc := HB1.out.trans ((HB4.out.mono HB1.out.size).trans (HB6.out.mono (by have := HB1.out.size; omega)))
      cases hsf : Lib.hasSuffix (s.held.take s.need) [13, 10] with
      | true =>
        obtain ⟨rfl, hi6⟩ := H6.out hsf
        rw [if_pos hsf] at HT
        have HI6 : Hid (IsBytes wc a c6 (s.held.take (s.need - 2))) := hi6
        have HL6 : Hid ((s.held.take (s.need - 2)).length = s.need - 2) := by show (s.held.take (s.need - 2)).length = _; simp; omega
        have HR6 : Hid (wc.heap[w3.heap.size]? = some (.cells #[.int .i64 5, .string ⟨#[]⟩, .slice none 0 0] 54 (0, 0)) ∧ wc.heap[w.heap.size]? = some (.cells #[.int .i64 0, .string ⟨#[]⟩, .slice none 0 0] 54 (0, 0))) := ⟨r6i, r6r⟩
        have HX6 : Hid (BoxAt wc ib s.most s.stand s.need v g) := bx6
        have HO6 : Hid (Own wc 0 v came) := ow6
        have HBB6 : Hid (Below w.heap.size w wc) := BB6
        clear r6i r6r bx6 ow6 BB6 hi6 H6 hsf i2 hs4
        go_wp2_with fail
        have hs4 := HS4.out
        have CL := clone_any a c6 (s.held.take (s.need - 2)) wc HI6.out (by simp; omega)
        rw [HL6.out] at CL
        refine CL.mono ?_
        clear CL
        rintro e w7 ⟨v7, rfl, own7, B7⟩
        obtain ⟨a7, c7, rfl, _⟩ := own7.slice
        rw [HL6.out] at own7
        rw [HL6.out]
        have hs67 := B7.size
        obtain ⟨cA, gA⟩ := set_cells ((B7.block w3.heap.size (by omega)).trans HR6.out.1) 0 (.int .i64 3)
        obtain ⟨cB, gB⟩ := set_cells cA 1 (.string ⟨#[]⟩)
        obtain ⟨cC, gC⟩ := set_cells cB 2 (.slice a7 (s.need - 2) c7)
        have K8 := ((Kept.ofGrown (P := fun k => k = w3.heap.size) gA (fun g e => (Option.some.inj e).symm)).trans (Kept.ofGrown (P := fun k => k = w3.heap.size) gB (fun g e => (Option.some.inj e).symm))).trans (Kept.ofGrown (P := fun k => k = w3.heap.size) gC (fun g e => (Option.some.inj e).symm))
        obtain ⟨w8, hw8⟩ : ∃ w8, w8 = ((w7.setCell ⟨w3.heap.size, 0, none⟩ (.int .i64 3)).setCell ⟨w3.heap.size, 1, none⟩ (.string ⟨#[]⟩)).setCell ⟨w3.heap.size, 2, none⟩ (.slice a7 (s.need - 2) c7) := ⟨_, rfl⟩
        rw [← hw8] at cC K8
        have r7i : w7.heap[w3.heap.size]? = _ := (B7.block w3.heap.size (by omega)).trans HR6.out.1
        have bx7 : BoxAt w7 ib s.most s.stand s.need v g := HX6.out.below B7 (by omega)
        have c0 : w7.cell? ⟨w3.heap.size, 0, none⟩ = some (.int .i64 5) := by simp [World.cell?, r7i]
        have c1 : w7.cell? ⟨w3.heap.size, 1, none⟩ = some (.string ⟨#[]⟩) := by simp [World.cell?, r7i]
        have c2 : w7.cell? ⟨w3.heap.size, 2, none⟩ = some (.slice none 0 0) := by simp [World.cell?, r7i]
        have f0 : ∀ i, w7.frozen? ⟨w3.heap.size, i, none⟩ = false := fun i => by simp [World.frozen?, r7i]
        have f00 := f0 0
        have f01 := f0 1
        have f02 := f0 2
        have j2 : w7.cell? ⟨ib, 2, none⟩ = some (.int .i64 s.need) := bx7.cell.2.2.1
        have KK8 : Kept (fun k => False) w w8 := by
          refine ⟨?_, ?_, ?_, ?_, ?_⟩
          · exact K8.os.trans (B7.os.trans HBB6.out.os)
          · exact K8.tape.trans (B7.tape.trans HBB6.out.tape)
          · exact K8.output.trans (B7.output.trans HBB6.out.output)
          · have := HBB6.out.size; have := K8.size; omega
          · intro k hk _
            exact (K8.block k (by have := HBB6.out.size; omega) (by omega)).trans ((B7.block k (by have := HBB6.out.size; omega)).trans (HBB6.out.block k hk))
        have H8 : Hid (BoxAt w8 ib s.most s.stand s.need v g ∧ Own w8 0 v came ∧ Own w8 wc.heap.size (.slice a7 (s.need - 2) c7) (s.held.take (s.need - 2)) ∧ w8.heap[w3.heap.size]? = some (.cells #[.int .i64 3, .string ⟨#[]⟩, .slice a7 (s.need - 2) c7] 54 (0, 0)) ∧ w8.heap[w.heap.size]? = some (.cells #[.int .i64 0, .string ⟨#[]⟩, .slice none 0 0] 54 (0, 0)) ∧ Kept (fun k => False) w w8 ∧ wc.heap.size ≤ w8.heap.size) := by
          refine ⟨bx7.kept K8 hne3, (HO6.out.below B7).kept K8 (fun k hk e => ?_), own7.kept K8 (fun k hk e => ?_), cC, ?_, KK8, by have := K8.size; omega⟩
          · have := (HO6.out.old k hk).2
            have := HI0.out.lt
            obtain ⟨g0, came0, hb0, ho0, _⟩ := HI0.out
            have := (ho0.old k hk).2
            omega
          · have := (own7.old k hk).1; omega
          · exact (K8.block w.heap.size (by omega) (by omega)).trans ((B7.block w.heap.size (by omega)).trans HR6.out.2)
        have HW8 : Hid (w8 = ((w7.setCell ⟨w3.heap.size, 0, none⟩ (.int .i64 3)).setCell ⟨w3.heap.size, 1, none⟩ (.string ⟨#[]⟩)).setCell ⟨w3.heap.size, 2, none⟩ (.slice a7 (s.need - 2) c7)) := hw8
        clear cA gA cB gB cC gC K8 hw8 r7i bx7 f0 KK8 own7 B7 hs4
        go_wp2_with fail
        rw [← HW8.out]
        clear HW8 c0 c1 c2 f00 f01 f02 j2
        have hs4 := HS4.out
        refine (drop_any w8 ib _ _ _ v g came s.need H8.out.1 H8.out.2.1 (by have := HC.out; omega) (by have := HC.out; omega)).mono ?_
        rintro e w9 ⟨rfl, v9, g9, came9, bx9, ow9, hg9, hd9, hh9, K9, hv9⟩
        have hdd : came9.drop g9 = s.held.drop s.need := by rw [hd9, ← HH.out, List.drop_drop]
        obtain ⟨k1, f1, hlt9, r10, r10', fin⟩ := body_fin HI0.out H8.out.2.2.1 (by have := HBB6.out.size; omega) (by omega) H8.out.2.2.2.2.2.2 (by omega) H8.out.2.2.2.1 H8.out.2.2.2.2.1 H8.out.2.2.2.2.2.1 bx9 ow9 hg9 hdd hh9 K9 hv9
        have FIN : Hid (∀ W, W = (((w9.setCell ⟨ib, 1, none⟩ (.int .i64 0)).setCell ⟨w.heap.size, 0, none⟩ (.int .i64 3)).setCell ⟨w.heap.size, 1, none⟩ (.string ⟨#[]⟩)).setCell ⟨w.heap.size, 2, none⟩ (.slice a7 (s.need - 2) c7) →
          W.heap[w.heap.size]? = some (.cells #[.int .i64 3, .string ⟨#[]⟩, (.slice a7 (s.need - 2) c7)] 54 (0, 0)) ∧ Own W w.heap.size (.slice a7 (s.need - 2) c7) (s.held.take (s.need - 2)) ∧ WentX (.slice a7 (s.need - 2) c7) w ib v { s with stand := 0, held := s.held.drop s.need } W) := fin
        obtain ⟨w10, hw10⟩ : ∃ w10, w10 = w9.setCell ⟨ib, 1, none⟩ (.int .i64 0) := ⟨_, rfl⟩
        rw [← hw10] at r10 r10'
        have HW10 : Hid (w10 = w9.setCell ⟨ib, 1, none⟩ (.int .i64 0)) := hw10
        have d0 : w10.cell? ⟨w3.heap.size, 0, none⟩ = some (.int .i64 3) := by simp [World.cell?, r10]
        have d1 : w10.cell? ⟨w3.heap.size, 1, none⟩ = some (.string ⟨#[]⟩) := by simp [World.cell?, r10]
        have d2 : w10.cell? ⟨w3.heap.size, 2, none⟩ = some (.slice a7 (s.need - 2) c7) := by simp [World.cell?, r10]
        have e0 : w10.cell? ⟨w.heap.size, 0, none⟩ = some (.int .i64 0) := by simp [World.cell?, r10']
        have e1 : w10.cell? ⟨w.heap.size, 1, none⟩ = some (.string ⟨#[]⟩) := by simp [World.cell?, r10']
        have e2 : w10.cell? ⟨w.heap.size, 2, none⟩ = some (.slice none 0 0) := by simp [World.cell?, r10']
        have g0 : ∀ i, w10.frozen? ⟨w.heap.size, i, none⟩ = false := fun i => by simp [World.frozen?, r10']
        have g00 := g0 0
        have g01 := g0 1
        have g02 := g0 2
        clear bx9 ow9 hg9 hd9 hh9 K9 hv9 hdd fin r10 r10' hw10 g0 hs4
        go_upto_region 9 with fail
        rw [← HW10.out]
        go_wp2
        obtain ⟨z1, z2, z3⟩ := FIN.out _ (by rw [← HW10.out])
        refine bodyPost_ret (results_cell_row rfl _ _ w.heap.size 54 _ (0, 0) _ rfl z1 Try.underlying54 rfl (by kernel_rfl)) rfl ?_
        rw [HT.out]
        exact ⟨_, rfl, z2, z3⟩
      | false =>
        rw [if_neg (by rw [hsf]; simp)] at HT
        have H8 : Hid (BoxAt wc ib s.most s.stand s.need v g ∧ Own wc 0 v came ∧ Own wc wc.heap.size (.slice none 0 0) [] ∧ wc.heap[w3.heap.size]? = some (.cells #[.int .i64 5, .string ⟨#[]⟩, .slice none 0 0] 54 (0, 0)) ∧ wc.heap[w.heap.size]? = some (.cells #[.int .i64 0, .string ⟨#[]⟩, .slice none 0 0] 54 (0, 0)) ∧ Kept (fun k => False) w wc ∧ wc.heap.size ≤ wc.heap.size) := ⟨bx6, ow6, Own.nil _ _, r6i, r6r, Kept.ofBelow BB6, Nat.le_refl _⟩
        have HBB6 : Hid (Below w.heap.size w wc) := BB6
        have j2 : wc.cell? ⟨ib, 2, none⟩ = some (.int .i64 s.need) := bx6.cell.2.2.1
        have hltc : ib < wc.heap.size := bx6.lt
        clear r6i r6r bx6 ow6 BB6 H6 hsf i2 hs4
        go_wp2_with fail
        have hs4 := HS4.out
        refine (drop_any wc ib _ _ _ v g came s.need H8.out.1 H8.out.2.1 (by have := HC.out; omega) (by have := HC.out; omega)).mono ?_
        rintro e w9 ⟨rfl, v9, g9, came9, bx9, ow9, hg9, hd9, hh9, K9, hv9⟩
        have hdd : came9.drop g9 = s.held.drop s.need := by rw [hd9, ← HH.out, List.drop_drop]
        obtain ⟨k1, f1, hlt9, r10, r10', fin⟩ := body_fin HI0.out H8.out.2.2.1 (by have := HBB6.out.size; omega) (by omega) H8.out.2.2.2.2.2.2 (by omega) H8.out.2.2.2.1 H8.out.2.2.2.2.1 H8.out.2.2.2.2.2.1 bx9 ow9 hg9 hdd hh9 K9 hv9
        have FIN : Hid (∀ W, W = (((w9.setCell ⟨ib, 1, none⟩ (.int .i64 0)).setCell ⟨w.heap.size, 0, none⟩ (.int .i64 5)).setCell ⟨w.heap.size, 1, none⟩ (.string ⟨#[]⟩)).setCell ⟨w.heap.size, 2, none⟩ (.slice none 0 0) →
          W.heap[w.heap.size]? = some (.cells #[.int .i64 5, .string ⟨#[]⟩, (.slice none 0 0)] 54 (0, 0)) ∧ Own W w.heap.size (.slice none 0 0) [] ∧ WentX (.slice none 0 0) w ib v { s with stand := 0, held := s.held.drop s.need } W) := fin
        obtain ⟨w10, hw10⟩ : ∃ w10, w10 = w9.setCell ⟨ib, 1, none⟩ (.int .i64 0) := ⟨_, rfl⟩
        rw [← hw10] at r10 r10'
        have HW10 : Hid (w10 = w9.setCell ⟨ib, 1, none⟩ (.int .i64 0)) := hw10
        have d0 : w10.cell? ⟨w3.heap.size, 0, none⟩ = some (.int .i64 5) := by simp [World.cell?, r10]
        have d1 : w10.cell? ⟨w3.heap.size, 1, none⟩ = some (.string ⟨#[]⟩) := by simp [World.cell?, r10]
        have d2 : w10.cell? ⟨w3.heap.size, 2, none⟩ = some (.slice none 0 0) := by simp [World.cell?, r10]
        have e0 : w10.cell? ⟨w.heap.size, 0, none⟩ = some (.int .i64 0) := by simp [World.cell?, r10']
        have e1 : w10.cell? ⟨w.heap.size, 1, none⟩ = some (.string ⟨#[]⟩) := by simp [World.cell?, r10']
        have e2 : w10.cell? ⟨w.heap.size, 2, none⟩ = some (.slice none 0 0) := by simp [World.cell?, r10']
        have g0 : ∀ i, w10.frozen? ⟨w.heap.size, i, none⟩ = false := fun i => by simp [World.frozen?, r10']
        have g00 := g0 0
        have g01 := g0 1
        have g02 := g0 2
        clear bx9 ow9 hg9 hd9 hh9 K9 hv9 hdd fin r10 r10' hw10 g0 hs4
        go_upto_region 9 with fail
        rw [← HW10.out]
        go_wp2
        obtain ⟨z1, z2, z3⟩ := FIN.out _ (by rw [← HW10.out])
        refine bodyPost_ret (results_cell_row rfl _ _ w.heap.size 54 _ (0, 0) _ rfl z1 Try.underlying54 rfl (by kernel_rfl)) rfl ?_
        rw [HT.out]
        exact ⟨_, rfl, z2, z3⟩
end Go.Proofs.Ytcgpfhkndbggiaa
