/-
  The walk of does.
-/
import Derived.Test.YtnpofjeiamjioaaDkA
import Derived.Test.YtnpofjeiamjioaaHStore
namespace Go.Proofs.Ytnpofjeiamjioaa
open Go.RowKit

/-- What a call leaves of both disks. -/
def PrP (w : World) (B db mb : Nat) (q : Int) (L : List Fl) (vs : Int → Value) (rb : Nat) (fv : Value) (F : List (Fl × Value)) (L' : List Fl) (w' : World) : Prop :=
  Kept (PM db mb L vs rb fv F) w w' ∧ ∃ vs' fv' F', Pr w' B db mb q L' vs' rb fv' F' ∧ ∀ g, PM db mb L' vs' rb fv' F' g → PM db mb L vs rb fv F g ∨ w.heap.size ≤ g
set_option maxHeartbeats 4000000 in
set_option maxRecDepth 1000000 in
theorem does_any (w : World) (B db mb : Nat) (q : Int) (L : List Fl) (vs : Int → Value) (rb : Nat) (fv : Value) (F : List (Fl × Value)) (h : Pr w B db mb q L vs rb fv F) (hB : B ≤ w.heap.size) (hl : L.length ≤ 1073741000) (k n z : Int) (hwf : (Lit.int .i64 n).wf = true) (ad : Option Addr) (dc : Nat) (d : List UInt8) (hd : ∀ X, Below B w X → IsBytes X ad dc d) (hdm : d.length ≤ 1073741823) :
    Calls Try.prog 15 #[.agg #[.pointer (some ⟨db, 0, none⟩), .pointer (some ⟨rb, 0, none⟩)], .agg #[.int .i64 k, .int .i64 n, .slice ad d.length dc, .int .i64 z]] w fun e w' => e = .returned (.bool true) ∧ PrP w B db mb q L vs rb fv F (act q L k n d z).2 w' := by
  obtain ⟨r, hr⟩ : ∃ r, r = act q L k n d z := ⟨_, rfl⟩
  rw [← hr]
  have HRr := hideR hr
  have HP := hideR h
  have HD := hideR hd
  obtain ⟨w1, hw1⟩ : ∃ w1, w1 = (w.alloc (.cells #[.pointer (some ⟨db, 0, none⟩), .pointer (some ⟨rb, 0, none⟩)] 33)).alloc (.cells #[.int .i64 k, .int .i64 n, .slice ad d.length dc, .int .i64 z] 39) := ⟨_, rfl⟩
  have b1 : Below w.heap.size w w1 := by rw [hw1]; exact ((Below.refl _ w).alloc (Nat.le_refl _) _).alloc (by simp) _
  have x1 : w1.heap[w.heap.size]? = some (.cells #[.pointer (some ⟨db, 0, none⟩), .pointer (some ⟨rb, 0, none⟩)] 33 (0, 0)) := by
    rw [hw1]
    exact (heap_alloc_old (w.alloc (.cells #[.pointer (some ⟨db, 0, none⟩), .pointer (some ⟨rb, 0, none⟩)] 33)) _ (by simp)).trans (heap_alloc_new w _)
  have x2 : w1.heap[w.heap.size + 1]? = some (.cells #[.int .i64 k, .int .i64 n, .slice ad d.length dc, .int .i64 z] 39 (0, 0)) := by
    rw [hw1]
    have := heap_alloc_new (w.alloc (.cells #[.pointer (some ⟨db, 0, none⟩), .pointer (some ⟨rb, 0, none⟩)] 33)) (.cells #[.int .i64 k, .int .i64 n, .slice ad d.length dc, .int .i64 z] 39)
    rw [World.size_alloc] at this
    exact this
  have z1 : w1.heap.size = w.heap.size + 2 := by rw [hw1]; simp
  have c2 : w1.cell? ⟨w.heap.size + 1, 2, none⟩ = some (.slice ad d.length dc) := by simp [World.cell?, x2]
  have CL := hideR (lent_any ad dc d w1 (hd w1 (b1.mono hB)) (by omega))
  have HB1 := hideR b1
  have HX1 := hideR (And.intro x1 x2)
  have HZ1 := hideR z1
  clear h hd hr b1 x1 x2 z1
  go_enter Try.func15, Try.ntmps15
  go_upto_region 2 with (go_at_call 40
                         rw [← hw1]
                         refine CL.out.mono ?_
                         rintro e w2 ⟨g, cap, rfl, o2, b2⟩
                         have O2 := hideR o2
                         have B2 := hideR b2
                         have hc2 : d.length + 8 ≤ cap ∧ cap ≤ 9223372036854775807 := by
                           obtain ⟨a, c, e, hi⟩ := o2.shape
                           simp only [Value.slice.injEq] at e
                           obtain ⟨rfl, _, rfl⟩ := e
                           have h1 := hi.1
                           have h2 := hi.2.1
                           unfold maxLen at h2
                           simp [marks] at h1
                           omega
                         clear o2 b2)
  clear hw1 c2
  have hx2 := (B2.out.block _ (Array.getElem?_eq_some_iff.1 HX1.out.2).1).trans HX1.out.2
  obtain ⟨d0, d1, d2, d3⟩ : w2.cell? ⟨w.heap.size + 1, 0, none⟩ = some (.int .i64 k) ∧ w2.cell? ⟨w.heap.size + 1, 1, none⟩ = some (.int .i64 n) ∧ w2.cell? ⟨w.heap.size + 1, 2, none⟩ = some (.slice ad d.length dc) ∧ w2.cell? ⟨w.heap.size + 1, 3, none⟩ = some (.int .i64 z) := by simp [World.cell?, hx2]
  go_upto_region 3 with fail
  clear d0 d1 d2 d3
  obtain ⟨w3, hw3⟩ : ∃ w3, w3 = w2.alloc (.cells #[.int .i64 k, .int .i64 n, .slice ad d.length dc, .int .i64 z] 39) := ⟨_, rfl⟩
  rw [← hw3]
  have b3 : Below w2.heap.size w2 w3 := by rw [hw3]; exact (Below.refl _ w2).alloc (Nat.le_refl _) _
  have x3 : w3.heap[w2.heap.size]? = some (.cells #[.int .i64 k, .int .i64 n, .slice ad d.length dc, .int .i64 z] 39 (0, 0)) := by rw [hw3]; exact heap_alloc_new w2 _
  have hx3 := (b3.block _ (Array.getElem?_eq_some_iff.1 hx2).1).trans hx2
  have d2 : w3.cell? ⟨w.heap.size + 1, 2, none⟩ = some (.slice ad d.length dc) := by simp [World.cell?, hx3]
  have e2 : w3.cell? ⟨w2.heap.size, 2, none⟩ = some (.slice ad d.length dc) := by simp [World.cell?, x3]
  have e3 : w3.frozen? ⟨w2.heap.size, 2, none⟩ = false := by simp [World.frozen?, x3]
  clear hw3
  have i0 : (0 : Int) ≤ (d.length : Int) := by omega
  have i1 : (d.length : Int) ≤ (cap : Int) := by omega
  have i2 : (d.length : Int) ≤ ((d.length + 8 : Nat) : Int) := by omega
  have i3 : (d.length : Int) ≤ (d.length : Int) + 8 := by omega
  go_upto_region 4 with fail
  clear d2 e2 e3
  obtain ⟨w4, hw4⟩ : ∃ w4, w4 = w3.setCell ⟨w2.heap.size, 2, none⟩ (.slice (some ⟨g, 0, none⟩) d.length cap) := ⟨_, rfl⟩
  rw [← hw4]
  have x4 : w4.heap[w2.heap.size]? = some (.cells #[.int .i64 k, .int .i64 n, .slice (some ⟨g, 0, none⟩) d.length cap, .int .i64 z] 39 (0, 0)) := by rw [hw4]; exact (set_cells x3 2 _).1
  have b4 : Below w2.heap.size w2 w4 := by rw [hw4]; exact b3.trans ((Kept.setCell (fun j => j = w2.heap.size) w3 _ _ _ rfl).below b3.size (fun j hj e => by omega))
  have HB4 := hideR (And.intro b4 (HB1.out.trans (((B2.out.trans (b4.mono B2.out.size))).mono (by have := HZ1.out; omega))))
  have hb14 : Below w1.heap.size w1 w4 := B2.out.trans (b4.mono B2.out.size)
  have y1 := (hb14.block _ (Array.getElem?_eq_some_iff.1 HX1.out.1).1).trans HX1.out.1
  have y2 := (hb14.block _ (Array.getElem?_eq_some_iff.1 HX1.out.2).1).trans HX1.out.2
  have HY := hideR (And.intro y1 y2)
  have P4 := hideR (HP.out.later HB4.out.2)
  have o4 := O2.out.below b4
  have HO4 := hideR o4
  have hig : IsBytes w4 (some ⟨g, 0, none⟩) cap (d ++ marks 8) := by
    obtain ⟨a, c, e, hi⟩ := o4.shape
    simp only [Value.slice.injEq] at e
    obtain ⟨rfl, _, rfl⟩ := e
    exact hi
  have hgl := o4.lt g rfl
  have CD := hideR (do_any w4 db mb q L vs P4.out.dk k n z hwf (some ⟨g, 0, none⟩) cap d hig.cut (by omega))
  rw [← HRr.out] at CD
  obtain ⟨p0, p1⟩ : w4.cell? ⟨w.heap.size, 0, none⟩ = some (.pointer (some ⟨db, 0, none⟩)) ∧ w4.cell? ⟨w.heap.size, 1, none⟩ = some (.pointer (some ⟨rb, 0, none⟩)) := by simp [World.cell?, y1]
  obtain ⟨q0, q1, q2, q3⟩ : w4.cell? ⟨w2.heap.size, 0, none⟩ = some (.int .i64 k) ∧ w4.cell? ⟨w2.heap.size, 1, none⟩ = some (.int .i64 n) ∧ w4.cell? ⟨w2.heap.size, 2, none⟩ = some (.slice (some ⟨g, 0, none⟩) d.length cap) ∧ w4.cell? ⟨w2.heap.size, 3, none⟩ = some (.int .i64 z) := by simp [World.cell?, x4]
  have hz2 := B2.out.size
  clear hw4 b3 x3 hx2 hx3 b4 x4 hb14 y1 y2 o4 hig
  go_upto_region 5 with (go_at_call 18
                         refine CD.out.mono ?_
                         rintro e w5 ⟨rfl, vs', d5, t5⟩
                         have D5 := hideR d5
                         have T5 := hideR t5
                         clear d5 t5)
  clear p0 p1 q0 q1 q2 q3
  have hz4 := HB4.out.2.size
  have lt4 : ∀ j, Mine db mb L vs j → j < w.heap.size := fun j e => HP.out.dk.lt e
  have y1 := (T5.out.kept.block _ (Array.getElem?_eq_some_iff.1 HY.out.1).1 (fun e => by have := lt4 _ e; omega)).trans HY.out.1
  have y2 := (T5.out.kept.block _ (Array.getElem?_eq_some_iff.1 HY.out.2).1 (fun e => by have := lt4 _ e; omega)).trans HY.out.2
  have hBw : B ≤ w4.heap.size := by omega
  have pt := P4.out.turnD hBw T5.out
  have HPT := hideR pt
  have b5 : Below B w4 w5 := T5.out.kept.below hBw (fun j hj e => by have := HP.out.ge j (.inl e); omega)
  have HB5 := hideR ((HB4.out.2.mono hB).trans b5)
  have CR := hideR (refDo_any w5 B rb q fv F pt.1 (by have := HP.out.len; omega) (by rw [HP.out.eq]; exact HP.out.dk.right) (Nat.le_trans hBw T5.out.kept.size) k n z ad dc d (HD.out w5 HB5.out))
  rw [HP.out.eq, ← HRr.out] at CR
  obtain ⟨p0, p1⟩ : w5.cell? ⟨w.heap.size, 0, none⟩ = some (.pointer (some ⟨db, 0, none⟩)) ∧ w5.cell? ⟨w.heap.size, 1, none⟩ = some (.pointer (some ⟨rb, 0, none⟩)) := by simp [World.cell?, y1]
  obtain ⟨q0, q1, q2, q3⟩ : w5.cell? ⟨w.heap.size + 1, 0, none⟩ = some (.int .i64 k) ∧ w5.cell? ⟨w.heap.size + 1, 1, none⟩ = some (.int .i64 n) ∧ w5.cell? ⟨w.heap.size + 1, 2, none⟩ = some (.slice ad d.length dc) ∧ w5.cell? ⟨w.heap.size + 1, 3, none⟩ = some (.int .i64 z) := by simp [World.cell?, y2]
  have HY5 := hideR y2
  have o5 : Own w5 w1.heap.size (.slice (some ⟨g, 0, none⟩) (d.length + 8) cap) (d ++ marks 8) := Kept.own T5.out.kept HO4.out (fun j e e2 => by
    have := lt4 _ e2
    have := (HO4.out.lt j e).1
    have := HZ1.out
    omega)
  have HO5 := hideR o5
  have hz5 := T5.out.kept.size
  clear pt y1 y2 b5 o5
  go_upto_region 6 with (go_at_call 41
                         refine CR.out.mono ?_
                         rintro e w6 ⟨rfl, k6, fv', F', r6, e6, l6, n6⟩
                         have R6 := hideR (And.intro r6 (And.intro e6 (And.intro l6 n6)))
                         have K6 := hideR k6
                         clear r6 e6 l6 n6 k6)
  clear p0 p1 q0 q1 q2 q3
  have lt5 : ∀ j, j = rb ∨ fv.ownBlock = some j → RM rb fv F j := fun j e => by
    rcases e with e | e
    · exact .inl e
    · exact .inr (.inl e)
  have lt6 : ∀ j, RM rb fv F j → j < w.heap.size := fun j e => HP.out.rf.blt e
  have y2 := (K6.out.block _ (Array.getElem?_eq_some_iff.1 HY5.out).1 (fun e => by have := lt6 _ (lt5 _ e); omega)).trans HY5.out
  have q2 : w6.cell? ⟨w.heap.size + 1, 2, none⟩ = some (.slice ad d.length dc) := by simp [World.cell?, y2]
  have o6 : Own w6 w1.heap.size (.slice (some ⟨g, 0, none⟩) (d.length + 8) cap) (d ++ marks 8) := Kept.own K6.out HO5.out (fun j e e2 => by
    have := lt6 _ (lt5 _ e2)
    have := (HO5.out.lt j e).1
    have := HZ1.out
    omega)
  have hig : IsBytes w6 (some ⟨g, 0, none⟩) cap (d ++ marks 8) := by
    obtain ⟨a, c, e, hi⟩ := o6.shape
    simp only [Value.slice.injEq] at e
    obtain ⟨rfl, _, rfl⟩ := e
    exact hi
  have b6 : Below B w5 w6 := K6.out.below (by omega) (fun j hj e => by have := HP.out.ge j (.inr (lt5 _ e)); omega)
  have CS := hideR (still_any (some ⟨g, 0, none⟩) cap ad dc d w6 hig (HD.out w6 (HB5.out.trans b6)))
  have HO6 := hideR o6
  have hz6 := K6.out.size
  clear y2 o6 hig b6
  go_wp2_with (go_at_call 42
               refine CS.out.mono ?_
               rintro e w7 ⟨rfl, n7, hw7⟩
               have b7 : Below w6.heap.size w6 w7 := by rw [hw7]; exact below_drewN (Below.refl _ w6) n7
               have z7 : w7.heap.size = w6.heap.size := by rw [hw7]; rfl
               have HB7 := hideR b7
               have HO7 := hideR (HO6.out.below b7)
               have HZ7 := hideR z7
               clear hw7 b7 z7)
  clear q2
  obtain ⟨D, hDD⟩ : ∃ D, D = d.length + 8 := ⟨_, rfl⟩
  have HDD := hideR hDD
  clear hDD
  go_loopg [10] D (fun gk s10 wr => ∃ (j : Nat) (bs : List UInt8), s10 = .int .i64 (j : Int) ∧ D - j ≤ gk ∧ j ≤ D ∧ HidR (Kept (fun x => x = g) w7 wr ∧ Own wr w1.heap.size (.slice (some ⟨g, 0, none⟩) (d.length + 8) cap) bs))
  case atStart => exact ⟨0, _, rfl, by omega, by omega, ⟨⟨Kept.refl _ _, HO7.out⟩⟩⟩
  case round =>
    obtain ⟨j, bs, rfl, hgk, hj, HW⟩ := hrel
    by_cases hlt : j < D
    · have tlt : (j : Int) < (d.length : Int) + 8 := by have := HDD.out; omega
      have hbl : bs.length = d.length + 8 := by
        obtain ⟨a, c, e, _⟩ := HW.out.2.shape
        simp only [Value.slice.injEq] at e
        omega
      obtain ⟨x, hx⟩ : ∃ x, bs[j]? = some x := ⟨_, List.getElem?_eq_getElem (by have := HDD.out; omega)⟩
      have m0 := HW.out.2.cell j x hx
      have m1 := HW.out.2.frozen j
      have S2 := hideR (HW.out.2.set j 90)
      clear hx
      go_wp2_with fail
      go_roundg (D - (j + 1))
      case measure => omega
      case rel => exact ⟨j + 1, bs.set j 90, by go_num, Nat.le_refl _, hlt, ⟨⟨HW.out.1.trans (Kept.setCell _ _ _ _ _ rfl), S2.out.1⟩⟩⟩
    · have tlt : ¬ (j : Int) < (d.length : Int) + 8 := by have := HDD.out; omega
      go_wp2_with fail
      go_ret
      have hgb : w1.heap.size ≤ g := hgl.1
      have z1 := HZ1.out
      have z7 := HZ7.out
      obtain ⟨r6, e6, l6, n6⟩ := R6.out
      have d6 : DiskAt w6 db mb q r.2 vs' := D5.out.kept K6.out (fun j e e2 => HPT.out.2.1 j e (lt5 _ e2))
      have pm : ∀ j, PM db mb r.2 vs' rb fv' F' j → PM db mb L vs rb fv F j ∨ w4.heap.size ≤ j := fun j e => by
        rcases e with e | e | e | ⟨p, hp, e⟩
        · rcases T5.out.mine j e with e | e
          · exact .inl (.inl e)
          · exact .inr e
        · exact .inl (.inr (.inl e))
        · rcases l6 j e with e | e
          · exact .inl (.inr (.inr (.inl e)))
          · exact .inr (by omega)
        · rcases n6 p hp j e with ⟨p', hp', e⟩ | e
          · exact .inl (.inr (.inr (.inr ⟨p', hp', e⟩)))
          · exact .inr (by omega)
      have pr6 : Pr w6 B db mb q r.2 vs' rb fv' F' := ⟨d6, r6, e6, fun j e e2 => by
        have hj5 := D5.out.lt e
        rcases e2 with e2 | e2 | ⟨p, hp, e2⟩
        · exact HPT.out.2.1 j e (.inl e2)
        · rcases l6 j e2 with e2 | e2
          · exact HPT.out.2.1 j e (.inr (.inl e2))
          · omega
        · rcases n6 p hp j e2 with ⟨p', hp', e2⟩ | e2
          · exact HPT.out.2.1 j e (.inr (.inr ⟨p', hp', e2⟩))
          · omega, fun j e => by
        rcases pm j e with e | e
        · exact HP.out.ge j e
        · omega⟩
      have kk : Kept (PM db mb L vs rb fv F) w w6 := ((Kept.ofBelow HB4.out.2).trans (T5.out.kept.mono (fun j _ e => .inl e))).trans (K6.out.mono (fun j _ e => .inr (lt5 j e)))
      refine ⟨by simp, (kk.trans (Kept.ofBelow HB7.out)).step HW.out.1 (fun j hj e => by omega), vs', fv', F', (pr6.later HB7.out).kept HW.out.1 (fun j e e2 => ?_), fun j e => ?_⟩
      · rcases pm j e with e | e
        · have := HP.out.blt e
          omega
        · omega
      · rcases pm j e with e | e
        · exact .inl e
        · exact .inr (by omega)
end Go.Proofs.Ytnpofjeiamjioaa
