/-
  The walk of shown.
-/
import Derived.Test.YtnpofjeiamjioaaLSm
import Derived.Test.YtnpofjeiamjioaaLoadW
namespace Go.Proofs.Ytnpofjeiamjioaa
open Go.RowKit Go.Maps

theorem s1 : act 1024 [] 1 2 [] 0 = (0, [⟨2, [], 0⟩]) := by rfl
theorem s2 : act 1024 [⟨2, [], 0⟩] 2 2 [97, 98] 0 = (0, [⟨2, [97, 98], 0⟩]) := by rfl
theorem s3 : act 1024 [⟨2, [97, 98], 0⟩] 3 2 [] 0 = (0, [⟨2, [97, 98], 2⟩]) := by rfl
theorem s4 : act 1024 [⟨2, [97, 98], 2⟩] 2 2 [99, 100] 0 = (0, [⟨2, [97, 98, 99, 100], 2⟩]) := by rfl
theorem s5 : crash [4] [⟨2, [97, 98, 99, 100], 2⟩] = [⟨2, [97, 98, 99], 3⟩] := by rfl
theorem lit_bytes (w : World) (l : List UInt8) (C : Array Value) (hC : (u8s l).toArray = C) (n : Nat) (hn : l.length = n) (hb : l.length ≤ 1000) : IsBytes (w.alloc (.cells C 5)) (some ⟨w.heap.size, 0, none⟩) n l := by
  subst hC hn
  exact ByteRow.is (bs := l) (heap_alloc_new w _) 0 _ l (fun j x hj => by rw [Nat.zero_add]; exact hj) (Nat.le_refl _) (by unfold maxLen; omega)
theorem lit_ints (w : World) (x : Int) (hx : -9223372036854775808 ≤ x ∧ x ≤ 9223372036854775807) : IsInts (w.alloc (.cells #[.int .i64 x] 3)) (some ⟨w.heap.size, 0, none⟩) 1 [x] := by
  refine ⟨Nat.le_refl _, by unfold maxLen; omega, (fun y hy => by obtain rfl := List.mem_singleton.1 hy; exact hx), .inr ⟨w.heap.size, 0, rfl, by simp, fun j y hj => ?_⟩⟩
  have hj0 : j = 0 := by have := (List.getElem?_eq_some_iff.1 hj).1; simp at this; exact this
  subst hj0
  simp only [List.getElem?_cons_zero, Option.some.injEq] at hj
  subst hj
  unfold World.cell?
  rw [heap_alloc_new]
  rfl
/-- A disk that was made here: its blocks are new. -/
structure Made (w0 w : World) (db mb : Nat) (q : Int) (L : List Fl) (vs : Int → Value) : Prop where
  disk : DiskAt w db mb q L vs
  below : Below w0.heap.size w0 w
  mine : ∀ k, Mine db mb L vs k → w0.heap.size ≤ k
theorem Made.turned {w0 w w' : World} {db mb : Nat} {q : Int} {L L' : List Fl} {vs vs' : Int → Value} (h : Made w0 w db mb q L vs) (hd : DiskAt w' db mb q L' vs') (ht : Turned w w' db mb L vs L' vs') : Made w0 w' db mb q L' vs' := by
  have hs := h.below.size
  refine ⟨hd, h.below.trans (ht.kept.below hs (fun k hk e => ?_)), fun k e => ?_⟩
  · have := h.mine k e
    omega
  · rcases ht.mine k e with e | e
    · exact h.mine k e
    · omega
theorem Made.later {w0 w w' : World} {db mb : Nat} {q : Int} {L : List Fl} {vs : Int → Value} (h : Made w0 w db mb q L vs) (hb : Below w.heap.size w w') : Made w0 w' db mb q L vs := h.turned (h.disk.below hb) (Turned.ofBelow hb)

theorem doM {w0 w : World} {db mb : Nat} {q : Int} {L : List Fl} {vs : Int → Value} (h : Made w0 w db mb q L vs) (k n z : Int) (hwf : (Lit.int .i64 n).wf = true) (ad : Option Addr) (dc : Nat) (d : List UInt8) (hd : IsBytes w ad dc d) (hdm : d.length ≤ 140737488355328) (r : Int × List Fl) (hr : act q L k n d z = r) :
    Calls Try.prog 18 #[.pointer (some ⟨db, 0, none⟩), .agg #[.int .i64 k, .int .i64 n, .slice ad d.length dc, .int .i64 z]] w fun e w' => e = .returned (.int .i64 r.1) ∧ ∃ vs', Made w0 w' db mb q r.2 vs' := by
  refine (do_any w db mb q L vs h.disk k n z hwf ad dc d hd hdm).mono ?_
  rintro e w' ⟨he, vs', h1, h2⟩
  rw [hr] at he h1 h2
  exact ⟨he, vs', h.turned h1 h2⟩
theorem nil_bytes (w : World) : IsBytes w none 0 [] := ⟨Nat.le_refl _, by unfold maxLen; omega, .inl rfl⟩

/-- How a list of files is read: of its one file. -/
theorem ListAt.cells {w : World} {lo : Nat} {v : Value} {P : List (Fl × Nat)} (h : ListAt w lo v P) : ∃ a c, v = .slice a P.length c ∧ c ≤ maxLen ∧ P.length ≤ c ∧ ∀ (i : Nat) p, P[i]? = some p → ∃ b, a = some ⟨b, 0, none⟩ ∧ b < w.heap.size ∧ w.cell? ⟨b, i * 3, none⟩ = some (.int .i64 p.1.num) ∧ w.cell? ⟨b, i * 3 + 1, none⟩ = some (.slice (some ⟨p.2, 0, none⟩) p.1.data.length p.1.data.length) ∧ w.cell? ⟨b, i * 3 + 2, none⟩ = some (.int .i64 (p.1.safe : Int)) ∧ ByteRow w 5 p.2 p.1.data := by
  rcases h.row.2 with ⟨rfl, h0⟩ | ⟨g, cap, cur, rfl, hB, hg, hnc, hcm, hcs, htake⟩
  · refine ⟨none, 0, by rw [h0], by unfold maxLen; omega, by omega, fun i p hp => ?_⟩
    have := (List.getElem?_eq_some_iff.1 hp).1
    omega
  · refine ⟨_, cap, rfl, hcm, hnc, fun i p hp => ?_⟩
    have hc : ∀ j, j < 3 → w.cell? ⟨g, i * 3 + j, none⟩ = (cellF p)[j]? := fun j hj => by
      have h1 := flatF_get P i p hp j hj
      have hi := (List.getElem?_eq_some_iff.1 hp).1
      rw [← htake, List.getElem?_take_of_lt (by omega)] at h1
      simp only [World.cell?, hg]
      simpa using h1
    exact ⟨g, rfl, (Array.getElem?_eq_some_iff.1 hg).1, hc 0 (by decide), hc 1 (by decide), hc 2 (by decide), (h.data p (List.mem_of_getElem? hp)).1⟩

set_option maxHeartbeats 2000000 in
set_option maxRecDepth 1000000 in
theorem shown_any (w : World) : Calls Try.prog 6 #[] w fun e w' => e = .returned (.bool true) ∧ Below w.heap.size w w' := by
  have q1 : withinB 1023 1024 67108864 = false := rfl
  have q2 : withinB 1024 1024 67108864 = true := rfl
  go_enter Try.func6, Try.ntmps6
  go_wp2_with fail
  refine (new_any 1023 w).mono ?_
  rintro e w1 ⟨B1, h1⟩
  obtain rfl : e = .returned (.tuple #[.pointer none, .int .i64 110]) := by
    rcases h1 with ⟨_, h⟩ | ⟨h, _⟩
    · exact h
    · rw [q1] at h; cases h
  have H1 : Hid (Below w.heap.size w w1) := B1
  clear B1 h1
  go_wp2_with fail
  refine (new_any 1024 w1).mono ?_
  rintro e w2 ⟨B2, h2⟩
  obtain ⟨db, mb, vs, rfl, d2, m2⟩ : ∃ db mb vs, e = .returned (.tuple #[.pointer (some ⟨db, 0, none⟩), .int .i64 0]) ∧ DiskAt w2 db mb 1024 [] vs ∧ ∀ k, Mine db mb [] vs k → w1.heap.size ≤ k := by
    rcases h2 with ⟨h, _⟩ | ⟨_, h⟩
    · rw [q2] at h; cases h
    · exact h
  have M2 : Hid (Made w w2 db mb 1024 [] vs) := ⟨d2, H1.out.trans (B2.mono H1.out.size), fun k e => Nat.le_trans H1.out.size (m2 k e)⟩
  clear B2 h2 d2 m2 H1
  go_wp2_with fail
  refine (doM M2.out 1 2 0 (by decide) none 0 [] (nil_bytes w2) (by decide) _ s1).mono ?_
  rintro e w3 ⟨rfl, vs3, h3⟩
  have M3 : Hid (Made w w3 db mb 1024 [⟨2, [], 0⟩] vs3) := h3
  clear h3 M2
  go_wp2_with fail
  refine (doM (M3.out.later ((Below.refl _ w3).alloc (Nat.le_refl _) _)) 2 2 0 (by decide) (some ⟨w3.heap.size, 0, none⟩) 2 [97, 98] (lit_bytes w3 [97, 98] _ (by rfl) 2 rfl (by decide)) (by decide) _ s2).mono ?_
  rintro e w4 ⟨rfl, vs4, h4⟩
  have M4 : Hid (Made w w4 db mb 1024 [⟨2, [97, 98], 0⟩] vs4) := h4
  clear h4 M3
  go_wp2_with fail
  refine (doM M4.out 3 2 0 (by decide) none 0 [] (nil_bytes w4) (by decide) _ s3).mono ?_
  rintro e w5 ⟨rfl, vs5, h5⟩
  have M5 : Hid (Made w w5 db mb 1024 [⟨2, [97, 98], 2⟩] vs5) := h5
  clear h5 M4
  go_wp2_with fail
  refine (doM (M5.out.later ((Below.refl _ w5).alloc (Nat.le_refl _) _)) 2 2 0 (by decide) (some ⟨w5.heap.size, 0, none⟩) 2 [99, 100] (lit_bytes w5 [99, 100] _ (by rfl) 2 rfl (by decide)) (by decide) _ s4).mono ?_
  rintro e w6 ⟨rfl, vs6, h6⟩
  have M6 : Hid (Made w w6 db mb 1024 [⟨2, [97, 98, 99, 100], 2⟩] vs6) := h6
  clear h6 M5
  go_wp2_with fail
  refine (crash_any _ db mb 1024 [⟨2, [97, 98, 99, 100], 2⟩] vs6 (M6.out.later ((Below.refl _ w6).alloc (Nat.le_refl _) _)).disk (some ⟨w6.heap.size, 0, none⟩) 1 [4] (lit_ints w6 4 (by omega)) (fun b o e _ hm => by
    simp only [Option.some.injEq, Addr.mk.injEq] at e
    have := M6.out.disk.lt hm
    omega)).mono ?_
  rintro e w7 ⟨rfl, vs7, h7, t7⟩
  rw [s5] at h7 t7
  have M7 : Hid (Made w w7 db mb 1024 [⟨2, [97, 98, 99], 3⟩] vs7) := (M6.out.later ((Below.refl _ w6).alloc (Nat.le_refl _) _)).turned h7 t7
  clear h7 t7 M6
  go_wp2_with fail
  refine (files_any w7 db mb 1024 _ vs7 M7.out.disk).mono ?_
  rintro e w8 ⟨v8, rfl, P8, hP8, l8, B8⟩
  obtain ⟨g8, rfl⟩ : ∃ g8, P8 = [((⟨2, [97, 98, 99], 3⟩ : Fl), g8)] := by
    match P8, hP8 with
    | [(f, g)], h =>
      simp only [List.map_cons, List.map_nil, List.cons.injEq, and_true] at h
      exact ⟨g, by rw [h]⟩
  obtain ⟨a8, c8, rfl, hc8, hc8', hcell⟩ := l8.cells
  obtain ⟨b8, rfl, hb8, x0, x1, x2, hrow⟩ := hcell 0 _ rfl
  simp only [Nat.zero_mul, Nat.zero_add, List.length_cons, List.length_nil] at x0 x1 x2
  have M8 : Hid (Made w w8 db mb 1024 [⟨2, [97, 98, 99], 3⟩] vs7) := M7.out.later B8
  have R8 : Hid (ByteRow w8 5 g8 [97, 98, 99]) := hrow
  clear hcell l8 B8 hP8 M7 hrow
  have hub := (used_any w8 db mb 1024 _ vs7 M8.out.disk)
  rw [show ((total [⟨2, [97, 98, 99], 3⟩] : Nat) : Int) = 3 from rfl] at hub
  have HU : Hid (Calls Try.prog 21 #[.pointer (some ⟨db, 0, none⟩)] w8 fun e w' => e = .returned (.int .i64 3) ∧ w' = w8) := hub
  clear hub
  go_wp2_with (first
    | (go_at_call 21; refine HU.out.mono ?_; rintro e wx ⟨rfl, hW⟩; have hW := hW.symm; subst hW)
    | (go_at_call 22
       have B9 : Below w8.heap.size w8 (w8.alloc (.cells #[.int .u8 97, .int .u8 98, .int .u8 99] 5)) := (Below.refl _ w8).alloc (Nat.le_refl _) _
       refine (same_any (some ⟨g8, 0, none⟩) (some ⟨w8.heap.size, 0, none⟩) 3 3 [97, 98, 99] [97, 98, 99] _ ((R8.out.is 0 3 [97, 98, 99] (fun j x hj => by rw [Nat.zero_add]; exact hj) (by decide) (by unfold maxLen; omega)).below B9) (lit_bytes w8 [97, 98, 99] _ (by rfl) 3 rfl (by decide))).mono ?_
       rintro e w9 ⟨rfl, n9, hw9⟩
       have H9 : Hid (Below w.heap.size w w9) := by
         show Below _ _ _
         rw [hw9]
         exact below_drewN (M8.out.below.trans (B9.mono M8.out.below.size)) n9
       rw [show decide (([97, 98, 99] : List UInt8) = [97, 98, 99]) = true from rfl]
       clear hw9 B9))
  go_ret
  exact ⟨rfl, H9.out⟩
end Go.Proofs.Ytnpofjeiamjioaa
