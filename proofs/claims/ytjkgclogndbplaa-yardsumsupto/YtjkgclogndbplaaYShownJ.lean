/-
  YShown0, YShown.
-/
import Derived.Test.YtjkgclogndbplaaYJobsW
import Derived.Test.YtjkgclogndbplaaYAdd
import Derived.Lib.LazyBuf
import Derived.Lib.SmallJoins
import Derived.Test.YtjkgclogndbplaaYClone
namespace Go.Proofs.Ytjkgclogndbplaa
open Go.RowKit
theorem conv_is {w : World} {a : Option Addr} {c n : Nat} {l : List UInt8} (h : IsBytes w a c l) (hn : l.length = n) : (convert 36 9 (.slice a n c)).run Try.prog w = .ok (.string ⟨l.toArray⟩) w := by
  subst hn
  cases a with
  | none =>
    obtain rfl : l = [] := by
      rcases h.2.2 with h | ⟨_, _, e, _⟩
      · exact h
      · cases e
    exact run_convert_bytes_nil w 36 5 Try.underlying36 Try.underlying5 0 c 9 Try.underlying9
  | some p =>
    refine run_convert_bytes_back w 36 9 5 p c l Try.underlying36 Try.underlying5 Try.underlying9 (fun j hj => ?_)
    rw [h.at j hj, nums_get l j l[j] (List.getElem?_eq_getElem hj)]

theorem conv_new (W : World) (C : Array Value) (n c : Nat) : (convert 36 36 (.slice (some ⟨W.heap.size, 0, none⟩) n c)).run Try.prog (W.alloc (.cells C 5)) = .ok (.slice (some ⟨W.heap.size, 0, none⟩) n c) (W.alloc (.cells C 5 (C.size, C.size + 1))) :=
  Lib.run_convert_bytes_const (P := Try.prog) W 36 5 C n c Try.underlying36 Try.underlying5
def jS : Jb := ⟨7, 3, 0, 1, 0, 1, 0, 0, -1, 0, 0, 0, 0, 0, ⟨#[97]⟩⟩
theorem jS_ok : jS.ok := by
  refine ⟨?_, ?_, ?_, ?_, ?_, ?_, ?_, ?_, ?_, ?_, ?_, ?_, ?_, ?_, ?_⟩ <;> decide
theorem addS (jm : Nat) (d r : HM) : addE (yd0 jm d r).L jS 1 = 0 := rfl
theorem few0 (jm : Nat) (d r : HM) (hd : d.R = []) (hr : r.R = []) (hdl : d.last = 0) (hrl : r.last = 0) : Few (yd0 jm d r) 0 := by
  refine ⟨fun K h hK => ?_, Nat.le_refl _, Nat.le_refl _, Nat.le_refl _, sm0_small, fun _ => sm0_small⟩
  simp only [yd0] at hK
  split at hK
  · cases hK
    rw [hd, hdl]
    exact ⟨Int.le_refl _, Int.le_refl _, Nat.le_refl _, fun r hr => by cases hr⟩
  · split at hK
    · cases hK
      rw [hr, hrl]
      exact ⟨Int.le_refl _, Int.le_refl _, Nat.le_refl _, fun r hr => by cases hr⟩
    · cases hK
theorem fst_of {Y : Yd} {k : Nat} {t : ByteArray} {h : HM} (hx : Y.hp (hkT k t) = some h) : fstOf Y k t = (h.R.head?.map (fun r => r.2.id)).getD 0 := by
  unfold fstOf
  rw [hx]
theorem tube_zero (Y : Yd) (t : ByteArray) (b hb0 mb0 hb1 mb1 hb2 mb2 : Nat) : (Y.withTube t b hb0 mb0 hb1 mb1 hb2 mb2).hp (hkT 0 t) = some (hm0 hb0 mb0) := if_pos rfl
/-- What one job makes of an empty yard. -/
theorem laid_one {jm : Nat} {d r : HM} {w : World} {lab : Nat → HK} {yb : Nat} {bv : Value} {w' : World} (h : Laid w lab yb (yd0 jm d r) jS bv [120] w') :
    ∃ lab' Y, YAt w' lab' yb Y ∧ (∃ t0 t1, Y.L = [⟨jS, bv, [120], t0, t1⟩]) ∧ Y.sm = ⟨1, 0, 0, 0, 1⟩ ∧ fstOf Y 0 ⟨#[97]⟩ = 7 ∧ (∃ b, Y.tb ⟨#[97]⟩ = some b) := by
  obtain ⟨lab', Y1, Y2, S, h1, h2, h3, h4, h5, _, _⟩ := h
  have hks : ksOf jS = [hkT 0 ⟨#[97]⟩] := rfl
  rw [hks] at h4
  obtain ⟨b, hb0, mb0, hb1, mb1, hb2, mb2, rfl⟩ : ∃ b hb0 mb0 hb1 mb1 hb2 mb2, Y1 = (yd0 jm d r).withTube jS.nm b hb0 mb0 hb1 mb1 hb2 mb2 := by
    rcases h1 with ⟨b, hb, _⟩ | ⟨_, h⟩
    · cases hb
    · exact h
  obtain rfl : Y2 = (yd0 jm d r).withTube jS.nm b hb0 mb0 hb1 mb1 hb2 mb2 := by
    rcases h2 with ⟨_, h⟩ | ⟨h, _⟩
    · exact h
    · exact absurd h (by decide)
  cases S with
  | nil => simp at h4
  | cons p S =>
    obtain rfl : S = [] := by
      have := congrArg List.length h4
      simp at this
      exact this
    obtain ⟨_, hp, _, _, _, hR⟩ := h3
    have hk : p.1 = hkT 0 ⟨#[97]⟩ := by simpa using h4
    have hp2 : ((yd0 jm d r).withTube jS.nm b hb0 mb0 hb1 mb1 hb2 mb2).hp (hkT 0 ⟨#[97]⟩) = some p.2.1 := by rw [← hk]; exact hp
    have e1 : p.2.1 = hm0 hb0 mb0 := by
      have : some (hm0 hb0 mb0) = some p.2.1 := (show ((yd0 jm d r).withTube jS.nm b hb0 mb0 hb1 mb1 hb2 mb2).hp (hkT 0 ⟨#[97]⟩) = some (hm0 hb0 mb0) from tube_zero _ _ _ _ _ _ _ _ _).symm.trans hp2
      exact (Option.some.inj this).symm
    refine ⟨lab', _, h5, ⟨_, _, rfl⟩, rfl, ?_, b, rfl⟩
    have hx : (PuY ((yd0 jm d r).withTube jS.nm b hb0 mb0 hb1 mb1 hb2 mb2) [p]).hp (hkT 0 ⟨#[97]⟩) = some p.2.2 := by
      show updH _ p.1 (some p.2.2) (hkT 0 ⟨#[97]⟩) = some p.2.2
      rw [hk]
      exact updH_at _ _ _
    refine (fst_of (h := p.2.2) hx).trans ?_
    rw [hR, hk, e1]
    rfl
end Go.Proofs.Ytjkgclogndbplaa

namespace Go.Proofs.Ytjkgclogndbplaa
open Go.RowKit
theorem field_sums (W : World) : (Instr.field 27 (.agg #[.int .i64 1, .int .i64 0, .int .i64 0, .int .i64 0, .int .i64 1]) 0).run Try.prog W = .ok (.int .i64 1) W := by kernel_rfl
set_option maxHeartbeats 8000000 in
set_option maxRecDepth 1000000 in
theorem shown_any (w : World) : Calls Try.prog 7 #[] w fun e w' => e = .returned (.bool true) ∧ Below w.heap.size w w' := by
  have CN : Hid (Calls Try.prog 21 #[] w fun e w' => ∃ yb lab' d r, e = .returned (ptrV yb) ∧ YAt w' lab' yb (yd0 w.heap.size d r) ∧ d.R = [] ∧ r.R = [] ∧ d.last = 0 ∧ r.last = 0 ∧ (∀ k, k < w.heap.size → lab' k = uT) ∧ Below w.heap.size w w') := new_any w (fun _ => uT)
  obtain ⟨n0, hn0⟩ : ∃ n0, n0 = w.heap.size := ⟨_, rfl⟩
  rw [← hn0] at CN ⊢
  have HN0 : Hid (n0 = w.heap.size) := hn0
  clear hn0
  go_enter Try.func7, Try.ntmps7
  go_upto_region 2 with (first
    | (go_at_call 21; refine CN.out.mono ?_; rintro e w1 ⟨yb, lab1, d, r, rfl, a1, hd, hr, hdl, hrl, hl1, b1⟩; have H1 : Hid (YAt w1 lab1 yb (yd0 n0 d r) ∧ d.R = [] ∧ r.R = [] ∧ d.last = 0 ∧ r.last = 0 ∧ (∀ k, k < n0 → lab1 k = uT) ∧ Below n0 w w1) := ⟨a1, hd, hr, hdl, hrl, hl1, b1⟩; clear a1 hd hr hdl hrl hl1 b1))
  clear CN
  have CC : Hid (Calls Try.prog 22 #[ptrV yb] w1 fun x w' => (∃ b, x = .returned (ptrV b)) ∧ Below w1.heap.size w1 w') := clone_empty w1 lab1 yb n0 d r H1.out.1 H1.out.2.1 H1.out.2.2.1
  go_upto_region 4 with (first
    | (go_at_call 22; refine CC.out.mono ?_; rintro e w2 ⟨⟨b2, rfl⟩, bb2⟩; have B2 : Hid (Below w1.heap.size w1 w2) := bb2; clear bb2))
  clear CC
  obtain ⟨lab2, hlab2⟩ : ∃ lab2 : Nat → HK, lab2 = fun k => if k < w1.heap.size then lab1 k else uT := ⟨_, rfl⟩
  obtain ⟨xb, hxb⟩ : ∃ xb, xb = w2.heap.size := ⟨_, rfl⟩
  obtain ⟨w3, hw3⟩ : ∃ w3, w3 = w2.alloc (.cells #[.int .u8 120] 5 (1, 2)) := ⟨_, rfl⟩
  have B3 : Hid (Below w2.heap.size w2 w3) := by rw [hw3]; exact (Below.refl _ w2).alloc (Nat.le_refl _) _
  have A3 : Hid (YAt w3 (fun k => if k < w1.heap.size then lab1 k else uT) yb (yd0 n0 d r)) := H1.out.1.below (B2.out.trans (B3.out.mono B2.out.size)) (fun _ hk => if_pos hk)
  have I3 : Hid (IsBytes w3 (some ⟨xb, 0, none⟩) 1 [120]) := by
    rw [hw3, hxb]
    refine ⟨by decide, by decide, .inr ⟨w2.heap.size, 0, rfl, by simp, fun j x hj => ?_⟩⟩
    match j, hj with
    | 0, hj =>
      obtain rfl : (120 : UInt8) = x := by simpa using hj
      rw [Nat.zero_add]
      unfold World.cell?
      rw [heap_alloc_new]
      rfl
  rw [← hlab2] at A3
  have CA : Hid (Calls Try.prog 23 #[ptrV yb, .agg #[.int .i64 7, .int .i64 3, .int .i64 0, .int .i64 1, .int .i64 0, .int .i64 1, .int .i64 0, .int .i64 0, .int .i64 (-1), .int .i64 0, .int .i64 0, .int .i64 0, .int .i64 0, .int .i64 0, .string ⟨#[97]⟩, .slice (some ⟨xb, 0, none⟩) 1 1]] w3 fun e w' => e = .returned (.int .i64 0) ∧ ∃ bv lab' Y, YAt w' lab' yb Y ∧ (∃ t0 t1, Y.L = [⟨jS, bv, [120], t0, t1⟩]) ∧ Y.sm = ⟨1, 0, 0, 0, 1⟩ ∧ fstOf Y 0 ⟨#[97]⟩ = 7 ∧ (∃ b, Y.tb ⟨#[97]⟩ = some b) ∧ Below n0 w3 w') := by
    refine (add_any jS (some ⟨xb, 0, none⟩) 1 [120] w3 lab2 yb (yd0 n0 d r) 0 A3.out jS_ok I3.out (by decide) (by decide) (few0 n0 d r H1.out.2.1 H1.out.2.2.1 H1.out.2.2.2.1 H1.out.2.2.2.2.1) (by decide)).mono ?_
    rintro e w' ⟨rfl, h0, _⟩
    obtain ⟨bv, w5, lab5, a5, bd5, l5, k5, ld⟩ := h0 rfl
    obtain ⟨lab', Y, p1, p2, p3, p4, p5⟩ := laid_one ld
    refine ⟨rfl, bv, lab', Y, p1, p2, p3, p4, p5, ?_⟩
    obtain ⟨_, _, _, _, _, _, _, _, _, l6, k6⟩ := ld
    have s1 := H1.out.2.2.2.2.2.2.size
    have s2 := B2.out.size
    have s3 := B3.out.size
    have hn := HN0.out
    refine (k5.below (B := n0) (by omega) (fun _ _ h => h)).trans (k6.below (B := n0) (by have := k5.size; omega) (fun k hk h => ?_))
    have h : (lab5 k).1 ≤ 7 := h
    rw [l5 k (by omega), hlab2] at h
    simp only [] at h
    rw [if_pos (by omega), H1.out.2.2.2.2.2.1 k hk] at h
    exact absurd h (by decide)
  have HW3 : Hid (w2.alloc (.cells #[.int .u8 120] 5 (1, 2)) = w3 ∧ w2.heap.size = xb) := ⟨hw3.symm, hxb.symm⟩
  have BA : Hid (Below n0 w w3) := by
    have s1 := H1.out.2.2.2.2.2.2.size
    have s2 := B2.out.size
    have hn := HN0.out
    exact (H1.out.2.2.2.2.2.2.trans (B2.out.mono (by omega))).trans (B3.out.mono (by omega))
  clear hw3 hxb hlab2 A3 I3 B3 B2 H1
  have hcn : (convert 36 36 (.slice (some ⟨w2.heap.size, 0, none⟩) 1 1)).run Try.prog (w2.alloc (.cells #[.int .u8 120] 5)) = .ok (.slice (some ⟨w2.heap.size, 0, none⟩) 1 1) (w2.alloc (.cells #[.int .u8 120] 5 (1, 2))) := conv_new w2 _ 1 1
  go_upto_region 5 with (first
    | (go_at_call 23; rw [HW3.out.1, HW3.out.2]; refine CA.out.mono ?_; rintro e w4 ⟨rfl, bv4, lab4, Y, a4, hL, hsm, hfs, htb, b4⟩; have H4 : Hid (YAt w4 lab4 yb Y ∧ (∃ t0 t1, Y.L = [⟨jS, bv4, [120], t0, t1⟩]) ∧ Y.sm = ⟨1, 0, 0, 0, 1⟩ ∧ fstOf Y 0 ⟨#[97]⟩ = 7 ∧ (∃ b, Y.tb ⟨#[97]⟩ = some b) ∧ Below n0 w3 w4) := ⟨a4, hL, hsm, hfs, htb, b4⟩; clear a4 hL hsm hfs htb b4))
  have AB : Hid (∀ W, Below w4.heap.size w4 W → YAt W lab4 yb Y) := fun W hW => H4.out.1.below hW (fun _ _ => rfl)
  have CG : Hid (Calls Try.prog 20 #[ptrV yb, .int .i64 7] w4 fun x w' => ∃ a v c, v = .slice a 1 c ∧ x = .returned (.tuple #[.agg (jS.cells v), .bool true]) ∧ IsBytes w' a c [120] ∧ Below w4.heap.size w4 w') := by
    obtain ⟨t0, t1, hL⟩ := H4.out.2.1
    have := get_any 7 w4 lab4 yb Y H4.out.1 (by decide) (by rw [hL]; show (1 : Nat) ≤ 140737488355328; omega)
    rw [hL] at this
    refine this.mono ?_
    rintro x w' ⟨v, rfl, ho, hb⟩
    obtain ⟨a, c, e, hI⟩ := Own.shape (l := [120]) ho
    exact ⟨a, v, c, e, rfl, hI, hb⟩
  go_upto_region 6 with (first
    | (go_at_call 20; refine CG.out.mono ?_; rintro x w5 ⟨a5, v5, c5, e5, rfl, i5, b5⟩; have H5 : Hid (v5 = .slice a5 1 c5 ∧ IsBytes w5 a5 c5 [120] ∧ Below w4.heap.size w4 w5) := ⟨e5, i5, b5⟩; have JO : Hid ((jS.cells v5).all (·.oneCell') = true) := (by rw [e5]; exact job_one _ _ _ _); clear e5 i5 b5)
    | (refine wpList_store_new rfl 38 (.tmp 3) (.tmp 21) rfl (jS.cells v5) rfl rfl 38 _ (job_size jS v5) rfl JO.out ?_))
  obtain ⟨jb, hjb⟩ : ∃ jb, jb = w5.heap.size := ⟨_, rfl⟩
  obtain ⟨w6, hw6⟩ : ∃ w6, w6 = w5.alloc (.cells (jS.cells v5) 38) := ⟨_, rfl⟩
  have B6 : Hid (Below w4.heap.size w4 w6) := by rw [hw6]; exact H5.out.2.2.trans (Below.mono ((Below.refl _ w5).alloc (Nat.le_refl _) _) H5.out.2.2.size)
  have J6 : JobBox w6 jb jS v5 := by rw [hw6, hjb]; exact JobBox.new w5 jS v5
  have q15 := J6.at.2.2.2.2
  have jlt := J6.lt
  have hcv : (convert 36 9 v5).run Try.prog w6 = .ok (.string ⟨#[120]⟩) w6 := by
    rw [H5.out.1]
    exact conv_is (l := [120]) (H5.out.2.1.below (by rw [hw6]; exact (Below.refl _ w5).alloc (Nat.le_refl _) _)) rfl
  rw [← hw6, ← hjb]
  clear hw6 hjb J6
  have CR : Hid (Calls Try.prog 24 #[ptrV yb, .string ⟨#[97]⟩] w6 fun x w' => x = .returned (.int .i64 7) ∧ Below w6.heap.size w6 w') := by
    have := ready_any ⟨#[97]⟩ w6 lab4 yb Y (AB.out _ B6.out) (by decide) (fun h => by obtain ⟨b, hb⟩ := H4.out.2.2.2.2.1; rw [hb] at h; cases h)
    rw [H4.out.2.2.2.1] at this
    exact this
  have CL : Hid (∀ W, Below w4.heap.size w4 W → Calls Try.prog 14 #[ptrV yb] W fun x w' => x = .returned (.agg #[.int .i64 1, .int .i64 0, .int .i64 0, .int .i64 0, .int .i64 1]) ∧ Below W.heap.size W w') := fun W hW => by
    have := all_any W lab4 yb Y (AB.out _ hW)
    rw [H4.out.2.2.1] at this
    exact this
  have CJ : Hid (∀ W, Below w4.heap.size w4 W → Calls Try.prog 11 #[ptrV yb] W fun x w' => (∃ a c, x = .returned (.slice a 1 c)) ∧ Below W.heap.size W w') := fun W hW => by
    obtain ⟨t0, t1, hL⟩ := H4.out.2.1
    refine (jobs_any W lab4 yb Y (AB.out _ hW) (by rw [hL]; simp) (fun e he => by rw [hL] at he; obtain rfl := List.mem_singleton.1 he; exact ⟨show I64 7 by decide, show (1 : Nat) ≤ 140737488355328 by omega⟩) (by rw [hL]; show (1 : Nat) ≤ 100000000; omega)).mono ?_
    rintro x w' ⟨v, rfl, P, ho, hP, hb, _⟩
    have hl : P.length = 1 := by have := congrArg List.length hP; rw [hL] at this; simpa using this
    rcases ho.2 with ⟨_, h0⟩ | ⟨g, cap, cur, rfl, _⟩
    · omega
    · exact ⟨⟨_, cap, by rw [hl]⟩, hb⟩
  have hfd := field_sums
  go_wp2_with (first
    | (go_at_call 24; refine CR.out.mono ?_; rintro x w7 ⟨rfl, b7⟩; have B7 : Hid (Below w4.heap.size w4 w7) := B6.out.trans (b7.mono B6.out.size); clear b7)
    | (go_at_call 14; refine (CL.out _ B7.out).mono ?_; rintro x w8 ⟨rfl, b8⟩; have B8 : Hid (Below w4.heap.size w4 w8) := B7.out.trans (b8.mono B7.out.size); clear b8)
    | (go_at_call 11; refine (CJ.out _ B8.out).mono ?_; rintro x w9 ⟨⟨a9, c9, rfl⟩, b9⟩; have B9 : Hid (Below w4.heap.size w4 w9) := B8.out.trans (b9.mono B8.out.size); clear b9))
  go_ret
  refine ⟨rfl, (BA.out.trans H4.out.2.2.2.2.2).trans (B9.out.mono ?_)⟩
  have := BA.out.size
  have := H4.out.2.2.2.2.2.size
  have := HN0.out
  omega
end Go.Proofs.Ytjkgclogndbplaa
