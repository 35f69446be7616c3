/-
  The document's Whole.
-/
import Derived.Test.YtibcfbajjnpbfaaRefAll
namespace Go.Proofs.Ytibcfbajjnpbfaa
open Go.RowKit

def endFrom (p : Nat) (xs : List (Nat × List UInt8)) : Nat := xs.foldl (fun _ x => x.1 + 8 + x.2.length) p
theorem frames_place (f : Int) (l : List UInt8) : ∀ (k p j : Nat) x, (framesN f l k p)[j]? = some x → x.1 = endFrom p ((framesN f l k p).take j) := by
  intro k
  induction k with
  | zero => intro p j x h; simp [framesN] at h
  | succ k ih =>
    intro p j x h
    simp only [framesN] at h ⊢
    split at h
    · rename_i hE
      rw [if_pos hE]
      have ht := take_len hE
      have hl := pay_length ht.1
      cases j with
      | zero =>
        simp at h
        rw [← h]
        rfl
      | succ j =>
        rw [List.getElem?_cons_succ] at h
        have := ih _ j x h
        rw [this, List.take_succ_cons]
        show _ = endFrom (p + 8 + (takePay (List.drop p l)).length) _
        rw [hl, Nat.add_assoc]
    · simp at h
theorem frames_place0 {f : Int} {l : List UInt8} {j : Nat} {x : Nat × List UInt8} (h : (frames f l 0)[j]? = some x) : x.1 = endOf ((frames f l 0).take j) := frames_place f l _ 0 j x h

set_option maxHeartbeats 2000000 in
set_option maxRecDepth 1000000 in
theorem refWhole_any (f : Int) (a : Option Addr) (c : Nat) (l : List UInt8) (w : World) (hl : IsBytes w a c l) (hb : l.length ≤ 1048576) :
    Calls Try.prog 25 #[.int .i64 f, .slice a l.length c] w fun e w' => e = .returned (.int .i64 (endOf (frames f l 0) : Nat)) ∧ Below w.heap.size w w' := by
  have CA := hide (refAll_any f a c l w hl hb)
  clear hl
  go_enter Try.func25, Try.ntmps25
  go_wp2_with (go_at_call 23; refine CA.out.mono ?_; rintro e w1 ⟨v, ys, rfl, o1, hys, b1⟩; obtain ⟨av, cv, hv, hnc, hcm⟩ := rowG_shape o1.1; subst hv; have O1 := hide o1; have HYS := hide hys; have B1 := hide b1; clear o1 hys b1)
  have hyl : ys.length ≤ 1048576 := by
    have h1 := frames_len0 f l
    have h2 := congrArg List.length HYS.out
    rw [List.length_map] at h2
    omega
  go_loopw [6, 7] (fun v i wr => ∃ (j n : Nat), i = .int .i64 j ∧ j ≤ ys.length ∧ v = .int .i64 n ∧ Hid (n = endOf ((frames f l 0).take j)) ∧ Hid (OnesAt wr w.heap.size (.slice av ys.length cv) ys ∧ Below w.heap.size w wr)) (fun _ i _ => ys.length - (intOf i).toNat)
  case atStart => exact ⟨0, 0, rfl, Nat.zero_le _, rfl, (show 0 = endOf [] from rfl), ⟨O1.out, B1.out⟩⟩
  case round =>
    clear O1 B1
    obtain ⟨j, n, rfl, hj, rfl, HN, HW⟩ := hrel
    by_cases hlt : j < ys.length
    · have hji : (j : Int) < (ys.length : Int) := by omega
      obtain ⟨y, hy⟩ : ∃ y, ys[j]? = some y := ⟨_, List.getElem?_eq_getElem hlt⟩
      obtain ⟨g, c2, hv, hg, _, hc2, k0, k1⟩ := HW.out.1.cells hy
      simp only [Value.slice.injEq] at hv
      obtain ⟨rfl, _, rfl⟩ := hv
      have hyf : (frames f l 0)[j]? = some y.pr := by rw [← HYS.out, List.getElem?_map, hy]; rfl
      have hfit := frames_fit0 hyf
      have hpl := frames_place0 hyf
      obtain ⟨ay, cy, hay, _⟩ := (HW.out.1.2 y (List.mem_of_getElem? hy)).shape
      rw [hay] at k1
      obtain ⟨nb, hnb⟩ : ∃ nb, nb = y.2.2.length := ⟨_, rfl⟩
      have HN2 : Hid (n + 8 + nb = endOf ((frames f l 0).take (j + 1))) := by
        show _ = _
        rw [List.take_add_one, hyf, Option.toList_some, endOf_snoc, hpl, HN.out, hnb]
        rfl
      have hnl : n + 8 + nb ≤ 1048576 := by
        have : y.pr.1 = n := by rw [hpl, HN.out]
        simp only [Given.pr] at this hfit
        omega
      rw [← hnb] at k1
      clear hyf hfit hpl hay hnb hy k0
      go_wp2_with fail
      go_roundw
      case rel => exact ⟨j + 1, n + 8 + nb, by go_num, by omega, by go_num, HN2, HW⟩
      case measure => simp [intOf]; omega
    · have hji : ¬ (j : Int) < (ys.length : Int) := by omega
      have HJ : Hid (j = ys.length) := (by omega : j = ys.length)
      go_wp2_with fail
      go_ret
      refine ⟨?_, HW.out.2⟩
      have h2 := congrArg List.length HYS.out
      rw [List.length_map] at h2
      have h3 := HN.out
      rw [List.take_of_length_le (by have := HJ.out; omega)] at h3
      rw [h3]
      rfl
end Go.Proofs.Ytibcfbajjnpbfaa
