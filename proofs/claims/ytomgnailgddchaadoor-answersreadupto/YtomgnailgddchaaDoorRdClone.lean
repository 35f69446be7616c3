/-
  The walk of the program's Clone.
-/
import Derived.Test.YtomgnailgddchaaDoorFeedA
import Derived.Laws.Rows
namespace Go.Proofs.YtomgnailgddchaaDoor
open Go.RowKit Go.Sort

set_option maxHeartbeats 4000000 in
set_option maxRecDepth 1000000 in
theorem clone_rd (w : World) (rb : Nat) (v : Value) (A : List UInt8) (g : Nat) (h : RdAt w rb v A g) (hA : A.length ≤ 4294967296) :
    Calls Tryd.prog 10 #[.pointer (some ⟨rb, 0, none⟩)] w fun x w' => x = .returned (.pointer (some ⟨w.heap.size, 0, none⟩)) ∧ Below w.heap.size w w' ∧ ∃ v', RdAt w' w.heap.size v' A g ∧ ∀ k, Mine w.heap.size v' k → w.heap.size ≤ k := by
  obtain ⟨s, hbox, ho, hinv, hwl, hll, hcl, h5⟩ := h
  have hgw : s.gone ≤ s.whole := by have := hinv.whole; omega
  have hf := hinv.fits
  have h5r := h5 rb (.inl rfl)
  have hlt := hbox.lt
  obtain ⟨av, cv, rfl, _, _⟩ := ho.slice
  have HBX := hide hbox
  have HK := hide hinv.keep
  have B1 : Hid (∀ o, Below w.heap.size w (w.alloc o)) := fun o => (Below.refl _ w).alloc (Nat.le_refl _) o
  have HCK : Hid (Calls Tryd.prog 27 #[.pointer (some ⟨w.heap.size, 0, none⟩), .int .i64 (s.came.length : Int)] (w.alloc (.cells #[.slice av s.came.length cv, .int .i64 (s.gone : Int), .int .i64 (s.whole : Int), .int .i64 (s.look : Int), .int .i64 (s.spoilt : Int)] 51)) fun x w' => x = .returned (.tuple #[]) ∧ ∃ v', RdBox w' w.heap.size v' 0 (s.whole - s.gone) (s.look - s.gone) s.spoilt ∧ Own w' (w.heap.size + 1) v' ((s.came.drop s.gone).take (s.came.length - s.gone)) ∧ Below w.heap.size w w') := by
    refine (keep_any _ w.heap.size (.slice av s.came.length cv) s.came s.gone s.whole s.look s.spoilt s.came.length (heap_alloc_new w _) (ho.alloc _) (by omega) (Nat.le_refl _) hgw (by omega) (by omega) (by omega) (by omega)).mono ?_
    rintro x w' ⟨rfl, v', q1, q2, q3⟩
    refine ⟨rfl, v', q1, ?_, (B1.out _).trans (q3.below (by simp) (fun k hk e => ?_))⟩
    · rw [World.size_alloc] at q2
      exact q2
    · omega
  have hcl2 : s.came.length ≤ 4294967296 := by omega
  clear hbox ho hinv
  go_enter Tryd.func10, Tryd.ntmps10
  go_wp2_with (first
    | (refine wpList_load_row rfl 51 (.tmp 5) rfl rb rfl 51 #[.slice av s.came.length cv, .int .i64 (s.gone : Int), .int .i64 (s.whole : Int), .int .i64 (s.look : Int), .int .i64 (s.spoilt : Int)] (0, 0) _ HBX.out Tryd.underlying51 rfl (by kernel_rfl) ?_)
    | (go_at_call 27; refine HCK.out.mono ?_; rintro x w3 ⟨rfl, v', q1, q2, q3⟩; have Q1 := hide q1; have Q2 := hide q2; have Q3 := hide q3; clear q1 q2 q3))
  go_ret
  refine ⟨rfl, Q3.out, v', ⟨_, Q1.out, ⟨Q2.out.1, ?_⟩, HK.out, by show s.whole - s.gone ≤ s.look - s.gone; omega, by show s.look - s.gone ≤ _; omega, ?_, ?_⟩, ?_⟩
  · rcases Q2.out.2 with h0 | ⟨q, cap, cur, hv, hb, rest⟩
    · exact .inl h0
    · exact .inr ⟨q, cap, cur, hv, Nat.zero_le _, rest⟩
  · show ((s.came.drop s.gone).take (s.came.length - s.gone)).length ≤ _
    rw [List.length_take, List.length_drop]; omega
  · rintro k (rfl | hk)
    · omega
    · have := (Q2.out.old k hk).1
      omega
  · rintro k (rfl | hk)
    · exact Nat.le_refl _
    · have := (Q2.out.old k hk).1
      omega
end Go.Proofs.YtomgnailgddchaaDoor
