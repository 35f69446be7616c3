/-
  The writer's head.
-/
import Derived.Test.YteecmbpabkndlaaDoorWSL
import Derived.Test.YteecmbpabkndlaaDoorConf
namespace Go.Proofs.YteecmbpabkndlaaDoor
open Go.RowKit

theorem head_len {j s q : Int} (h : configB j s q = true) : (printL j).length ≤ 19 ∧ (printL s).length ≤ 19 ∧ (printL q).length ≤ 19 := by
  obtain ⟨a, b, c⟩ := config_parts h
  exact ⟨itoa_short a.1 a.2, itoa_short b.1 b.2, itoa_short c.1 c.2⟩
/-- What head needs of one world and gives to the next. -/
structure HS (D W w : World) (B tb cb : Nat) (t : Tx) (j s q : Int) : Prop where
  wt : WtAt w B tb t
  conf : w.heap[cb]? = some (.cells #[.int .i64 j, .int .i64 s, .int .i64 q] 28 (0, 0))
  kept : Kept (Wr B tb W) W w
  tabs : Tabs w
  six : 6 ≤ B
theorem HS.bsz {D W w : World} {B tb cb : Nat} {t : Tx} {j s q : Int} (h : HS D W w B tb cb t j s q) : B ≤ w.heap.size := by
  obtain ⟨v, h1, _, h3⟩ := h.wt
  have := (Array.getElem?_eq_some_iff.1 h1).1
  omega
theorem HS.call {D W w w' : World} {B tb cb : Nat} {t u : Tx} {j s q : Int} {e : Ending} (h : HS D W w B tb cb t j s q) (hp : AddPost w B tb t u e w') (hl : (t ++ u).length ≤ 1048576) : e = .returned (.tuple #[]) ∧ HS D W w' B tb cb (t ++ u) j s q := by
  obtain ⟨k1, h2⟩ := hp
  rcases h2 with ⟨_, he, hw⟩ | ⟨hx, _⟩
  · refine ⟨he, hw, (k1.block cb (Array.getElem?_eq_some_iff.1 h.conf).1 (fun hp => ?_)).trans h.conf, Wr.trans h.kept k1, h.tabs.keptB ((Wr.low k1 h.bsz).mono h.six), h.six⟩
    rcases hp.2 with e1 | ⟨cur, hc⟩
    · obtain ⟨v, h1, _⟩ := h.wt
      rw [← e1, h.conf] at h1
      simp at h1
    · rw [h.conf] at hc
      simp at hc
  · omega
theorem HS.cells {D W w : World} {B tb cb : Nat} {t : Tx} {j s q : Int} (h : HS D W w B tb cb t j s q) : w.cell? ⟨cb, 0, none⟩ = some (.int .i64 j) ∧ w.cell? ⟨cb, 1, none⟩ = some (.int .i64 s) ∧ w.cell? ⟨cb, 2, none⟩ = some (.int .i64 q) := by
  have := h.conf
  simp [World.cell?, this]
set_option maxHeartbeats 2000000 in
set_option maxRecDepth 1000000 in
theorem whead_any (W : World) (B tb : Nat) (j s q : Int) (T : Tabs W) (hw : WtAt W B tb []) (six : 6 ≤ B) (hc : configB j s q = true) :
    Calls Tryd.prog 35 #[.pointer (some ⟨tb, 0, none⟩), .agg #[.int .i64 j, .int .i64 s, .int .i64 q]] W fun e w' => e = .returned (.tuple #[]) ∧ Kept (Wr B tb W) W w' ∧ WtAt w' B tb (headS j s q) := by
  have b1 : Below W.heap.size W (W.alloc (.cells #[.int .i64 j, .int .i64 s, .int .i64 q] 28)) := (Below.refl _ W).alloc (Nat.le_refl _) _
  have h1 : HS W W (W.alloc (.cells #[.int .i64 j, .int .i64 s, .int .i64 q] 28)) B tb W.heap.size [] j s q := ⟨hw.later b1, heap_alloc_new W _, Kept.ofBelow b1, T.below b1, six⟩
  have hl := head_len hc
  have hp := config_parts hc
  have H1 := hide h1
  clear h1 b1 T hw
  go_enter Tryd.func35, Tryd.ntmps35
  go_wp2_with fail
  refine (add_any _ B tb [] ⟨#[115, 116, 105, 110, 116]⟩ H1.out.wt H1.out.bsz (by simp) (by decide)).mono ?_
  intro e w2 h2
  obtain ⟨rfl, h3⟩ := H1.out.call h2 (by decide)
  have H2 := hide h3
  obtain ⟨a0, a1, a2⟩ := h3.cells
  clear h2 h3
  go_wp2_with fail
  refine (number_anyW _ B tb _ j H2.out.tabs H2.out.wt H2.out.bsz (by decide) hp.1.1 hp.1.2).mono ?_
  intro e w3 h2
  obtain ⟨rfl, h3⟩ := H2.out.call h2 (by simp; omega)
  have H3 := hide h3
  clear a0 a1 a2
  obtain ⟨a0, a1, a2⟩ := h3.cells
  clear h2 h3
  go_wp2_with fail
  refine (number_anyW _ B tb _ s H3.out.tabs H3.out.wt H3.out.bsz (by simp; omega) hp.2.1.1 hp.2.1.2).mono ?_
  intro e w4 h2
  obtain ⟨rfl, h3⟩ := H3.out.call h2 (by simp; omega)
  have H4 := hide h3
  clear a0 a1 a2
  obtain ⟨a0, a1, a2⟩ := h3.cells
  clear h2 h3
  go_wp2_with fail
  refine (number_anyW _ B tb _ q H4.out.tabs H4.out.wt H4.out.bsz (by simp; omega) hp.2.2.1 hp.2.2.2).mono ?_
  intro e w5 h2
  obtain ⟨rfl, h3⟩ := H4.out.call h2 (by simp; omega)
  have H5 := hide h3
  clear a0 a1 a2
  clear h2 h3
  go_wp2_with fail
  refine (add_any _ B tb _ ⟨#[10]⟩ H5.out.wt H5.out.bsz (by simp; omega) (by decide)).mono ?_
  intro e w6 h2
  obtain ⟨rfl, h3⟩ := H5.out.call h2 (by simp; omega)
  have H6 := hide h3
  clear h2 h3
  go_wp2_with fail
  go_end0
  refine ⟨rfl, H6.out.kept, ?_⟩
  have := H6.out.wt
  simpa [headS, spaced, stintW] using this
end Go.Proofs.YteecmbpabkndlaaDoor
