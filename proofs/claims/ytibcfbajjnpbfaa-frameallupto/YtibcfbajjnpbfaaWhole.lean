/-
  The walk of Whole.
-/
import Derived.Test.YtibcfbajjnpbfaaAll
namespace Go.Proofs.Ytibcfbajjnpbfaa
open Go.RowKit

/-- Where the last of some frames ends. -/
def endOf (xs : List (Nat × List UInt8)) : Nat := xs.foldl (fun _ x => x.1 + 8 + x.2.length) 0
theorem endOf_snoc (xs : List (Nat × List UInt8)) (x : Nat × List UInt8) : endOf (xs ++ [x]) = x.1 + 8 + x.2.length := by simp [endOf]

theorem frames_fit (f : Int) (l : List UInt8) : ∀ (k p : Nat) x, x ∈ framesN f l k p → x.1 + 8 + x.2.length ≤ l.length := by
  intro k
  induction k with
  | zero => intro p x h; simp [framesN] at h
  | succ k ih =>
    intro p x h
    simp only [framesN] at h
    split at h
    · rename_i hE
      have ht := take_len hE
      have hl := pay_length ht.1
      simp at ht
      rcases List.mem_cons.1 h with rfl | h
      · simp only [hl]; omega
      · exact ih _ x h
    · simp at h
theorem frames_fit0 {f : Int} {l : List UInt8} {k : Nat} {x : Nat × List UInt8} (h : (frames f l 0)[k]? = some x) : x.1 + 8 + x.2.length ≤ l.length := frames_fit f l _ 0 x (List.mem_of_getElem? h)

attribute [local go_sem] Oper.semAt_some
set_option maxHeartbeats 1000000 in
set_option maxRecDepth 1000000 in
theorem whole_any (f : Int) (a : Option Addr) (c : Nat) (l : List UInt8) (w : World) (hl : IsBytes w a c l) (hb : l.length ≤ 140737488355328) (hc0 : a = none → c = 0) :
    Calls Try.prog 24 #[.int .i64 f, .slice a l.length c] w fun e w' => e = .returned (.int .i64 (endOf (frames f l 0) : Nat)) ∧ Below w.heap.size w w' := by
  have HL : Hid (IsBytes w a c l) := hl
  clear hl
  refine (callsIn_wide (n := 3)).1 ?_
  refine callsIn_of_wp_marks Try.func24 rfl trivial ?_ rfl
  simp only [Try.ntmps24, List.size_toArray, List.length_cons, List.length_nil, Nat.reduceAdd, Nat.reduceSub, Array.replicate_succ, Array.replicate_zero, List.push_toArray, List.append_toArray, List.nil_append, List.cons_append]
  have hb0 : Below w.heap.size w (w.alloc (.cells #[.int .i64 0] 3)) := (Below.refl _ w).alloc (Nat.le_refl _) _
  have ALL : Hid (Calls Try.prog 40 #[.int .i64 f, .slice a l.length c] (w.alloc (.cells #[.int .i64 0] 3)) fun e w' => ∃ Bf Bk, e = .returned (seqOf Bf Bk) ∧ AllAt w' (w.heap.size + 1) Bf Bk f l ∧ Below (w.heap.size + 1) (w.alloc (.cells #[.int .i64 0] 3)) w') := by
    have := all_any f a c l _ (HL.out.below hb0) hb hc0
    rw [World.size_alloc] at this
    exact this
  gi_wp2_with (refine ⟨trivial, ?_⟩; gi_at_call 40; refine (callsIn_wide.2 ALL.out).mono ?_; rintro e w1 ⟨Bf, Bk, rfl, at1, B1⟩)
  have hz1 := B1.size
  rw [World.size_alloc] at hz1
  have hB1 : Below w.heap.size w w1 := hb0.trans (B1.mono (by omega))
  have hbx1 : Boxed w1 w.heap.size 3 (.int .i64 0) := (B1.block w.heap.size (by omega)).trans (Boxed.new w 3 (.int .i64 0))
  refine wpIn_told rfl (by omega) (gf := 41) (lb := #[.pointer (some ⟨Bf, 0, none⟩), .pointer (some ⟨Bk, 0, none⟩)]) rfl trivial (enters_of Try.func41 (by kernel_rfl) rfl)
    (all1_told 2 (w.heap.size + 1) Bf Bk f l w1 at1 hb) (fun h k => h.trans k) (midK_b (Nat.le_refl _)) (Below.refl _ _) (fun _ => rfl)
    (fun pre W => Boxed W w.heap.size 3 (.int .i64 (endOf (pre.map Given.pr) : Nat)) ∧ Below w.heap.size w W)
    (fun _ _ _ => False)
    (OwnFrom.and (Own.from (boxed_own _ _ _) _) (ownFrom_below (by omega) (by omega)))
    (fun _ _ _ _ _ hs _ _ => hs)
    (toldAll_own f l _)
    ⟨hbx1, hB1⟩
    (fun x => { tmps := #[.int .i64 f, .slice a l.length c, undef, undef, .int .i64 0, .pointer (some ⟨w.heap.size, 0, none⟩), .int .i64 (x.1 : Int), x.2.1, .int .i64 f, .slice a l.length c, seqOf Bf Bk, .int .i64 (x.1 : Int), x.2.1, undef, undef, undef, undef, undef, undef], defers := [] }) ?assign ?body ?done ?stop
  case assign =>
    intro l x W K hK
    gi_wp2
    exact hK
  case body =>
    rintro id pre ⟨p, v, b⟩ A W hid _ _ hgr _ ⟨hbx, hB⟩ ⟨hfr, hown⟩ _
    obtain ⟨a', c', hv, is'⟩ := hown.shape
    dsimp only at hv
    subst hv
    have hfit := frames_fit0 hfr
    simp only [Given.pr] at hfit
    have hc := hbx.cell
    have hf := hbx.frozen
    have HB : Hid (Below w.heap.size w W) := hB
    clear hfr hown is' hgr hB
    gi_wp2
    refine ⟨(KeepsOthers.setCell _ _ _).from _, (Mid.refl _ _ W).set (p := ⟨w.heap.size, 0, none⟩) (.inl (Nat.lt_succ_self _)) _, ?_, HB.out.setCell (Nat.le_refl _) _⟩
    rw [List.map_append, List.map_singleton, endOf_snoc]
    simp only [Given.pr]
    rw [show ((p + 8 + b.length : Nat) : Int) = (p : Int) + 8 + b.length by omega]
    exact hbx.set _
  case done =>
    rintro D xs W hD hS ⟨hbx, hB⟩ hK
    have hc := hbx.cell
    have HB : Hid (Below w.heap.size w W) := hB
    clear hB
    gi_wp2
    refine ⟨by simp, .inl ⟨_, _, rfl, run_takeDeferred hK, ?_⟩⟩
    refine ⟨_, results_tmp rfl _ _ _, rfl, ?_⟩
    exact HB.out.trans (belowK_b (w := w) (Nat.le_refl _) W D _ _ (by omega) hK rfl rfl)
  case stop =>
    rintro D c pre W _ _ h _
    exact h.elim
end Go.Proofs.Ytibcfbajjnpbfaa
