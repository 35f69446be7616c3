/-
  SmallKit, SmallCM.
-/
import Derived.Test.YtonfdmbcbfpgdaaHeapy
import Derived.Test.YtonfdmbcbfpgdaaRiseM
import Derived.Laws.ResultCell
import Derived.BigRegion
namespace Go.Proofs.Ytonfdmbcbfpgdaa
open Go.RowKit
theorem below_drewN (w : World) (n : Nat) : Below w.heap.size w (w.drewN n) := ⟨rfl, rfl, rfl, Nat.le_refl _, fun _ _ => rfl⟩
theorem Sits.find {α : Type} {g : Int → Option Int} {R : List (Int × α)} (h : Sits g R) (t : Int) : (g t = none ∧ R.find? (fun r => r.1 = t) = none) ∨ ∃ (i : Nat) (r : Int × α), g t = some (i : Int) ∧ R[i]? = some r ∧ r.1 = t ∧ R.find? (fun r => r.1 = t) = some r := by
  cases hg : g t with
  | none =>
    refine .inl ⟨rfl, List.find?_eq_none.2 fun r hr e => ?_⟩
    obtain ⟨i, hi⟩ := List.mem_iff_getElem?.1 hr
    have := h.1 i r hi
    rw [of_decide_eq_true e, hg] at this
    cases this
  | some v =>
    obtain ⟨i, r, rfl, hi, hr⟩ := h.2 t v hg
    refine .inr ⟨i, r, rfl, hi, hr, ?_⟩
    cases hf : R.find? (fun r => r.1 = t) with
    | none =>
      have := List.find?_eq_none.1 hf r (List.mem_of_getElem? hi)
      simp [hr] at this
    | some r' =>
      have h1 := List.find?_some hf
      obtain ⟨j, hj⟩ := List.mem_iff_getElem?.1 (List.mem_of_find?_eq_some hf)
      have : j = i := h.inj hj hi (by rw [hr]; simpa using h1)
      subst this
      rw [hi] at hj
      exact hj.symm

end Go.Proofs.Ytonfdmbcbfpgdaa

namespace Go.Proofs.Ytonfdmbcbfpgdaa
open Go.RowKit

theorem not_nil_inM (w : World) (d : Nat) (f : FuncId) (rk : Int) : (Op.equalIn (d + 1) 82 (.func (.func f) #[.int .i64 rk] #[]) .nilFunc).run Try.prog w = .ok false w := by
  simp [Op.equalIn, run_underlying Try.underlying82]
theorem not_nilM (w : World) (f : FuncId) (rk : Int) : (binOp .eql 82 (.func (.func f) #[.int .i64 rk] #[]) .nilFunc).run Try.prog w = .ok (.bool false) w := by
  simp only [binOp]
  simp [show Op.equal 82 (.func (.func f) #[.int .i64 rk] #[]) .nilFunc = Op.equalIn (9999 + 1) 82 (.func (.func f) #[.int .i64 rk] #[]) .nilFunc from rfl, not_nil_inM w 9999 f rk]

set_option maxHeartbeats 2000000 in
set_option maxRecDepth 1000000 in
theorem newM (w : World) (f : FuncId) (rk : Int) :
    Calls Try.prog 31 #[.func (.func f) #[.int .i64 rk] #[]] w fun e w' => ∃ hb mb, e = .returned (.pointer (some ⟨hb, 0, none⟩)) ∧ HeapAtM w' hb (.slice none 0 0) mb f rk 0 [] ∧ Below w.heap.size w w' ∧ w.heap.size ≤ hb ∧ w.heap.size ≤ mb := by
  have hmm := @run_makeMap Try.prog
  have hnn := fun w => not_nilM w f rk
  go_enter Try.func31, Try.ntmps31
  go_wp2_with fail
  go_ret
  refine ⟨w.heap.size + 1, w.heap.size, rfl, ⟨?_, World.ownsRow_nil _ _ _ _, ⟨_, (Tab.made w).block ?_, ?_⟩, ?_⟩, ((Below.refl _ w).alloc (Nat.le_refl _) _).alloc (by simp) _, by omega, Nat.le_refl _⟩
  · have := heap_alloc_new (w.alloc (.map #[] 0)) (.cells #[.func (.func f) #[.int .i64 rk] #[], .slice none 0 0, .map (some w.heap.size), .int .i64 0] 102)
    rwa [World.size_alloc] at this
  · exact heap_alloc_old (w.alloc (.map #[] 0)) _ (by simp)
  · exact ⟨fun i r h => by simp at h, fun t v h => by cases h⟩
  · intro r hr; simp at hr

set_option maxHeartbeats 2000000 in
set_option maxRecDepth 1000000 in
theorem lenM (w : World) (hb mb : Nat) (v : Value) (f : FuncId) (rk : Int) (last : Int) (R : List (Int × Mk)) (h : HeapAtM w hb v mb f rk last R) :
    Calls Try.prog 28 #[.pointer (some ⟨hb, 0, none⟩)] w fun e w' => e = .returned (.int .i64 (R.length : Int)) ∧ w' = w := by
  obtain ⟨av, cv, rfl⟩ : ∃ a c, v = .slice a R.length c := by
    rcases h.row.2 with ⟨rfl, h0⟩ | ⟨rb, cap, cur, rfl, _⟩
    · exact ⟨none, 0, by rw [h0]⟩
    · exact ⟨_, _, rfl⟩
  have k1 : w.cell? ⟨hb, 1, none⟩ = some (.slice av R.length cv) := by simp [World.cell?, h.box]
  clear h
  go_enter Try.func28, Try.ntmps28
  go_wp2_with fail
  go_ret
  exact ⟨rfl, rfl⟩

/-- What Top tells. -/
def topOfM (R : List (Int × Mk)) : Value := match R[0]? with | some r => .tuple #[.int .i64 r.1, valM r.2, .bool true] | none => .tuple #[.int .i64 0, .agg #[.int .i64 0, .int .i64 0, .int .i64 0, .int .i64 0], .bool false]
/-- What Get tells. -/
def getOfM (R : List (Int × Mk)) (t : Int) : Value := match R.find? (fun r => r.1 = t) with | some r => .tuple #[valM r.2, .bool true] | none => .tuple #[.agg #[.int .i64 0, .int .i64 0, .int .i64 0, .int .i64 0], .bool false]

set_option maxHeartbeats 2000000 in
set_option maxRecDepth 1000000 in
theorem getM (w : World) (hb mb : Nat) (v : Value) (f : FuncId) (rk : Int) (last : Int) (R : List (Int × Mk)) (t : Int) (h : HeapAtM w hb v mb f rk last R) (ht : (Lit.int .i64 t).wf = true) :
    Calls Try.prog 30 #[.pointer (some ⟨hb, 0, none⟩), .int .i64 t] w fun e w' => e = .returned (getOfM R t) ∧ Below w.heap.size w w' := by
  obtain ⟨g, htab, hs⟩ := h.tab
  have k2 : w.cell? ⟨hb, 2, none⟩ = some (.map (some mb)) := by simp [World.cell?, h.box]
  have hlt := cell_lt k2
  simp only [] at hlt
  have HT : Hid (Tab w mb R.length g) := htab
  rcases hs.find t with ⟨h1, h2⟩ | ⟨i, r, h1, h2, h3, h4⟩
  · clear h
    have HG : Hid (g t = none ∧ R.find? (fun r => r.1 = t) = none) := ⟨h1, h2⟩
    clear h1 h2 hs htab
    go_enter Try.func30, Try.ntmps30
    go_wp2_with (at_lookup; refine wpList_look rfl _ _ rfl mb R.length g t rfl rfl (HT.out.block (heap_alloc_old w _ HT.out.lt)) ht ?_; rw [HG.out.1]; simp only [Option.isSome_none, Option.getD_none])
    (try simp only [Exit.inBlock, Exit.then])
    refine bodyPost_ret (v := .tuple #[.agg #[.int .i64 0, .int .i64 0, .int .i64 0, .int .i64 0], .bool false]) ?_ rfl ?_
    · rw [results_cell_tmp rfl]
      go_simp
    · exact ⟨by unfold getOfM; rw [HG.out.2], ((Below.refl _ w).alloc (Nat.le_refl _) _).alloc (by simp) _⟩
  · obtain ⟨rb, cap, cur, rfl, hg, _, _, _, hcur⟩ := h.shape h2
    have k1 : w.cell? ⟨hb, 1, none⟩ = some (.slice (some ⟨rb, 0, none⟩) R.length cap) := by simp [World.cell?, h.box]
    have ca := row_cellM hg hcur h2
    have hrl : rb < w.heap.size := (Array.getElem?_eq_some_iff.1 hg).1
    obtain ⟨a1, a2⟩ := r
    have ca1 := ca 1 _ rfl
    have ca2 := ca 2 _ rfl; have ca3 := ca 3 _ rfl; have ca4 := ca 4 _ rfl
    have il : (i : Int) < (R.length : Int) := by have := (List.getElem?_eq_some_iff.1 h2).1; omega
    have HG : Hid (g t = some (i : Int) ∧ R.find? (fun r => r.1 = t) = some (a1, a2)) := ⟨h1, h4⟩
    clear h ca hg hcur h1 h2 h3 h4 hs htab
    go_enter Try.func30, Try.ntmps30
    go_wp2_with (at_lookup; refine wpList_look rfl _ _ rfl mb R.length g t rfl rfl (HT.out.block (heap_alloc_old w _ HT.out.lt)) ht ?_; rw [HG.out.1]; simp only [Option.isSome_some, Option.getD_some])
    (try simp only [Exit.inBlock, Exit.then])
    refine bodyPost_ret (v := .tuple #[valM a2, .bool true]) ?_ rfl ?_
    · rw [results_cell_tmp rfl]
      unfold valM
      go_simp
    · exact ⟨by unfold getOfM; rw [HG.out.2], (Below.refl _ w).alloc (Nat.le_refl _) _⟩
end Go.Proofs.Ytonfdmbcbfpgdaa
