/-
  The walks of New, Len, Top, Get.
-/
import Derived.Test.YtkjjinccnaphpaaRiseT
import Derived.Test.YtkjjinccnaphpaaSmallKit
import Derived.Laws.ResultCell
import Derived.BigRegion
namespace Go.Proofs.Ytkjjinccnaphpaa
open Go.RowKit

theorem not_nil_inT (w : World) (d : Nat) (f : FuncId) (caps : Array Value) : (Op.equalIn (d + 1) 48 (.func (.func f) #[] caps) .nilFunc).run Try.prog w = .ok false w := by
  simp [Op.equalIn, run_underlying Try.underlying48]
theorem not_nilT (w : World) (f : FuncId) (caps : Array Value) : (binOp .eql 48 (.func (.func f) #[] caps) .nilFunc).run Try.prog w = .ok (.bool false) w := by
  simp only [binOp]
  simp [show Op.equal 48 (.func (.func f) #[] caps) .nilFunc = Op.equalIn (9999 + 1) 48 (.func (.func f) #[] caps) .nilFunc from rfl, not_nil_inT w 9999 f caps]

set_option maxHeartbeats 2000000 in
set_option maxRecDepth 1000000 in
theorem newT (w : World) (f : FuncId) (caps : Array Value) :
    Calls Try.prog 5 #[.func (.func f) #[] caps] w fun e w' => ∃ hb mb, e = .returned (.pointer (some ⟨hb, 0, none⟩)) ∧ HeapAtT w' hb (.slice none 0 0) mb f caps 0 [] ∧ Below w.heap.size w w' ∧ w.heap.size ≤ hb ∧ w.heap.size ≤ mb := by
  have hmm := @run_makeMap Try.prog
  have hnn := fun w => not_nilT w f caps
  go_enter Try.func5, Try.ntmps5
  go_wp2_with fail
  go_ret
  refine ⟨w.heap.size + 1, w.heap.size, rfl, ⟨?_, World.ownsRow_nil _ _ _ _, ⟨_, (Tab.made w).block ?_, ?_⟩, ?_⟩, ((Below.refl _ w).alloc (Nat.le_refl _) _).alloc (by simp) _, by omega, Nat.le_refl _⟩
  · have := heap_alloc_new (w.alloc (.map #[] 0)) (.cells #[.func (.func f) #[] caps, .slice none 0 0, .map (some w.heap.size), .int .i64 0] 52)
    rwa [World.size_alloc] at this
  · exact heap_alloc_old (w.alloc (.map #[] 0)) _ (by simp)
  · exact ⟨fun i r h => by simp at h, fun t v h => by cases h⟩
  · intro r hr; simp at hr

set_option maxHeartbeats 2000000 in
set_option maxRecDepth 1000000 in
theorem lenT (w : World) (hb mb : Nat) (v : Value) (f : FuncId) (caps : Array Value) (last : Int) (R : List (Int × Int × Int)) (h : HeapAtT w hb v mb f caps last R) :
    Calls Try.prog 15 #[.pointer (some ⟨hb, 0, none⟩)] w fun e w' => e = .returned (.int .i64 (R.length : Int)) ∧ w' = w := by
  obtain ⟨av, cv, rfl⟩ : ∃ a c, v = .slice a R.length c := by
    rcases h.row.2 with ⟨rfl, h0⟩ | ⟨rb, cap, cur, rfl, _⟩
    · exact ⟨none, 0, by rw [h0]⟩
    · exact ⟨_, _, rfl⟩
  have k1 : w.cell? ⟨hb, 1, none⟩ = some (.slice av R.length cv) := by simp [World.cell?, h.box]
  clear h
  go_enter Try.func15, Try.ntmps15
  go_wp2_with fail
  go_ret
  exact ⟨rfl, rfl⟩

/-- What Top tells. -/
def topOfT (R : List (Int × Int × Int)) : Value := match R[0]? with | some r => .tuple #[.int .i64 r.1, valT r.2, .bool true] | none => .tuple #[.int .i64 0, .agg #[.int .i64 0, .int .i64 0], .bool false]
/-- What Get tells. -/
def getOfT (R : List (Int × Int × Int)) (t : Int) : Value := match R.find? (fun r => r.1 = t) with | some r => .tuple #[valT r.2, .bool true] | none => .tuple #[.agg #[.int .i64 0, .int .i64 0], .bool false]

set_option maxHeartbeats 2000000 in
set_option maxRecDepth 1000000 in
theorem getT (w : World) (hb mb : Nat) (v : Value) (f : FuncId) (caps : Array Value) (last : Int) (R : List (Int × Int × Int)) (t : Int) (h : HeapAtT w hb v mb f caps last R) (ht : (Lit.int .i64 t).wf = true) :
    Calls Try.prog 24 #[.pointer (some ⟨hb, 0, none⟩), .int .i64 t] w fun e w' => e = .returned (getOfT R t) ∧ Below w.heap.size w w' := by
  obtain ⟨g, htab, hs⟩ := h.tab
  have k2 : w.cell? ⟨hb, 2, none⟩ = some (.map (some mb)) := by simp [World.cell?, h.box]
  have hlt := cell_lt k2
  simp only [] at hlt
  have HT : Hid (Tab w mb R.length g) := htab
  rcases hs.find t with ⟨h1, h2⟩ | ⟨i, r, h1, h2, h3, h4⟩
  · clear h
    have HG : Hid (g t = none ∧ R.find? (fun r => r.1 = t) = none) := ⟨h1, h2⟩
    clear h1 h2 hs htab
    go_enter Try.func24, Try.ntmps24
    go_wp2_with (at_lookup; refine wpList_look rfl _ _ rfl mb R.length g t rfl rfl (HT.out.block (heap_alloc_old w _ HT.out.lt)) ht ?_; rw [HG.out.1]; simp only [Option.isSome_none, Option.getD_none])
    (try simp only [Exit.inBlock, Exit.then])
    refine bodyPost_ret (v := .tuple #[.agg #[.int .i64 0, .int .i64 0], .bool false]) ?_ rfl ?_
    · rw [results_cell_tmp rfl]
      go_simp
    · exact ⟨by unfold getOfT; rw [HG.out.2], ((Below.refl _ w).alloc (Nat.le_refl _) _).alloc (by simp) _⟩
  · obtain ⟨rb, cap, cur, rfl, hg, _, _, _, hcur⟩ := h.shape h2
    have k1 : w.cell? ⟨hb, 1, none⟩ = some (.slice (some ⟨rb, 0, none⟩) R.length cap) := by simp [World.cell?, h.box]
    have ca := row_cellT hg hcur h2
    have hrl : rb < w.heap.size := (Array.getElem?_eq_some_iff.1 hg).1
    obtain ⟨a1, a2⟩ := r
    have ca1 := ca 1 _ rfl
    have ca2 := ca 2 _ rfl
    have il : (i : Int) < (R.length : Int) := by have := (List.getElem?_eq_some_iff.1 h2).1; omega
    have HG : Hid (g t = some (i : Int) ∧ R.find? (fun r => r.1 = t) = some (a1, a2)) := ⟨h1, h4⟩
    clear h ca hg hcur h1 h2 h3 h4 hs htab
    go_enter Try.func24, Try.ntmps24
    go_wp2_with (at_lookup; refine wpList_look rfl _ _ rfl mb R.length g t rfl rfl (HT.out.block (heap_alloc_old w _ HT.out.lt)) ht ?_; rw [HG.out.1]; simp only [Option.isSome_some, Option.getD_some])
    (try simp only [Exit.inBlock, Exit.then])
    refine bodyPost_ret (v := .tuple #[valT a2, .bool true]) ?_ rfl ?_
    · rw [results_cell_tmp rfl]
      unfold valT
      go_simp
    · exact ⟨by unfold getOfT; rw [HG.out.2], (Below.refl _ w).alloc (Nat.le_refl _) _⟩
end Go.Proofs.Ytkjjinccnaphpaa
