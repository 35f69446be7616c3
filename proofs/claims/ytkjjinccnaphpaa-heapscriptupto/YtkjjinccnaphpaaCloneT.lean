/-
  The walks of slices.Clone at rows, and of Clone.
-/
import Derived.Test.YtkjjinccnaphpaaPushT
import Derived.Test.YtkjjinccnaphpaaMapClone
import Derived.Lib.SliceRun
import Derived.Deep.DeepMust
import Derived.Deep.RegionHeld
namespace Go.Proofs.Ytkjjinccnaphpaa
open Go.RowKit Go.Lib

set_option maxHeartbeats 2000000 in
set_option maxRecDepth 1000000 in
theorem rowsCloneT (w : World) (v : Value) (R : List (Int × Int × Int)) (h : w.ownsRow 0 66 3 v R.length (flatT R)) (hR : R.length ≤ 1073741823) :
    Calls Try.prog 35 #[v] w fun e w' => ∃ v', e = .returned v' ∧ w'.ownsRow w.heap.size 66 3 v' R.length (flatT R) ∧ Below w.heap.size w w' := by
  obtain ⟨i0, hi, hz0, hz1, hz2⟩ := info_parts info_rowT
  have q22 : ∀ (w : World) (a : Option Addr) (n c n' c' : Nat), (binOp .eql 50 (.slice a n c) (.slice none n' c')).run Try.prog w = .ok (.bool a.isNone) w := fun w a n c n' c' => Lib.run_eql_slice_nil w _ _ a n c n' c' Try.underlying50
  rcases h.2 with ⟨rfl, h0⟩ | ⟨rb, cap, cur, rfl, _, hg, h1, h2, h3, h4⟩
  · have hRn : R = [] := List.eq_nil_of_length_eq_zero h0
    subst hRn
    clear h
    go_enter Try.func35, Try.ntmps35
    go_wp2_with fail
    go_ret
    exact ⟨_, rfl, World.ownsRow_nil _ _ _ _, Below.refl _ _⟩
  · have HC : Hid (∀ j u, (flatT R)[j]? = some u → (w.alloc (.cells #[] 66)).cell? ((⟨rb, 0, none⟩ : Addr).add j) = some u) := fun j u hu => (h.alloc _).cells (g := rb) rfl j u hu
    have HO : Hid (∀ u ∈ flatT R, u.oneCell' = true) := fun u hu => by
      unfold flatT at hu
      obtain ⟨r, _, hr⟩ := List.mem_flatMap.1 hu
      simp [cellsT] at hr
      rcases hr with rfl | rfl | rfl <;> rfl
    have HL : Hid ((flatT R).length = R.length * 3) := flatT_length R
    have HM : Hid ((w.alloc (.cells #[] 66)).ownsRow w.heap.size 66 3 (.slice (some ⟨w.heap.size, 0, none⟩) 0 0) 0 []) := World.ownsRow_made w #[] 0 (Nat.le_refl _) (by unfold maxLen; omega) (by simp)
    have hb1 : 0 + R.length ≤ maxLen := by unfold maxLen; omega
    have hb2 : (0 + R.length) * 24 ≤ 140737488355328 := by omega
    clear h hg h1 h2 h3 h4
    go_enter Try.func35, Try.ntmps35
    go_wp2_with (at_builtin; go_must (refine wpList_append_own _ rfl (.tmp 5) (.tmp 6) 50 rfl w.heap.size 66 i0 (.agg #[.int .i64 0, .int .i64 0, .int .i64 0]) 3 24 Try.underlying50 hi hz0 hz1 hz2 rfl (by decide) (.slice (some ⟨w.heap.size, 0, none⟩) 0 0) 0 [] rfl HM.out ⟨rb, 0, none⟩ R.length cap (flatT R) rfl HL.out HC.out HO.out hb1 hb2 (by simp) ?_; intro v1 w1 hown1 hgr1 _))
    go_ret
    refine ⟨v1, rfl, by simpa using hown1, ((Below.refl _ w).alloc (Nat.le_refl _) _).grown hgr1 (by simp) (fun k hk => by simp [Value.ownBlock] at hk; omega)⟩

theorem row_sliceT {w : World} {B e s n : Nat} {v : Value} {xs : List Value} (h : w.ownsRow B e s v n xs) : ∃ a c, v = .slice a n c := by
  rcases h.2 with ⟨rfl, h0⟩ | ⟨rb, cap, cur, rfl, _⟩
  · exact ⟨none, 0, by rw [h0]⟩
  · exact ⟨_, _, rfl⟩

set_option maxHeartbeats 4000000 in
set_option maxRecDepth 1000000 in
theorem cloneT (w : World) (hb mb : Nat) (v : Value) (f : FuncId) (caps : Array Value) (last : Int) (R : List (Int × Int × Int)) (h : HeapAtT w hb v mb f caps last R) (hR : R.length ≤ 1073741823) :
    Calls Try.prog 13 #[.pointer (some ⟨hb, 0, none⟩)] w fun e w' => ∃ hb' v' mb', e = .returned (.pointer (some ⟨hb', 0, none⟩)) ∧ HeapAtT w' hb' v' mb' f caps last R ∧ Below w.heap.size w w' ∧ ∀ k, Mine hb' v' mb' k → w.heap.size ≤ k := by
  have k0 : w.cell? ⟨hb, 0, none⟩ = some (.func (.func f) #[] caps) := by simp [World.cell?, h.box]
  have k1 : w.cell? ⟨hb, 1, none⟩ = some v := by simp [World.cell?, h.box]
  have k2 : w.cell? ⟨hb, 2, none⟩ = some (.map (some mb)) := by simp [World.cell?, h.box]
  have k3 : w.cell? ⟨hb, 3, none⟩ = some (.int .i64 last) := by simp [World.cell?, h.box]
  obtain ⟨g, htab, hsits⟩ := h.tab
  obtain ⟨av, cv, rfl⟩ := row_sliceT h.row
  have HH : Hid (HeapAtT w hb (.slice av R.length cv) mb f caps last R) := h
  have HT : Hid (Tab w mb R.length g) := htab
  have hlt := cell_lt k0
  simp only [] at hlt
  clear h htab
  go_enter Try.func13, Try.ntmps13
  go_wp2_with fail
  go_region_held (fun w' => w'.cell? ⟨hb, 0, none⟩ = some (.func (.func f) #[] caps) ∧ w'.cell? ⟨hb, 1, none⟩ = some (.slice av R.length cv) ∧ w'.cell? ⟨hb, 2, none⟩ = some (.map (some mb)) ∧ w'.cell? ⟨hb, 3, none⟩ = some (.int .i64 last)) (first | assumption | exact ⟨k0, k1, k2, k3⟩ | exact ⟨(World.cell?_alloc_past _ _ _ hlt2).trans hS2.1, (World.cell?_alloc_past _ _ _ hlt2).trans hS2.2.1, (World.cell?_alloc_past _ _ _ hlt2).trans hS2.2.2.1, (World.cell?_alloc_past _ _ _ hlt2).trans hS2.2.2.2⟩)
    (first
      | (go_at_call 35
         refine (rowsCloneT w.drew (.slice av R.length cv) R HH.out.row hR).mono ?_
         rintro e w1 ⟨v1, rfl, o1, B1⟩
         obtain ⟨a1, c1, rfl⟩ := row_sliceT o1
         have O1 : Hid (w1.ownsRow w.heap.size 66 3 (.slice a1 R.length c1) R.length (flatT R)) := o1
         have BB1 : Hid (Below w.heap.size w w1) := ⟨B1.os, B1.tape, B1.output, B1.size, B1.block⟩
         have hS1 : w1.cell? ⟨hb, 0, none⟩ = some (.func (.func f) #[] caps) ∧ w1.cell? ⟨hb, 1, none⟩ = some (.slice av R.length cv) ∧ w1.cell? ⟨hb, 2, none⟩ = some (.map (some mb)) ∧ w1.cell? ⟨hb, 3, none⟩ = some (.int .i64 last) := ⟨(BB1.out.cell hlt).trans k0, (BB1.out.cell hlt).trans k1, (BB1.out.cell hlt).trans k2, (BB1.out.cell hlt).trans k3⟩
         have HT1 : Hid (Tab w1 mb R.length g) := HT.out.block (BB1.out.block mb HT.out.lt)
         clear o1 B1)
      | (go_at_call 36
         refine (mapClone w1 mb R.length g HT1.out).mono ?_
         rintro e w2 ⟨rfl, t2, B2, z2⟩
         have T2 : Hid (Tab w2 w1.heap.size R.length g) := t2
         have BB2 : Hid (Below w1.heap.size w1 w2) := B2
         have hlt1 : hb < w1.heap.size := Nat.lt_of_lt_of_le hlt BB1.out.size
         have hlt2 : hb < w2.heap.size := Nat.lt_of_lt_of_le hlt1 BB2.out.size
         have hS2 : w2.cell? ⟨hb, 0, none⟩ = some (.func (.func f) #[] caps) ∧ w2.cell? ⟨hb, 1, none⟩ = some (.slice av R.length cv) ∧ w2.cell? ⟨hb, 2, none⟩ = some (.map (some mb)) ∧ w2.cell? ⟨hb, 3, none⟩ = some (.int .i64 last) := ⟨(BB2.out.cell hlt1).trans hS1.1, (BB2.out.cell hlt1).trans hS1.2.1, (BB2.out.cell hlt1).trans hS1.2.2.1, (BB2.out.cell hlt1).trans hS1.2.2.2⟩
         clear t2 B2))
  go_wp2_with fail
  go_ret
  have z1 := BB1.out.size
  have hB2 : Below w.heap.size w w2 := BB1.out.trans (BB2.out.mono z1)
  have Z2 : w2.heap.size = w1.heap.size + 1 := z2
  refine ⟨w1.heap.size + 1, .slice a1 R.length c1, w1.heap.size, rfl, ⟨?_, ?_, ⟨g, T2.out.block (heap_alloc_old w2 _ (by omega)), hsits⟩, HH.out.fit⟩, hB2.alloc (by omega) _, ?_⟩
  · have := heap_alloc_new w2 (.cells #[.func (.func f) #[] caps, .slice a1 R.length c1, .map (some w1.heap.size), .int .i64 last] 52)
    rwa [Z2] at this
  · refine ⟨O1.out.1, ?_⟩
    rcases O1.out.2 with h0 | ⟨rb, cap, cur, hv, hB, hg, rest⟩
    · exact .inl h0
    · have hlt := (Array.getElem?_eq_some_iff.1 hg).1
      exact .inr ⟨rb, cap, cur, hv, Nat.zero_le _, (heap_alloc_old w2 _ (by omega)).trans ((BB2.out.block rb hlt).trans hg), rest⟩
  · intro k hk
    rcases hk with rfl | hk | rfl
    · omega
    · rcases O1.out.2 with ⟨h0, _⟩ | ⟨rb, cap, cur, hv, hB, hg, rest⟩
      · rw [h0] at hk; cases hk
      · rw [hv] at hk
        have : rb = k := Option.some.inj hk
        omega
    · exact z1
end Go.Proofs.Ytkjjinccnaphpaa
