/-
  The walk of 'lighter'.
-/
import Derived.Test.YtdgepinpabiabaaRowB
namespace Go.Proofs.Ytdgepinpabiabaa
open Go.RowKit

/-- By what the boxes point to. -/
def lightB (zs : List Int) (x y : Addr) : Bool := decide (zs.getD x.off 0 < zs.getD y.off 0)
def inRow (ab n : Nat) (x : Addr) : Prop := ∃ i, i < n ∧ x = ⟨ab, i, none⟩
/-- The row's block, that may be written. -/
def ARow (w : World) (ab n : Nat) : Prop := ∃ cur : Array Value, w.heap[ab]? = some (.cells cur 3 (0, 0)) ∧ n ≤ cur.size
theorem ARow.kept {P : Nat → Prop} {w w' : World} {ab n : Nat} (h : ARow w ab n) (hk : Kept P w w') (hP : ¬ P ab) : ARow w' ab n := by
  obtain ⟨cur, h1, h2⟩ := h
  exact ⟨cur, (hk.block ab (Array.getElem?_eq_some_iff.1 h1).1 hP).trans h1, h2⟩
theorem ARow.set {w : World} {ab n : Nat} (h : ARow w ab n) (i : Nat) (u : Value) : ARow (w.setCell ⟨ab, i, none⟩ u) ab n ∧ w.grownBy (w.setCell ⟨ab, i, none⟩ u) (some ab) := by
  obtain ⟨cur, h1, h2⟩ := h
  obtain ⟨c1, c2⟩ := set_cells h1 i u
  exact ⟨⟨_, c1, by simpa using h2⟩, c2⟩
theorem ARow.cell {w : World} {ab n : Nat} (h : ARow w ab n) {i : Nat} (hi : i < n) : ∃ u, w.cell? ⟨ab, i, none⟩ = some u := by
  obtain ⟨cur, h1, h2⟩ := h
  exact ⟨cur[i], by simp [World.cell?, h1]⟩
theorem ARow.frozen {w : World} {ab n : Nat} (h : ARow w ab n) (i : Nat) : w.frozen? ⟨ab, i, none⟩ = false := by
  obtain ⟨cur, h1, h2⟩ := h
  simp [World.frozen?, h1]
def rowIs (ab : Nat) (zs : List Int) (w : World) : Prop := (∀ (i : Nat) x, zs[i]? = some x → w.cell? ⟨ab, i, none⟩ = some (.int .i64 x)) ∧ (zs ≠ [] → ARow w ab zs.length)
theorem rowIs.block {ab : Nat} {zs : List Int} {w w' : World} (h : rowIs ab zs w) (hb : zs ≠ [] → w'.heap[ab]? = w.heap[ab]?) : rowIs ab zs w' := by
  refine ⟨fun i u hu => (World.cell?_of_block (hb (fun e => by rw [e] at hu; simp at hu))).trans (h.1 i u hu), fun hne => ?_⟩
  obtain ⟨cur, h1, h2⟩ := h.2 hne
  exact ⟨cur, (hb hne).trans h1, h2⟩
theorem rowIs.lt {ab : Nat} {zs : List Int} {w : World} (h : rowIs ab zs w) (hne : zs ≠ []) : ab < w.heap.size := by
  obtain ⟨cur, h1, _⟩ := h.2 hne
  exact (Array.getElem?_eq_some_iff.1 h1).1

set_option maxHeartbeats 2000000 in
set_option maxRecDepth 1000000 in
theorem lighter_any (zs : List Int) (ab : Nat) (x y : Addr) (w : World) (hx : inRow ab zs.length x) (hy : inRow ab zs.length y) (hr : rowIs ab zs w) : Calls Try.prog 35 #[valB x, valB y] w fun e w' => e = .returned (.bool (lightB zs x y)) ∧ Below w.heap.size w w' := by
  obtain ⟨i, hi, rfl⟩ := hx
  obtain ⟨j, hj, rfl⟩ := hy
  obtain ⟨u, hu⟩ : ∃ u, zs[i]? = some u := ⟨_, List.getElem?_eq_getElem hi⟩
  obtain ⟨v, hv⟩ : ∃ v, zs[j]? = some v := ⟨_, List.getElem?_eq_getElem hj⟩
  have ci := hr.1 i u hu
  have cj := hr.1 j v hv
  have hlt := cell_lt ci
  simp only [] at hlt
  have HL : Hid (lightB zs ⟨ab, i, none⟩ ⟨ab, j, none⟩ = decide (u < v)) := (show _ = _ by unfold lightB; simp only [List.getD_eq_getElem?_getD, hu, hv, Option.getD_some])
  clear hi hj hr hu hv
  unfold valB
  go_enter Try.func35, Try.ntmps35
  go_wp2_with fail
  go_quiet (fail)
  go_wp2_with fail
  go_ret
  exact ⟨by rw [HL.out]; rfl, (((Below.refl _ w).alloc (Nat.le_refl _) _).alloc (by simp) _).trans ⟨rfl, rfl, rfl, Nat.le_refl _, fun _ _ => rfl⟩⟩

theorem lighter_asks (zs : List Int) (ab : Nat) : AskerB 35 #[] (lightB zs) (inRow ab zs.length) (fun k => k = ab ∧ zs ≠ []) (fun _ w => rowIs ab zs w) where
  enters := enters_of Try.func35 (by kernel_rfl) rfl
  ask := fun n w x y hs hx hy => (lighter_any zs ab x y w hx hy hs).mono fun e w' ⟨he, hw⟩ => ⟨he, hs.block (fun hne => hw.block ab (hs.lt hne)), Kept.ofBelow hw⟩
  keep := fun _ w w' hs _ hk => hs.block (fun hne => hk ab (hs.lt hne) ⟨rfl, hne⟩)
  old := fun _ w k hs hk => by rw [hk.1]; exact hs.lt hk.2
end Go.Proofs.Ytdgepinpabiabaa
