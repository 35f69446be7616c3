/-
  Sums that are counted along.
-/
import Derived.Test.YtonfdmbcbfpgdaaYJob
namespace Go.Proofs.Ytonfdmbcbfpgdaa
open Go.RowKit
/-- Sums. -/
structure Sm where
  r : Int
  d : Int
  v : Int
  b : Int
  u : Int
def Sm.cells (s : Sm) : List Value := [.int .i64 s.r, .int .i64 s.d, .int .i64 s.v, .int .i64 s.b, .int .i64 s.u]
def Sm.small (s : Sm) : Prop := (-4611686018427387904 ≤ s.r ∧ s.r ≤ 4611686018427387904) ∧ (-4611686018427387904 ≤ s.d ∧ s.d ≤ 4611686018427387904) ∧ (-4611686018427387904 ≤ s.v ∧ s.v ≤ 4611686018427387904) ∧ (-4611686018427387904 ≤ s.b ∧ s.b ≤ 4611686018427387904) ∧ -4611686018427387904 ≤ s.u ∧ s.u ≤ 4611686018427387904
/-- A job is counted in (k = 1), or taken off (k = -1). -/
def Sm.add (s : Sm) (st pr k : Int) : Sm :=
  if st = 1 then { s with r := s.r + k, u := if pr < 1024 then s.u + k else s.u } else if st = 2 then { s with d := s.d + k } else if st = 3 then { s with v := s.v + k } else if st = 4 then { s with b := s.b + k } else s
theorem sums_cells {w : World} {b : Nat} {pre : List Value} {s : Sm} {t : TypeId} (h : w.heap[b]? = some (.cells (pre ++ s.cells).toArray t (0, 0))) (k : Nat) (u : Value) (hu : s.cells[k]? = some u) : w.cell? ⟨b, pre.length + k, none⟩ = some u := by
  simp only [World.cell?, h]
  simp [List.getElem?_append_right, hu]
theorem sums_set {w : World} {b : Nat} {pre : List Value} {s : Sm} {t : TypeId} (h : w.heap[b]? = some (.cells (pre ++ s.cells).toArray t (0, 0))) (k : Nat) (u : Value) (s' : Sm) (hs : s.cells.set k u = s'.cells) :
    (w.setCell ⟨b, pre.length + k, none⟩ u).heap[b]? = some (.cells (pre ++ s'.cells).toArray t (0, 0)) ∧ Kept (fun q => q = b) w (w.setCell ⟨b, pre.length + k, none⟩ u) := by
  refine ⟨?_, Kept.setCell _ w b _ u rfl⟩
  have := (set_cells h (pre.length + k) u).1
  rw [this, ← hs]
  simp
set_option maxHeartbeats 4000000 in
set_option maxRecDepth 1000000 in
theorem countIn_any (j : Jb) (bv : Value) (k : Int) (w : World) (b : Nat) (pre : List Value) (s : Sm) (t : TypeId) (h : w.heap[b]? = some (.cells (pre ++ s.cells).toArray t (0, 0))) (hs : s.small) (hk : -1 ≤ k ∧ k ≤ 1) :
    Calls Try.prog 74 #[.pointer (some ⟨b, pre.length, none⟩), .agg (j.cells bv), .int .i64 k] w fun e w' => e = .returned (.tuple #[]) ∧ w'.heap[b]? = some (.cells (pre ++ (s.add j.st j.pr k).cells).toArray t (0, 0)) ∧ Kept (fun q => q = b) w w' := by
  obtain ⟨id, pr, dl, tr, bo, st, du, od, ho, c0, c1, c2, c3, c4, nm⟩ := j
  obtain ⟨r, d, v, q, u⟩ := s
  obtain ⟨⟨r1, r2⟩, ⟨d1, d2⟩, ⟨v1, v2⟩, ⟨q1, q2⟩, u1, u2⟩ := hs
  obtain ⟨k1, k2⟩ := hk
  simp only [] at r1 r2 d1 d2 v1 v2 q1 q2 u1 u2 ⊢
  have z0 := sums_cells h 0 _ rfl
  have z1 := sums_cells h 1 _ rfl
  have z2 := sums_cells h 2 _ rfl
  have z3 := sums_cells h 3 _ rfl
  have z4 := sums_cells h 4 _ rfl
  have hfz : ∀ m, w.frozen? ⟨b, m, none⟩ = false := fun m => by simp [World.frozen?, h]
  have hbl := cell_lt z0
  simp only [Nat.add_zero] at z0 hbl
  obtain ⟨o, ho⟩ : ∃ o, o = pre.length := ⟨_, rfl⟩
  have HO : Hid (o = pre.length) := ho
  have HH : Hid (w.heap[b]? = some (.cells (pre ++ Sm.cells ⟨r, d, v, q, u⟩).toArray t (0, 0))) := h
  rw [← ho] at z0 z1 z2 z3 z4 ⊢
  clear ho h
  unfold Jb.cells
  by_cases h1 : st = 1
  · by_cases hp : pr < 1024
    · go_enter Try.func74, Try.ntmps74
      go_wp2
      go_end0
      obtain ⟨g0, p0⟩ := sums_set HH.out 0 (.int .i64 (r + k)) ⟨r + k, d, v, q, u⟩ rfl
      obtain ⟨g1, p1⟩ := sums_set g0 4 (.int .i64 (u + k)) ⟨r + k, d, v, q, u + k⟩ rfl
      rw [← HO.out, Nat.add_zero] at g0 p0 g1 p1
      refine ⟨rfl, ?_, (p0.trans p1).trans (Kept.ofBelow ((Below.refl _ _).alloc (Nat.le_refl _) _))⟩
      rw [show Sm.add ⟨r, d, v, q, u⟩ 1 pr k = ⟨r + k, d, v, q, u + k⟩ by simp [Sm.add] <;> omega]
      exact (((Below.refl _ _).alloc (Nat.le_refl _) _).block b (by simpa using hbl)).trans g1
    · go_enter Try.func74, Try.ntmps74
      go_wp2
      go_end0
      obtain ⟨g0, p0⟩ := sums_set HH.out 0 (.int .i64 (r + k)) ⟨r + k, d, v, q, u⟩ rfl
      rw [← HO.out, Nat.add_zero] at g0 p0
      refine ⟨rfl, ?_, p0.trans (Kept.ofBelow ((Below.refl _ _).alloc (Nat.le_refl _) _))⟩
      rw [show Sm.add ⟨r, d, v, q, u⟩ 1 pr k = ⟨r + k, d, v, q, u⟩ by simp [Sm.add] <;> omega]
      exact (((Below.refl _ _).alloc (Nat.le_refl _) _).block b (by simpa using hbl)).trans g0
  · by_cases h2 : st = 2
    · go_enter Try.func74, Try.ntmps74
      go_wp2
      go_end0
      obtain ⟨g0, p0⟩ := sums_set HH.out 1 (.int .i64 (d + k)) ⟨r, d + k, v, q, u⟩ rfl
      rw [← HO.out] at g0 p0
      refine ⟨rfl, ?_, p0.trans (Kept.ofBelow ((Below.refl _ _).alloc (Nat.le_refl _) _))⟩
      rw [show Sm.add ⟨r, d, v, q, u⟩ 2 pr k = ⟨r, d + k, v, q, u⟩ by simp [Sm.add]]
      exact (((Below.refl _ _).alloc (Nat.le_refl _) _).block b (by simpa using hbl)).trans g0
    · by_cases h3 : st = 3
      · go_enter Try.func74, Try.ntmps74
        go_wp2
        go_end0
        obtain ⟨g0, p0⟩ := sums_set HH.out 2 (.int .i64 (v + k)) ⟨r, d, v + k, q, u⟩ rfl
        rw [← HO.out] at g0 p0
        refine ⟨rfl, ?_, p0.trans (Kept.ofBelow ((Below.refl _ _).alloc (Nat.le_refl _) _))⟩
        rw [show Sm.add ⟨r, d, v, q, u⟩ 3 pr k = ⟨r, d, v + k, q, u⟩ by simp [Sm.add]]
        exact (((Below.refl _ _).alloc (Nat.le_refl _) _).block b (by simpa using hbl)).trans g0
      · by_cases h4 : st = 4
        · go_enter Try.func74, Try.ntmps74
          go_wp2
          go_end0
          obtain ⟨g0, p0⟩ := sums_set HH.out 3 (.int .i64 (q + k)) ⟨r, d, v, q + k, u⟩ rfl
          rw [← HO.out] at g0 p0
          refine ⟨rfl, ?_, p0.trans (Kept.ofBelow ((Below.refl _ _).alloc (Nat.le_refl _) _))⟩
          rw [show Sm.add ⟨r, d, v, q, u⟩ 4 pr k = ⟨r, d, v, q + k, u⟩ by simp [Sm.add]]
          exact (((Below.refl _ _).alloc (Nat.le_refl _) _).block b (by simpa using hbl)).trans g0
        · go_enter Try.func74, Try.ntmps74
          go_wp2
          go_end0
          refine ⟨rfl, ?_, Kept.ofBelow ((Below.refl _ w).alloc (Nat.le_refl _) _)⟩
          rw [show Sm.add ⟨r, d, v, q, u⟩ st pr k = ⟨r, d, v, q, u⟩ by simp [Sm.add, h1, h2, h3, h4]]
          exact (((Below.refl _ w).alloc (Nat.le_refl _) _).block b hbl).trans HH.out
end Go.Proofs.Ytonfdmbcbfpgdaa
