/-
  A job as one thing; what of it is asked.
-/
import Derived.Test.YtonfdmbcbfpgdaaMk
import Derived.Test.YtonfdmbcbfpgdaaVTX
import Derived.Laws.Rows
import Derived.Deep.CutBlock
import Derived.Deep.RegionWith
import Derived.Deep.Cut
import Derived.Deep.MidRow
namespace Go.Proofs.Ytonfdmbcbfpgdaa
open Go.RowKit
abbrev I64 (x : Int) : Prop := (Lit.int .i64 x).wf = true
theorem I64.bounds {x : Int} (h : I64 x) : -9223372036854775808 ≤ x ∧ x ≤ 9223372036854775807 := by
  unfold I64 at h
  simp [Lit.wf, IntKind.min, IntKind.max, IntKind.bits, IntKind.signed] at h
  omega
structure Jb where
  id : Int
  pr : Int
  dl : Int
  tr : Int
  bo : Int
  st : Int
  du : Int
  od : Int
  ho : Int
  c0 : Int
  c1 : Int
  c2 : Int
  c3 : Int
  c4 : Int
  nm : ByteArray
def Jb.cells (j : Jb) (bv : Value) : Array Value := #[.int .i64 j.id, .int .i64 j.pr, .int .i64 j.dl, .int .i64 j.tr, .int .i64 j.bo, .int .i64 j.st, .int .i64 j.du, .int .i64 j.od, .int .i64 j.ho, .int .i64 j.c0, .int .i64 j.c1, .int .i64 j.c2, .int .i64 j.c3, .int .i64 j.c4, .string j.nm, bv]
def Jb.ok (j : Jb) : Prop := I64 j.id ∧ I64 j.pr ∧ I64 j.dl ∧ I64 j.tr ∧ I64 j.bo ∧ I64 j.st ∧ I64 j.du ∧ I64 j.od ∧ I64 j.ho ∧ I64 j.c0 ∧ I64 j.c1 ∧ I64 j.c2 ∧ I64 j.c3 ∧ I64 j.c4 ∧ j.nm.size ≤ maxLen
def Jb.mark (j : Jb) : Mk := ⟨j.id, j.pr, j.du, j.od⟩
def stB (n : Int) : Bool := n == 1 || n == 2 || n == 3 || n == 4
def hoB (n : Int) (b : Bool) : Bool := if b then decide (0 ≤ n) && decide (n < 64) else n == -1
def nuB (n : Int) (b : Bool) : Bool := if b then decide (1 ≤ n) else n == 0
def fitB (j : Jb) (bl : Nat) : Bool := hoB j.ho (j.st == 3) && nuB j.du (j.st == 3 || j.st == 2) && nuB j.od (j.st == 4) && decide (1 ≤ j.nm.size) && decide (j.nm.size ≤ 200) && decide (bl ≤ 65535)

set_option maxHeartbeats 1000000 in
set_option maxRecDepth 1000000 in
theorem isState_any (n : Int) (w : World) : Calls Try.prog 36 #[.int .i64 n] w fun e w' => e = .returned (.bool (stB n)) ∧ w' = w := by
  unfold stB
  by_cases h1 : n = 1
  · go_enter Try.func36, Try.ntmps36
    go_wp2
    go_ret
    exact ⟨by simp [h1], rfl⟩
  · by_cases h2 : n = 2
    · go_enter Try.func36, Try.ntmps36
      go_wp2
      go_ret
      exact ⟨by simp [h2], rfl⟩
    · by_cases h3 : n = 3
      · go_enter Try.func36, Try.ntmps36
        go_wp2
        go_ret
        exact ⟨by simp [h3], rfl⟩
      · go_enter Try.func36, Try.ntmps36
        go_wp2
        go_ret
        exact ⟨by simp, rfl⟩
set_option maxHeartbeats 1000000 in
set_option maxRecDepth 1000000 in
theorem fitsHolder_any (n : Int) (b : Bool) (w : World) : Calls Try.prog 59 #[.int .i64 n, .bool b] w fun e w' => e = .returned (.bool (hoB n b)) ∧ w' = w := by
  cases b
  · go_enter Try.func59, Try.ntmps59
    go_wp2
    go_ret
    exact ⟨by simp [hoB], rfl⟩
  · by_cases h : 0 ≤ n
    · go_enter Try.func59, Try.ntmps59
      go_wp2
      go_ret
      exact ⟨by simp [hoB, h], rfl⟩
    · go_enter Try.func59, Try.ntmps59
      go_wp2
      go_ret
      exact ⟨by simp [hoB]; omega, rfl⟩
set_option maxHeartbeats 1000000 in
set_option maxRecDepth 1000000 in
theorem fitsNumber_any (n : Int) (b : Bool) (w : World) : Calls Try.prog 60 #[.int .i64 n, .bool b] w fun e w' => e = .returned (.bool (nuB n b)) ∧ w' = w := by
  cases b
  · go_enter Try.func60, Try.ntmps60
    go_wp2
    go_ret
    exact ⟨by simp [nuB], rfl⟩
  · go_enter Try.func60, Try.ntmps60
    go_wp2
    go_ret
    exact ⟨by simp [nuB], rfl⟩
/-- The cells of a job in a block of its own. -/
theorem job_cells {w : World} {b : Nat} {j : Jb} {bv : Value} {t : TypeId} (h : w.heap[b]? = some (.cells (j.cells bv) t (0, 0))) : (∀ k u, (j.cells bv)[k]? = some u → w.cell? ⟨b, k, none⟩ = some u) ∧ ∀ k, w.frozen? ⟨b, k, none⟩ = false :=
  ⟨fun k u hu => by simpa [World.cell?, h] using hu, fun k => by simp [World.frozen?, h]⟩
set_option maxHeartbeats 2000000 in
set_option maxRecDepth 1000000 in
theorem markOf_any (j : Jb) (bv : Value) (w : World) : Calls Try.prog 64 #[.agg (j.cells bv)] w fun e w' => e = .returned (.agg #[.int .i64 j.id, .int .i64 j.pr, .int .i64 j.du, .int .i64 j.od]) ∧ Below w.heap.size w w' := by
  go_enter Try.func64, Try.ntmps64
  unfold Jb.cells
  go_wp2
  refine bodyPost_ret (v := .agg #[.int .i64 j.id, .int .i64 j.pr, .int .i64 j.du, .int .i64 j.od]) (by simp [results, Try.results64, go_sem]) rfl ⟨rfl, ?_⟩
  exact ((Below.refl _ _).alloc (Nat.le_refl _) _).alloc (by simp) _
set_option maxHeartbeats 4000000 in
set_option maxRecDepth 1000000 in
theorem fits_any (j : Jb) (a : Option Addr) (n c : Nat) (w : World) (hn : n ≤ 4611686018427387904) (hm : j.nm.size ≤ maxLen) : Calls Try.prog 37 #[.agg (j.cells (.slice a n c))] w fun e w' => e = .returned (.bool (fitB j n)) ∧ Below w.heap.size w w' := by
  obtain ⟨id, pr, dl, tr, bo, st, du, od, ho, c0, c1, c2, c3, c4, nm⟩ := j
  simp only [] at hm
  unfold maxLen at hm
  have k1 := fun b w => fitsHolder_any ho b w
  have k2 := fun b w => fitsNumber_any du b w
  have k3 := fun b w => fitsNumber_any od b w
  obtain ⟨s3, hs3⟩ : ∃ s3, s3 = (st == 3) := ⟨_, rfl⟩
  obtain ⟨s2, hs2⟩ : ∃ s2, s2 = (st == 2) := ⟨_, rfl⟩
  obtain ⟨s4, hs4⟩ : ∃ s4, s4 = (st == 4) := ⟨_, rfl⟩
  have HF : Hid (fitB ⟨id, pr, dl, tr, bo, st, du, od, ho, c0, c1, c2, c3, c4, nm⟩ n = (hoB ho s3 && nuB du (s3 || s2) && nuB od s4 && decide (1 ≤ nm.size) && decide (nm.size ≤ 200) && decide (n ≤ 65535))) := by
    rw [hs3, hs2, hs4]; rfl
  have q3 := hs3.symm
  have q2 := hs2.symm
  have q4 := hs4.symm
  clear hs3 hs2 hs4
  generalize hh : hoB ho s3 = x1 at HF
  generalize hd : nuB du (s3 || s2) = x2 at HF
  generalize hod : nuB od s4 = x3 at HF
  have C1 : Hid (∀ w, Calls Try.prog 59 #[.int .i64 ho, .bool s3] w fun e w' => e = .returned (.bool x1) ∧ w' = w) := fun w => by rw [← hh]; exact k1 s3 w
  have C2 : Hid (∀ w, Calls Try.prog 60 #[.int .i64 du, .bool (s3 || s2)] w fun e w' => e = .returned (.bool x2) ∧ w' = w) := fun w => by rw [← hd]; exact k2 (s3 || s2) w
  have C3 : Hid (∀ w, Calls Try.prog 60 #[.int .i64 od, .bool s4] w fun e w' => e = .returned (.bool x3) ∧ w' = w) := fun w => by rw [← hod]; exact k3 s4 w
  clear k1 k2 k3 hh hd hod
  cases x1
  · go_enter Try.func37, Try.ntmps37
    unfold Jb.cells
    go_wp2_with (first
      | (go_at_call 59; refine (C1.out _).mono ?_; rintro e w' ⟨rfl, hw⟩; have hw := hw.symm; subst hw)
      | (go_at_call_of 60 du; refine (C2.out _).mono ?_; rintro e w' ⟨rfl, hw⟩; have hw := hw.symm; subst hw)
      | (go_at_call_of 60 od; refine (C3.out _).mono ?_; rintro e w' ⟨rfl, hw⟩; have hw := hw.symm; subst hw))
    go_ret
    exact ⟨by rw [HF.out]; simp <;> omega, (Below.refl _ _).alloc (Nat.le_refl _) _⟩
  · cases s3
    · cases x2
      · go_enter Try.func37, Try.ntmps37
        unfold Jb.cells
        go_wp2_with (first
          | (go_at_call 59; refine (C1.out _).mono ?_; rintro e w' ⟨rfl, hw⟩; have hw := hw.symm; subst hw)
          | (go_at_call_of 60 du; refine (C2.out _).mono ?_; rintro e w' ⟨rfl, hw⟩; have hw := hw.symm; subst hw)
          | (go_at_call_of 60 od; refine (C3.out _).mono ?_; rintro e w' ⟨rfl, hw⟩; have hw := hw.symm; subst hw))
        go_ret
        exact ⟨by rw [HF.out]; simp <;> omega, (Below.refl _ _).alloc (Nat.le_refl _) _⟩
      · cases x3
        · go_enter Try.func37, Try.ntmps37
          unfold Jb.cells
          go_wp2_with (first
            | (go_at_call 59; refine (C1.out _).mono ?_; rintro e w' ⟨rfl, hw⟩; have hw := hw.symm; subst hw)
            | (go_at_call_of 60 du; refine (C2.out _).mono ?_; rintro e w' ⟨rfl, hw⟩; have hw := hw.symm; subst hw)
            | (go_at_call_of 60 od; refine (C3.out _).mono ?_; rintro e w' ⟨rfl, hw⟩; have hw := hw.symm; subst hw))
          go_ret
          exact ⟨by rw [HF.out]; simp <;> omega, (Below.refl _ _).alloc (Nat.le_refl _) _⟩
        · by_cases h1 : (1 : Int) ≤ (nm.size : Int)
          · by_cases h2 : (nm.size : Int) ≤ 200
            · go_enter Try.func37, Try.ntmps37
              unfold Jb.cells
              go_wp2_with (first
                | (go_at_call 59; refine (C1.out _).mono ?_; rintro e w' ⟨rfl, hw⟩; have hw := hw.symm; subst hw)
                | (go_at_call_of 60 du; refine (C2.out _).mono ?_; rintro e w' ⟨rfl, hw⟩; have hw := hw.symm; subst hw)
                | (go_at_call_of 60 od; refine (C3.out _).mono ?_; rintro e w' ⟨rfl, hw⟩; have hw := hw.symm; subst hw))
              go_ret
              exact ⟨by rw [HF.out]; have e1 : decide (1 ≤ nm.size) = true := decide_eq_true (by omega); have e2 : decide (nm.size ≤ 200) = true := decide_eq_true (by omega); have e3 : decide (n ≤ 65535) = decide ((n : Int) ≤ 65535) := (by by_cases hb : n ≤ 65535 <;> simp [hb] <;> omega); rw [e1, e2, e3]; simp, (Below.refl _ _).alloc (Nat.le_refl _) _⟩
            · go_enter Try.func37, Try.ntmps37
              unfold Jb.cells
              go_wp2_with (first
                | (go_at_call 59; refine (C1.out _).mono ?_; rintro e w' ⟨rfl, hw⟩; have hw := hw.symm; subst hw)
                | (go_at_call_of 60 du; refine (C2.out _).mono ?_; rintro e w' ⟨rfl, hw⟩; have hw := hw.symm; subst hw)
                | (go_at_call_of 60 od; refine (C3.out _).mono ?_; rintro e w' ⟨rfl, hw⟩; have hw := hw.symm; subst hw))
              go_ret
              exact ⟨by rw [HF.out]; simp <;> omega, (Below.refl _ _).alloc (Nat.le_refl _) _⟩
          · go_enter Try.func37, Try.ntmps37
            unfold Jb.cells
            go_wp2_with (first
              | (go_at_call 59; refine (C1.out _).mono ?_; rintro e w' ⟨rfl, hw⟩; have hw := hw.symm; subst hw)
              | (go_at_call_of 60 du; refine (C2.out _).mono ?_; rintro e w' ⟨rfl, hw⟩; have hw := hw.symm; subst hw)
              | (go_at_call_of 60 od; refine (C3.out _).mono ?_; rintro e w' ⟨rfl, hw⟩; have hw := hw.symm; subst hw))
            go_ret
            exact ⟨by rw [HF.out]; simp <;> omega, (Below.refl _ _).alloc (Nat.le_refl _) _⟩
    · cases x2
      · go_enter Try.func37, Try.ntmps37
        unfold Jb.cells
        go_wp2_with (first
          | (go_at_call 59; refine (C1.out _).mono ?_; rintro e w' ⟨rfl, hw⟩; have hw := hw.symm; subst hw)
          | (go_at_call_of 60 du; refine (C2.out _).mono ?_; rintro e w' ⟨rfl, hw⟩; have hw := hw.symm; subst hw)
          | (go_at_call_of 60 od; refine (C3.out _).mono ?_; rintro e w' ⟨rfl, hw⟩; have hw := hw.symm; subst hw))
        go_ret
        exact ⟨by rw [HF.out]; simp <;> omega, (Below.refl _ _).alloc (Nat.le_refl _) _⟩
      · cases x3
        · go_enter Try.func37, Try.ntmps37
          unfold Jb.cells
          go_wp2_with (first
            | (go_at_call 59; refine (C1.out _).mono ?_; rintro e w' ⟨rfl, hw⟩; have hw := hw.symm; subst hw)
            | (go_at_call_of 60 du; refine (C2.out _).mono ?_; rintro e w' ⟨rfl, hw⟩; have hw := hw.symm; subst hw)
            | (go_at_call_of 60 od; refine (C3.out _).mono ?_; rintro e w' ⟨rfl, hw⟩; have hw := hw.symm; subst hw))
          go_ret
          exact ⟨by rw [HF.out]; simp <;> omega, (Below.refl _ _).alloc (Nat.le_refl _) _⟩
        · by_cases h1 : (1 : Int) ≤ (nm.size : Int)
          · by_cases h2 : (nm.size : Int) ≤ 200
            · go_enter Try.func37, Try.ntmps37
              unfold Jb.cells
              go_wp2_with (first
                | (go_at_call 59; refine (C1.out _).mono ?_; rintro e w' ⟨rfl, hw⟩; have hw := hw.symm; subst hw)
                | (go_at_call_of 60 du; refine (C2.out _).mono ?_; rintro e w' ⟨rfl, hw⟩; have hw := hw.symm; subst hw)
                | (go_at_call_of 60 od; refine (C3.out _).mono ?_; rintro e w' ⟨rfl, hw⟩; have hw := hw.symm; subst hw))
              go_ret
              exact ⟨by rw [HF.out]; have e1 : decide (1 ≤ nm.size) = true := decide_eq_true (by omega); have e2 : decide (nm.size ≤ 200) = true := decide_eq_true (by omega); have e3 : decide (n ≤ 65535) = decide ((n : Int) ≤ 65535) := (by by_cases hb : n ≤ 65535 <;> simp [hb] <;> omega); rw [e1, e2, e3]; simp, (Below.refl _ _).alloc (Nat.le_refl _) _⟩
            · go_enter Try.func37, Try.ntmps37
              unfold Jb.cells
              go_wp2_with (first
                | (go_at_call 59; refine (C1.out _).mono ?_; rintro e w' ⟨rfl, hw⟩; have hw := hw.symm; subst hw)
                | (go_at_call_of 60 du; refine (C2.out _).mono ?_; rintro e w' ⟨rfl, hw⟩; have hw := hw.symm; subst hw)
                | (go_at_call_of 60 od; refine (C3.out _).mono ?_; rintro e w' ⟨rfl, hw⟩; have hw := hw.symm; subst hw))
              go_ret
              exact ⟨by rw [HF.out]; simp <;> omega, (Below.refl _ _).alloc (Nat.le_refl _) _⟩
          · go_enter Try.func37, Try.ntmps37
            unfold Jb.cells
            go_wp2_with (first
              | (go_at_call 59; refine (C1.out _).mono ?_; rintro e w' ⟨rfl, hw⟩; have hw := hw.symm; subst hw)
              | (go_at_call_of 60 du; refine (C2.out _).mono ?_; rintro e w' ⟨rfl, hw⟩; have hw := hw.symm; subst hw)
              | (go_at_call_of 60 od; refine (C3.out _).mono ?_; rintro e w' ⟨rfl, hw⟩; have hw := hw.symm; subst hw))
            go_ret
            exact ⟨by rw [HF.out]; simp <;> omega, (Below.refl _ _).alloc (Nat.le_refl _) _⟩
end Go.Proofs.Ytonfdmbcbfpgdaa
