/-
  An argument that is a list of steps, opened.
-/
import Derived.Test.YtccpaapbgdpghaaBase
import Derived.Deep.Slices
namespace Go.Proofs.Ytccpaapbgdpghaa
open Go.ChangeShapes Go.WideShapes Go.ChangeAt Go.RowKit

/-- A call on one of some queues. -/
abbrev StepI := Int × Int × Int × Int
def stepCells (x : StepI) : List Value := [.int .i64 x.1, .int .i64 x.2.1, .int .i64 x.2.2.1, .int .i64 x.2.2.2]
def stepFits (x : StepI) : Prop := (Lit.int .i64 x.1).wf = true ∧ (Lit.int .i64 x.2.1).wf = true ∧ (Lit.int .i64 x.2.2.1).wf = true ∧ (Lit.int .i64 x.2.2.2).wf = true
/-- The slice at 'a', of capacity c, has the steps l. -/
def IsSteps (w : World) (a : Option Addr) (c : Nat) (l : List StepI) : Prop :=
  l.length ≤ c ∧ c ≤ maxLen ∧ (∀ x ∈ l, stepFits x) ∧ (l = [] ∨ ∃ b o, a = some ⟨b, o, none⟩ ∧ b < w.heap.size ∧ ∀ (j : Nat) x, l[j]? = some x → ∀ k u, (stepCells x)[k]? = some u → w.cell? ⟨b, o + j * 4 + k, none⟩ = some u)

set_option maxRecDepth 100000 in
theorem open_step {H : Type} {enc : TypeId × Value → H} {W : World} {n : Nat} {cs : List Value} {x : DataW H × List MemPlace}
    (h : DataW.trod enc Try.prog W 0 (fun _ => true) true n 39 cs = some x) : ∃ y : StepI, cs = stepCells y ∧ stepFits y ∧ 1 ≤ Rows.uptoBulk x.1 := by
  obtain ⟨xs, k, _, hx, hl, hlen, hfs⟩ := DataW.trod_struct Try.underlying39 h
  have hc : Try.prog.cellsOf 39 = 4 := by kernel_rfl
  rw [hc] at hl
  match cs, hl with
  | [v0, v1, v2, v3], _ =>
    have each : ∀ (i : Nat), i < 4 → ∃ y, xs[i]? = some y := fun i hi => ⟨_, List.getElem?_eq_getElem (by rw [hlen]; exact hi)⟩
    obtain ⟨x0, e0⟩ := each 0 (by decide)
    obtain ⟨x1, e1⟩ := each 1 (by decide)
    obtain ⟨x2, e2⟩ := each 2 (by decide)
    obtain ⟨x3, e3⟩ := each 3 (by decide)
    have hci : Try.prog.cellsOf 3 = 1 := by kernel_rfl
    have t0 : DataW.trod enc Try.prog W 0 (fun _ => true) true k 3 [v0] = some x0 := by simpa [hci] using (hfs 0 _ rfl).trans e0
    have t1 : DataW.trod enc Try.prog W 0 (fun _ => true) true k 3 [v1] = some x1 := by simpa [hci] using (hfs 1 _ rfl).trans e1
    have t2 : DataW.trod enc Try.prog W 0 (fun _ => true) true k 3 [v2] = some x2 := by simpa [hci] using (hfs 2 _ rfl).trans e2
    have t3 : DataW.trod enc Try.prog W 0 (fun _ => true) true k 3 [v3] = some x3 := by simpa [hci] using (hfs 3 _ rfl).trans e3
    obtain ⟨a0, r0, _, f0⟩ := DataW.trod_int Try.underlying3 t0
    obtain ⟨a1, r1, _, f1⟩ := DataW.trod_int Try.underlying3 t1
    obtain ⟨a2, r2, _, f2⟩ := DataW.trod_int Try.underlying3 t2
    obtain ⟨a3, r3, _, f3⟩ := DataW.trod_int Try.underlying3 t3
    simp only [List.cons.injEq, and_true] at r0 r1 r2 r3
    subst r0 r1 r2 r3
    refine ⟨(a0, a1, a2, a3), rfl, ⟨f0, f1, f2, f3⟩, ?_⟩
    rw [hx]
    simp [Rows.uptoBulk]

set_option maxRecDepth 100000 in
theorem open_steps {H : Type} {enc : TypeId × Value → H} {W : World} {a : Option Addr} {len cap fuel : Nat} {d : DataW H} {p : List MemPlace}
    (hf : DataW.trod enc Try.prog W 0 (fun _ => true) true fuel 22 (Value.slice a len cap).cells.toList = some (d, p)) :
    ∃ l : List StepI, l.length = len ∧ (IsSteps W a cap l ∧ (a = none → cap = 0)) ∧ l.length + 1 ≤ Rows.uptoBulk d := by
  rcases Go.Deep.open_slice Try.underlying22 hf with ⟨hcs, hx⟩ | ⟨x, l, c, m, n, D, Pl, hcs, _, hl, hm, hmm, hx, hcell⟩
  · simp [Value.cells] at hcs
    obtain ⟨rfl, rfl, rfl⟩ := hcs
    simp only [Prod.mk.injEq] at hx
    exact ⟨[], rfl, ⟨⟨by simp, by simp [maxLen], (fun x h => by cases h), .inl rfl⟩, fun _ => rfl⟩, by rw [hx.1]; simp [Rows.uptoBulk]⟩
  · simp [Value.cells] at hcs
    obtain ⟨rfl, rfl, rfl⟩ := hcs
    simp only [if_true] at hmm
    subst hmm
    simp only [Prod.mk.injEq] at hx
    have hc : Try.prog.cellsOf 39 = 4 := by kernel_rfl
    have each : ∀ i, i < m → ∃ y : StepI, stepFits y ∧ 1 ≤ Rows.uptoBulk (D i) ∧ ∀ k u, (stepCells y)[k]? = some u → W.cell? ((x.add (i * 4)).add k) = some u := fun i hi => by
      obtain ⟨cs', h1, h2⟩ := hcell i hi
      rw [hc] at h1
      obtain ⟨_, hlen, hce⟩ := World.cells?_some h1
      obtain ⟨y, rfl, hy, hb⟩ := open_step h2
      exact ⟨y, hy, hb, fun k u hu => (hce k (by have := (List.getElem?_eq_some_iff.1 hu).1; simpa [stepCells] using this)).trans hu⟩
    let f : Nat → StepI := fun i => if h : i < m then Classical.choose (each i h) else (0, 0, 0, 0)
    have hfe : ∀ i, i < m → stepFits (f i) ∧ 1 ≤ Rows.uptoBulk (D i) ∧ ∀ k u, (stepCells (f i))[k]? = some u → W.cell? ((x.add (i * 4)).add k) = some u := fun i hi => by
      simp only [f, dif_pos hi]
      exact Classical.choose_spec (each i hi)
    have htl : ((List.range len).map f).length = len := by simp
    refine ⟨(List.range len).map f, htl, ⟨⟨by omega, hm, ?_, ?_⟩, fun h => by cases h⟩, ?_⟩
    · intro y hy
      obtain ⟨i, hi, rfl⟩ := List.mem_map.1 hy
      exact (hfe i (by have := List.mem_range.1 hi; omega)).1
    · by_cases h0 : len = 0
      · left; subst h0; simp
      · right
        obtain ⟨b, o, spot⟩ := x
        have hc0 := (hfe 0 (by omega)).2.2 0 _ rfl
        have hspot : spot = none := by simpa [Addr.add] using World.cell?_spot hc0
        subst hspot
        refine ⟨b, o, rfl, ?_, fun j y hj k u hu => ?_⟩
        · have := World.block_lt_of_cell? _ _ hc0
          simpa [Addr.add] using this
        · have hjl : j < len := by have := (List.getElem?_eq_some_iff.1 hj).1; omega
          rw [List.getElem?_map, List.getElem?_range hjl] at hj
          simp only [Option.map_some, Option.some.injEq] at hj
          subst hj
          have := (hfe j (by omega)).2.2 k u hu
          have ea : ((⟨b, o, none⟩ : Addr).add (j * 4)).add k = ⟨b, o + j * 4 + k, none⟩ := by
            unfold Addr.add
            split <;> split <;> simp_all
          rw [ea] at this
          exact this
    · rw [hx.1, htl]
      simp only [Rows.uptoBulk]
      have : len ≤ Rows.uptoBulkAll ((List.range len).map D) := by
        have key : ∀ l : List Nat, (∀ i ∈ l, i < m) → l.length ≤ Rows.uptoBulkAll (l.map D) := by
          intro l
          induction l with
          | nil => intro _; simp [Rows.uptoBulkAll]
          | cons i r ih =>
            intro h
            have h1 := ih (fun j hj => h j (List.mem_cons_of_mem _ hj))
            have h2 := (hfe i (h i (List.mem_cons_self ..))).2.1
            simp only [List.map_cons, Rows.uptoBulkAll, List.length_cons]
            omega
        simpa using key (List.range len) (fun i hi => by have := List.mem_range.1 hi; omega)
      omega
end Go.Proofs.Ytccpaapbgdpghaa
