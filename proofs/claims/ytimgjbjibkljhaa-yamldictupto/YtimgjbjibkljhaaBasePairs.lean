/-
  An argument that is a list of pairs, opened; its letters are counted.
-/
import Derived.Test.YtimgjbjibkljhaaBaseStrs
import Derived.Test.YtimgjbjibkljhaaReadD
import Derived.Deep.Slices
namespace Go.Proofs.Ytimgjbjibkljhaa
open Go.ChangeShapes Go.WideShapes Go.ChangeAt Go.RowKit

set_option maxRecDepth 100000 in
theorem open_pair {H : Type} {enc : TypeId × Value → H} {W : World} {n : Nat} {cs : List Value} {x : DataW H × List MemPlace}
    (h : DataW.trod enc Try.prog W 0 (fun _ => true) true n 41 cs = some x) : ∃ y : BP, cs = two y ∧ 3 + y.1.size + y.2.size ≤ Rows.uptoBulk x.1 := by
  obtain ⟨xs, k, _, hx, hl, hlen, hfs⟩ := DataW.trod_struct Try.underlying41 h
  have hc : Try.prog.cellsOf 41 = 2 := by kernel_rfl
  rw [hc] at hl
  match cs, hl with
  | [v0, v1], _ =>
    have each : ∀ (i : Nat), i < 2 → ∃ y, xs[i]? = some y := fun i hi => ⟨_, List.getElem?_eq_getElem (by rw [hlen]; exact hi)⟩
    obtain ⟨x0, e0⟩ := each 0 (by decide)
    obtain ⟨x1, e1⟩ := each 1 (by decide)
    have hci : Try.prog.cellsOf 9 = 1 := by kernel_rfl
    have t0 : DataW.trod enc Try.prog W 0 (fun _ => true) true k 9 [v0] = some x0 := by simpa [hci] using (hfs 0 _ rfl).trans e0
    have t1 : DataW.trod enc Try.prog W 0 (fun _ => true) true k 9 [v1] = some x1 := by simpa [hci] using (hfs 1 _ rfl).trans e1
    obtain ⟨a0, r0, z0, _⟩ := DataW.trod_string Try.underlying9 t0
    obtain ⟨a1, r1, z1, _⟩ := DataW.trod_string Try.underlying9 t1
    simp only [List.cons.injEq, and_true] at r0 r1
    subst r0 r1
    refine ⟨(a0, a1), rfl, ?_⟩
    have hxs : xs = [x0, x1] := by
      match xs, hlen, e0, e1 with
      | [p0, p1], _, e0, e1 => simp at e0 e1; rw [e0, e1]
    rw [hx, hxs, z0, z1]
    simp [Rows.uptoBulk, Rows.uptoBulkAll]
    omega

set_option maxRecDepth 100000 in
theorem open_pairs {H : Type} {enc : TypeId × Value → H} {W : World} {a : Option Addr} {len cap fuel : Nat} {d : DataW H} {p : List MemPlace}
    (hf : DataW.trod enc Try.prog W 0 (fun _ => true) true fuel 37 (Value.slice a len cap).cells.toList = some (d, p)) :
    ∃ l : List BP, l.length = len ∧ ((l.length ≤ 140737488355328 → IsPairs W a cap l) ∧ (a = none → cap = 0)) ∧ (l.map (fun y : BP => 3 + y.1.size + y.2.size)).sum + 1 ≤ Rows.uptoBulk d := by
  rcases Go.Deep.open_slice Try.underlying37 hf with ⟨hcs, hx⟩ | ⟨x, l, c, m, n, D, Pl, hcs, _, hl, hm, hmm, hx, hcell⟩
  · simp [Value.cells] at hcs
    obtain ⟨rfl, rfl, rfl⟩ := hcs
    simp only [Prod.mk.injEq] at hx
    exact ⟨[], rfl, ⟨fun _ => ⟨by simp, by simp, .inl rfl⟩, fun _ => rfl⟩, by rw [hx.1]; simp [Rows.uptoBulk]⟩
  · simp [Value.cells] at hcs
    obtain ⟨rfl, rfl, rfl⟩ := hcs
    simp only [if_true] at hmm
    subst hmm
    simp only [Prod.mk.injEq] at hx
    have hc : Try.prog.cellsOf 41 = 2 := by kernel_rfl
    have each : ∀ i, i < m → ∃ y : BP, 3 + y.1.size + y.2.size ≤ Rows.uptoBulk (D i) ∧ ∀ k u, (two y)[k]? = some u → W.cell? ((x.add (i * 2)).add k) = some u := fun i hi => by
      obtain ⟨cs', h1, h2⟩ := hcell i hi
      rw [hc] at h1
      obtain ⟨_, hlen, hce⟩ := World.cells?_some h1
      obtain ⟨y, rfl, hb⟩ := open_pair h2
      exact ⟨y, hb, fun k u hu => (hce k (by have := (List.getElem?_eq_some_iff.1 hu).1; simpa [two] using this)).trans hu⟩
    let f : Nat → BP := fun i => if h : i < m then Classical.choose (each i h) else (⟨#[]⟩, ⟨#[]⟩)
    have hfe : ∀ i, i < m → 3 + (f i).1.size + (f i).2.size ≤ Rows.uptoBulk (D i) ∧ ∀ k u, (two (f i))[k]? = some u → W.cell? ((x.add (i * 2)).add k) = some u := fun i hi => by
      simp only [f, dif_pos hi]
      exact Classical.choose_spec (each i hi)
    have htl : ((List.range len).map f).length = len := by simp
    refine ⟨(List.range len).map f, htl, ⟨fun hle => ⟨by omega, hle, ?_⟩, fun h => by cases h⟩, ?_⟩
    · by_cases h0 : len = 0
      · left; subst h0; simp
      · right
        obtain ⟨b, o, spot⟩ := x
        have hc0 := (hfe 0 (by omega)).2 0 _ rfl
        have hspot : spot = none := by simpa [Addr.add] using World.cell?_spot hc0
        subst hspot
        refine ⟨b, o, rfl, ?_, fun j y hj => ?_⟩
        · have := World.block_lt_of_cell? _ _ hc0
          simpa [Addr.add] using this
        · have hjl : j < len := by have := (List.getElem?_eq_some_iff.1 hj).1; omega
          rw [List.getElem?_map, List.getElem?_range hjl] at hj
          simp only [Option.map_some, Option.some.injEq] at hj
          subst hj
          have ea : ∀ k, ((⟨b, o, none⟩ : Addr).add (j * 2)).add k = ⟨b, o + j * 2 + k, none⟩ := fun k => by
            rw [Go.WideShapes.add_plain, Go.WideShapes.add_plain]
          have c0 := (hfe j (by omega)).2 0 _ rfl
          have c1 := (hfe j (by omega)).2 1 _ rfl
          rw [ea] at c0 c1
          exact ⟨c0, c1⟩
    · rw [hx.1]
      simp only [Rows.uptoBulk]
      have : (((List.range len).map f).map (fun y : BP => 3 + y.1.size + y.2.size)).sum ≤ Rows.uptoBulkAll ((List.range len).map D) := by
        have key : ∀ l : List Nat, (∀ i ∈ l, i < m) → ((l.map f).map (fun y : BP => 3 + y.1.size + y.2.size)).sum ≤ Rows.uptoBulkAll (l.map D) := by
          intro l
          induction l with
          | nil => intro _; simp [Rows.uptoBulkAll]
          | cons i r ih =>
            intro h
            have h1 := ih (fun j hj => h j (List.mem_cons_of_mem _ hj))
            have h2 := (hfe i (h i (List.mem_cons_self ..))).1
            simp only [List.map_cons, Rows.uptoBulkAll, List.sum_cons] at h1 ⊢
            omega
        exact key (List.range len) (fun i hi => by have := List.mem_range.1 hi; omega)
      omega
end Go.Proofs.Ytimgjbjibkljhaa
