/-
  An argument that is a list of jobs, opened; what it holds is counted.
-/
import Derived.Test.YtonfdmbcbfpgdaaBase
import Derived.Test.YtonfdmbcbfpgdaaYJob
import Derived.Deep.Slices
import Derived.Lib.SmallJoins
namespace Go.Proofs.Ytonfdmbcbfpgdaa
open Go.ChangeShapes Go.WideShapes Go.ChangeAt Go.RowKit

theorem bulk_mem {H : Type} : ∀ (l : List (DataW H)) (x : DataW H), x ∈ l → Rows.uptoBulk x ≤ Rows.uptoBulkAll l
  | [], _, h => by cases h
  | y :: r, x, h => by
    rw [Rows.uptoBulkAll]
    rcases List.mem_cons.1 h with rfl | h
    · omega
    · have := bulk_mem r x h
      omega
theorem bulk_two {H : Type} : ∀ (l : List (DataW H)) (i : Nat) (x y : DataW H), l[i]? = some x → l[i + 1]? = some y → Rows.uptoBulk x + Rows.uptoBulk y ≤ Rows.uptoBulkAll l
  | [], _, _, _, h, _ => by simp at h
  | z :: r, 0, x, y, h, h2 => by
    simp only [List.getElem?_cons_zero, Option.some.injEq, Nat.zero_add, List.getElem?_cons_succ] at h h2
    subst h
    have := bulk_mem r y (List.mem_of_getElem? h2)
    rw [Rows.uptoBulkAll]
    omega
  | z :: r, i + 1, x, y, h, h2 => by
    simp only [List.getElem?_cons_succ] at h h2
    have := bulk_two r i x y h h2
    rw [Rows.uptoBulkAll]
    omega
/-- A job that is handed in, and where its body lies. -/
structure Jn where
  j : Jb
  a : Option Addr
  c : Nat
  body : List UInt8
def Jn.bv (y : Jn) : Value := .slice y.a y.body.length y.c
def Jn.row (y : Jn) : List Value := (y.j.cells y.bv).toList
def Jn.ok (w : World) (y : Jn) : Prop := IsBytes w y.a y.c y.body ∧ y.j.ok
def Jn.bulk (y : Jn) : Nat := 2 + y.j.nm.size + y.body.length
theorem Jn.row_length (y : Jn) : y.row.length = 16 := rfl
/-- The slice at 'a', of capacity c, has the jobs l. -/
def IsJobs (w : World) (a : Option Addr) (c : Nat) (l : List Jn) : Prop :=
  l.length ≤ c ∧ c ≤ maxLen ∧ (∀ y ∈ l, y.ok w) ∧ (l = [] ∨ ∃ b o, a = some ⟨b, o, none⟩ ∧ b < w.heap.size ∧ ∀ (i : Nat) (y : Jn), l[i]? = some y → ∀ (k : Nat) (u : Value), y.row[k]? = some u → w.cell? ⟨b, o + i * 16 + k, none⟩ = some u)
theorem IsJobs.below {w w' : World} {a : Option Addr} {c : Nat} {l : List Jn} (h : IsJobs w a c l) (hb : Below w.heap.size w w') : IsJobs w' a c l := by
  obtain ⟨h1, h2, h3, h4⟩ := h
  refine ⟨h1, h2, fun y hy => ⟨(h3 y hy).1.below hb, (h3 y hy).2⟩, ?_⟩
  rcases h4 with h4 | ⟨b, o, ha, hlt, hc⟩
  · exact .inl h4
  · exact .inr ⟨b, o, ha, by have := hb.size; omega, fun i y hi k u hu => (World.cell?_of_block (hb.block b hlt)).trans (hc i y hi k u hu)⟩
set_option maxRecDepth 100000 in
theorem open_job {H : Type} {enc : TypeId × Value → H} {W : World} {m0 : Nat} {cs : List Value} {x : DataW H × List MemPlace}
    (hf : DataW.trod enc Try.prog W 0 (fun _ => true) true m0 41 cs = some x) : ∃ y : Jn, cs = y.row ∧ y.ok W ∧ y.bulk ≤ Rows.uptoBulk x.1 := by
  obtain ⟨xs, n, _, hx, hl, hlen, hfs⟩ := DataW.trod_struct Try.underlying41 hf
  have hz : Try.prog.cellsOf 41 = 16 := by kernel_rfl
  rw [hz] at hl
  match cs, hl with
  | [v0, v1, v2, v3, v4, v5, v6, v7, v8, v9, v10, v11, v12, v13, v14, v15], _ =>
    have z3 : Try.prog.cellsOf 3 = 1 := by kernel_rfl
    have z9 : Try.prog.cellsOf 9 = 1 := by kernel_rfl
    have z24 : Try.prog.cellsOf 39 = 1 := by kernel_rfl
    have z23 : Try.prog.cellsOf 38 = 5 := by kernel_rfl
    have each : ∀ (i : Nat), i < 12 → ∃ y, xs[i]? = some y := fun i hi => ⟨_, List.getElem?_eq_getElem (by rw [hlen]; exact hi)⟩
    obtain ⟨y0, e0⟩ := each 0 (by decide)
    have t0 : DataW.trod enc Try.prog W 0 (fun _ => true) true n 3 [v0] = some y0 := by simpa [Value.cells, z3] using (hfs 0 _ rfl).trans e0
    obtain ⟨n0, hc0, _, w0⟩ := DataW.trod_int Try.underlying3 t0
    obtain ⟨y1, e1⟩ := each 1 (by decide)
    have t1 : DataW.trod enc Try.prog W 0 (fun _ => true) true n 3 [v1] = some y1 := by simpa [Value.cells, z3] using (hfs 1 _ rfl).trans e1
    obtain ⟨n1, hc1, _, w1⟩ := DataW.trod_int Try.underlying3 t1
    obtain ⟨y2, e2⟩ := each 2 (by decide)
    have t2 : DataW.trod enc Try.prog W 0 (fun _ => true) true n 3 [v2] = some y2 := by simpa [Value.cells, z3] using (hfs 2 _ rfl).trans e2
    obtain ⟨n2, hc2, _, w2⟩ := DataW.trod_int Try.underlying3 t2
    obtain ⟨y3, e3⟩ := each 3 (by decide)
    have t3 : DataW.trod enc Try.prog W 0 (fun _ => true) true n 3 [v3] = some y3 := by simpa [Value.cells, z3] using (hfs 3 _ rfl).trans e3
    obtain ⟨n3, hc3, _, w3⟩ := DataW.trod_int Try.underlying3 t3
    obtain ⟨y4, e4⟩ := each 4 (by decide)
    have t4 : DataW.trod enc Try.prog W 0 (fun _ => true) true n 3 [v4] = some y4 := by simpa [Value.cells, z3] using (hfs 4 _ rfl).trans e4
    obtain ⟨n4, hc4, _, w4⟩ := DataW.trod_int Try.underlying3 t4
    obtain ⟨y5, e5⟩ := each 5 (by decide)
    have t5 : DataW.trod enc Try.prog W 0 (fun _ => true) true n 3 [v5] = some y5 := by simpa [Value.cells, z3] using (hfs 5 _ rfl).trans e5
    obtain ⟨n5, hc5, _, w5⟩ := DataW.trod_int Try.underlying3 t5
    obtain ⟨y6, e6⟩ := each 6 (by decide)
    have t6 : DataW.trod enc Try.prog W 0 (fun _ => true) true n 3 [v6] = some y6 := by simpa [Value.cells, z3] using (hfs 6 _ rfl).trans e6
    obtain ⟨n6, hc6, _, w6⟩ := DataW.trod_int Try.underlying3 t6
    obtain ⟨y7, e7⟩ := each 7 (by decide)
    have t7 : DataW.trod enc Try.prog W 0 (fun _ => true) true n 3 [v7] = some y7 := by simpa [Value.cells, z3] using (hfs 7 _ rfl).trans e7
    obtain ⟨n7, hc7, _, w7⟩ := DataW.trod_int Try.underlying3 t7
    obtain ⟨y8, e8⟩ := each 8 (by decide)
    have t8 : DataW.trod enc Try.prog W 0 (fun _ => true) true n 3 [v8] = some y8 := by simpa [Value.cells, z3] using (hfs 8 _ rfl).trans e8
    obtain ⟨n8, hc8, _, w8⟩ := DataW.trod_int Try.underlying3 t8
    obtain ⟨yc, ec⟩ := each 9 (by decide)
    have tc : DataW.trod enc Try.prog W 0 (fun _ => true) true n 38 [v9, v10, v11, v12, v13] = some yc := by simpa [Value.cells, z23] using (hfs 9 _ rfl).trans ec
    obtain ⟨ks, q, _, _, _, hlenk, hfk⟩ := DataW.trod_struct Try.underlying38 tc
    have eachk : ∀ (i : Nat), i < 5 → ∃ y, ks[i]? = some y := fun i hi => ⟨_, List.getElem?_eq_getElem (by rw [hlenk]; exact hi)⟩
    obtain ⟨y9, e9⟩ := eachk 0 (by decide)
    have t9 : DataW.trod enc Try.prog W 0 (fun _ => true) true q 3 [v9] = some y9 := by simpa [z3] using (hfk 0 _ rfl).trans e9
    obtain ⟨n9, hc9, _, w9⟩ := DataW.trod_int Try.underlying3 t9
    obtain ⟨y10, e10⟩ := eachk 1 (by decide)
    have t10 : DataW.trod enc Try.prog W 0 (fun _ => true) true q 3 [v10] = some y10 := by simpa [z3] using (hfk 1 _ rfl).trans e10
    obtain ⟨n10, hc10, _, w10⟩ := DataW.trod_int Try.underlying3 t10
    obtain ⟨y11, e11⟩ := eachk 2 (by decide)
    have t11 : DataW.trod enc Try.prog W 0 (fun _ => true) true q 3 [v11] = some y11 := by simpa [z3] using (hfk 2 _ rfl).trans e11
    obtain ⟨n11, hc11, _, w11⟩ := DataW.trod_int Try.underlying3 t11
    obtain ⟨y12, e12⟩ := eachk 3 (by decide)
    have t12 : DataW.trod enc Try.prog W 0 (fun _ => true) true q 3 [v12] = some y12 := by simpa [z3] using (hfk 3 _ rfl).trans e12
    obtain ⟨n12, hc12, _, w12⟩ := DataW.trod_int Try.underlying3 t12
    obtain ⟨y13, e13⟩ := eachk 4 (by decide)
    have t13 : DataW.trod enc Try.prog W 0 (fun _ => true) true q 3 [v13] = some y13 := by simpa [z3] using (hfk 4 _ rfl).trans e13
    obtain ⟨n13, hc13, _, w13⟩ := DataW.trod_int Try.underlying3 t13
    obtain ⟨y14, e14⟩ := each 10 (by decide)
    have t14 : DataW.trod enc Try.prog W 0 (fun _ => true) true n 9 [v14] = some y14 := by simpa [Value.cells, z9] using (hfs 10 _ rfl).trans e14
    obtain ⟨y15, e15⟩ := each 11 (by decide)
    have t15 : DataW.trod enc Try.prog W 0 (fun _ => true) true n 39 [v15] = some y15 := by simpa [Value.cells, z24] using (hfs 11 _ rfl).trans e15
    obtain ⟨s, hc14, hy14, ws⟩ := DataW.trod_string Try.underlying9 t14
    obtain ⟨a, len, cap, hc15⟩ := Go.Joins.slice_form Try.underlying39 t15
    simp only [List.cons.injEq, and_true] at hc0 hc1 hc2 hc3 hc4 hc5 hc6 hc7 hc8 hc9 hc10 hc11 hc12 hc13 hc14 hc15
    subst hc0 hc1 hc2 hc3 hc4 hc5 hc6 hc7 hc8 hc9 hc10 hc11 hc12 hc13 hc14 hc15
    obtain ⟨l, rfl, his, hb⟩ := open_bytes (d := y15.1) (p := y15.2) t15
    refine ⟨⟨⟨n0, n1, n2, n3, n4, n5, n6, n7, n8, n9, n10, n11, n12, n13, s⟩, a, cap, l⟩, rfl, ⟨his.1, w0, w1, w2, w3, w4, w5, w6, w7, w8, w9, w10, w11, w12, w13, ws⟩, ?_⟩
    have hd : x.1 = .agg (xs.map (·.1)) := congrArg Prod.fst hx
    have b2 : Rows.uptoBulk y14.1 + Rows.uptoBulk y15.1 ≤ Rows.uptoBulk x.1 := by
      rw [hd, Rows.uptoBulk]
      have h9 : (xs.map (·.1))[10]? = some y14.1 := by rw [List.getElem?_map, e14]; rfl
      have h10 : (xs.map (·.1))[11]? = some y15.1 := by rw [List.getElem?_map, e15]; rfl
      have := bulk_two _ 10 y14.1 y15.1 h9 h10
      omega
    have : Rows.uptoBulk y14.1 = s.data.toList.length + 1 := by rw [hy14]; simp [Rows.uptoBulk]
    have e : s.data.toList.length = s.size := by simp
    show 2 + s.size + l.length ≤ _
    omega
set_option maxRecDepth 100000 in
theorem open_jobs {H : Type} {enc : TypeId × Value → H} {W : World} {a : Option Addr} {len cap fuel : Nat} {d : DataW H} {p : List MemPlace}
    (hf : DataW.trod enc Try.prog W 0 (fun _ => true) true fuel 22 (Value.slice a len cap).cells.toList = some (d, p)) :
    ∃ l : List Jn, l.length = len ∧ IsJobs W a cap l ∧ (a = none → cap = 0) ∧ (l.map Jn.bulk).sum + 1 ≤ Rows.uptoBulk d := by
  rcases Go.Deep.open_slice Try.underlying22 hf with ⟨hcs, hx⟩ | ⟨x, l, c, m, n, D, Pl, hcs, _, hl, hm, hmm, hx, hcell⟩
  · simp [Value.cells] at hcs
    obtain ⟨rfl, rfl, rfl⟩ := hcs
    simp only [Prod.mk.injEq] at hx
    exact ⟨[], rfl, ⟨by simp, by simp [maxLen], by simp, .inl rfl⟩, fun _ => rfl, by rw [hx.1]; simp [Rows.uptoBulk]⟩
  · simp [Value.cells] at hcs
    obtain ⟨rfl, rfl, rfl⟩ := hcs
    simp only [if_true] at hmm
    subst hmm
    simp only [Prod.mk.injEq] at hx
    have hc : Try.prog.cellsOf 41 = 16 := by kernel_rfl
    have each : ∀ i, i < m → ∃ y : Jn, (y.ok W ∧ y.bulk ≤ Rows.uptoBulk (D i)) ∧ ∀ k u, y.row[k]? = some u → W.cell? ((x.add (i * 16)).add k) = some u := fun i hi => by
      obtain ⟨cs', h1, h2⟩ := hcell i hi
      rw [hc] at h1
      obtain ⟨_, hlen, hce⟩ := World.cells?_some h1
      obtain ⟨y, rfl, ho, hb⟩ := open_job h2
      exact ⟨y, ⟨ho, hb⟩, fun k u hu => (hce k (by have := (List.getElem?_eq_some_iff.1 hu).1; rw [y.row_length] at this; exact this)).trans hu⟩
    let f : Nat → Jn := fun i => if h : i < m then Classical.choose (each i h) else ⟨⟨0, 0, 0, 0, 0, 0, 0, 0, 0, 0, 0, 0, 0, 0, ⟨#[]⟩⟩, none, 0, []⟩
    have hfe : ∀ i, i < m → ((f i).ok W ∧ (f i).bulk ≤ Rows.uptoBulk (D i)) ∧ ∀ k u, (f i).row[k]? = some u → W.cell? ((x.add (i * 16)).add k) = some u := fun i hi => by
      simp only [f, dif_pos hi]
      exact Classical.choose_spec (each i hi)
    have htl : ((List.range len).map f).length = len := by simp
    refine ⟨(List.range len).map f, htl, ⟨by omega, by omega, ?_, ?_⟩, fun h => (by cases h), ?_⟩
    · intro y hy
      obtain ⟨i, hi, rfl⟩ := List.mem_map.1 hy
      exact (hfe i (by have := List.mem_range.1 hi; omega)).1.1
    · by_cases h0 : len = 0
      · left; subst h0; simp
      · right
        obtain ⟨b, o, spot⟩ := x
        have hc0 := (hfe 0 (by omega)).2 0 _ rfl
        have hspot : spot = none := by simpa [Addr.add] using World.cell?_spot hc0
        subst hspot
        refine ⟨b, o, rfl, ?_, fun j y hj k u hu => ?_⟩
        · have := World.block_lt_of_cell? _ _ hc0
          simpa [Addr.add] using this
        · have hjl : j < len := by have := (List.getElem?_eq_some_iff.1 hj).1; omega
          rw [List.getElem?_map, List.getElem?_range hjl] at hj
          simp only [Option.map_some, Option.some.injEq] at hj
          subst hj
          have ea : ((⟨b, o, none⟩ : Addr).add (j * 16)).add k = ⟨b, o + j * 16 + k, none⟩ := by
            rw [Go.WideShapes.add_plain, Go.WideShapes.add_plain]
          have c0 := (hfe j (by omega)).2 k u hu
          rw [ea] at c0
          exact c0
    · rw [hx.1]
      simp only [Rows.uptoBulk]
      have : (((List.range len).map f).map Jn.bulk).sum ≤ Rows.uptoBulkAll ((List.range len).map D) := by
        have key : ∀ l : List Nat, (∀ i ∈ l, i < m) → ((l.map f).map Jn.bulk).sum ≤ Rows.uptoBulkAll (l.map D) := by
          intro l
          induction l with
          | nil => intro _; simp [Rows.uptoBulkAll]
          | cons i r ih =>
            intro h
            have h1 := ih (fun j hj => h j (List.mem_cons_of_mem _ hj))
            have h2 := (hfe i (h i (List.mem_cons_self ..))).1.2
            simp only [List.map_cons, Rows.uptoBulkAll, List.sum_cons] at h1 ⊢
            omega
        exact key (List.range len) (fun i hi => by have := List.mem_range.1 hi; omega)
      omega
end Go.Proofs.Ytonfdmbcbfpgdaa
