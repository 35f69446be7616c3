/-
  Arguments that are tubes or jobs, opened.
-/
import Derived.Test.YthapbnlcodkalaaDoorBase
import Derived.Test.YthapbnlcodkalaaDoorInts
import Derived.Test.YthapbnlcodkalaaDoorFigVals
import Derived.ChangeSlices
import Derived.Below
import Derived.Lib.SmallJoins
namespace Go.Proofs.YthapbnlcodkalaaDoor
open Go.ChangeShapes Go.WideShapes Go.ChangeAt Go.RowKit

theorem laidOut : laidOutB Tryd.prog = true := by kernel_rfl
theorem bulk_lits {H : Type} (k : IntKind) : ∀ (l : List Int), Rows.uptoBulkAll (lits k l : List (DataW H)) = l.length
  | [] => by simp [lits, Rows.uptoBulkAll]
  | x :: r => by
    have ih := bulk_lits (H := H) k r
    simp only [lits, List.map_cons, Rows.uptoBulkAll, Rows.uptoBulk, List.length_cons] at ih ⊢
    omega

theorem byte_of {n : Int} (h : (Lit.int .u8 n).wf = true) : ((UInt8.ofNat n.toNat).toNat : Int) = n := by
  have hx : 0 ≤ n ∧ n ≤ 255 := by simpa [Lit.wf, IntKind.min, IntKind.max, IntKind.signed, IntKind.bits] using h
  rw [UInt8.toNat_ofNat']
  omega

theorem open_bytes {H : Type} {enc : TypeId × Value → H} {W : World} {a : Option Addr} {len cap fuel : Nat} {d : DataW H} {p : List MemPlace}
    (hf : DataW.trod enc Tryd.prog W 0 (fun _ => true) true fuel 24 (Value.slice a len cap).cells.toList = some (d, p)) :
    ∃ l : List UInt8, l.length = len ∧ (IsBytes W a cap l ∧ (a = none → cap = 0)) ∧ l.length + 1 ≤ Rows.uptoBulk d := by
  rcases open_ints Tryd.underlying24 Tryd.underlying5 (by kernel_rfl) hf with ⟨hcs, hx⟩ | ⟨x, l, c, zs, hcs, _, hl, hm, hz, hx, hcell, hws⟩
  · simp [Value.cells] at hcs
    obtain ⟨rfl, rfl, rfl⟩ := hcs
    simp only [Prod.mk.injEq] at hx
    exact ⟨[], rfl, ⟨⟨by simp, by simp [maxLen], .inl rfl⟩, fun _ => rfl⟩, by rw [hx.1]; simp [Rows.uptoBulk]⟩
  · simp [Value.cells] at hcs
    obtain ⟨rfl, rfl, rfl⟩ := hcs
    simp only [if_true] at hz
    simp only [Prod.mk.injEq] at hx
    have htl : ((zs.take len).map fun n => UInt8.ofNat n.toNat).length = len := by simp; omega
    refine ⟨(zs.take len).map fun n => UInt8.ofNat n.toNat, htl, ⟨⟨by omega, hm, ?_⟩, fun h => by cases h⟩, ?_⟩
    · by_cases h0 : len = 0
      · left; subst h0; simp
      · right
        obtain ⟨b, o, spot⟩ := x
        have hc := hcell 0 (by omega)
        have hspot : spot = none := by simpa [Addr.add] using World.cell?_spot hc
        subst hspot
        refine ⟨b, o, rfl, ?_, fun j y hj => ?_⟩
        · have := World.block_lt_of_cell? _ _ hc
          simpa [Addr.add] using this
        · have hjl : j < len := by have := (List.getElem?_eq_some_iff.1 hj).1; omega
          have hjz : j < zs.length := by omega
          have := hcell j hjz
          rw [List.getElem?_map, List.getElem?_take_of_lt hjl, List.getElem?_eq_getElem hjz] at hj
          simp only [Option.map_some, Option.some.injEq] at hj
          have e : zs.getD j 0 = (y.toNat : Int) := by
            rw [← hj, byte_of (hws _ (List.getElem_mem hjz))]
            simp [List.getD, List.getElem?_eq_getElem hjz]
          rw [e] at this
          cases j with
          | zero => simpa [Addr.add] using this
          | succ j => simpa [Addr.add] using this
    · rw [hx.1, htl]
      simp only [Rows.uptoBulk, bulk_lits]
      simp
      omega
theorem bulk_mem {H : Type} : ∀ (l : List (DataW H)) (x : DataW H), x ∈ l → Rows.uptoBulk x ≤ Rows.uptoBulkAll l
  | [], _, h => by cases h
  | y :: r, x, h => by
    rw [Rows.uptoBulkAll]
    rcases List.mem_cons.1 h with rfl | h
    · omega
    · have := bulk_mem r x h
      omega
theorem bulk_two {H : Type} : ∀ (l : List (DataW H)) (i : Nat) (x y : DataW H), l[i]? = some x → l[i + 1]? = some y → Rows.uptoBulk x + Rows.uptoBulk y ≤ Rows.uptoBulkAll l
  | [], _, _, _, h, _ => by simp at h
  | z :: r, 0, x, y, h, h2 => by
    simp only [List.getElem?_cons_zero, Option.some.injEq, Nat.zero_add, List.getElem?_cons_succ] at h h2
    subst h
    have := bulk_mem r y (List.mem_of_getElem? h2)
    rw [Rows.uptoBulkAll]
    omega
  | z :: r, i + 1, x, y, h, h2 => by
    simp only [List.getElem?_cons_succ] at h h2
    have := bulk_two r i x y h h2
    rw [Rows.uptoBulkAll]
    omega
set_option maxRecDepth 100000 in
theorem open_tube {H : Type} {enc : TypeId × Value → H} {W : World} {base : Nat} {v : Value} {d : DataW H} {p : List MemPlace} (hv : Value.okWide Tryd.prog W .any base 38 v) (h : DataW.Trod enc Tryd.prog W 0 (fun _ => true) true 38 v d p) :
    ∃ t : Tb, v = .agg t.cells ∧ t.ok ∧ t.nm.size ≤ Rows.uptoBulk d := by
  obtain ⟨cs, rfl, hsz⟩ := okWide_struct Tryd.underlying38 hv
  obtain ⟨fuel, hf⟩ := h
  obtain ⟨xs, n, _, hx, hl, hlen, hfs⟩ := DataW.trod_struct Tryd.underlying38 hf
  have hz : Tryd.prog.cellsOf 38 = 14 := by kernel_rfl
  rw [hz] at hl
  obtain ⟨l0⟩ := cs
  match l0, hl with
  | [v0, v1, v2, v3, v4, v5, v6, v7, v8, v9, v10, v11, v12, v13], _ =>
    have z3 : Tryd.prog.cellsOf 3 = 1 := by kernel_rfl
    have z9 : Tryd.prog.cellsOf 9 = 1 := by kernel_rfl
    have z36 : Tryd.prog.cellsOf 36 = 5 := by kernel_rfl
    have each : ∀ (i : Nat), i < 10 → ∃ y, xs[i]? = some y := fun i hi => ⟨_, List.getElem?_eq_getElem (by rw [hlen]; exact hi)⟩
    obtain ⟨y0, e0⟩ := each 0 (by decide)
    have t0 : DataW.trod enc Tryd.prog W 0 (fun _ => true) true n 9 [v0] = some y0 := by simpa [Value.cells, z9] using (hfs 0 _ rfl).trans e0
    obtain ⟨s, hc0, hy0, _⟩ := DataW.trod_string Tryd.underlying9 t0
    obtain ⟨yc, ec⟩ := each 1 (by decide)
    have tc : DataW.trod enc Tryd.prog W 0 (fun _ => true) true n 36 [v1, v2, v3, v4, v5] = some yc := by simpa [Value.cells, z36] using (hfs 1 _ rfl).trans ec
    obtain ⟨ks, q, _, _, _, hlenk, hfk⟩ := DataW.trod_struct Tryd.underlying36 tc
    have eachk : ∀ (i : Nat), i < 5 → ∃ y, ks[i]? = some y := fun i hi => ⟨_, List.getElem?_eq_getElem (by rw [hlenk]; exact hi)⟩
    obtain ⟨y1, e1⟩ := eachk 0 (by decide)
    have t1 : DataW.trod enc Tryd.prog W 0 (fun _ => true) true q 3 [v1] = some y1 := by simpa [z3] using (hfk 0 _ rfl).trans e1
    obtain ⟨n1, hc1, _, w1⟩ := DataW.trod_int Tryd.underlying3 t1
    obtain ⟨y2, e2⟩ := eachk 1 (by decide)
    have t2 : DataW.trod enc Tryd.prog W 0 (fun _ => true) true q 3 [v2] = some y2 := by simpa [z3] using (hfk 1 _ rfl).trans e2
    obtain ⟨n2, hc2, _, w2⟩ := DataW.trod_int Tryd.underlying3 t2
    obtain ⟨y3, e3⟩ := eachk 2 (by decide)
    have t3 : DataW.trod enc Tryd.prog W 0 (fun _ => true) true q 3 [v3] = some y3 := by simpa [z3] using (hfk 2 _ rfl).trans e3
    obtain ⟨n3, hc3, _, w3⟩ := DataW.trod_int Tryd.underlying3 t3
    obtain ⟨y4, e4⟩ := eachk 3 (by decide)
    have t4 : DataW.trod enc Tryd.prog W 0 (fun _ => true) true q 3 [v4] = some y4 := by simpa [z3] using (hfk 3 _ rfl).trans e4
    obtain ⟨n4, hc4, _, w4⟩ := DataW.trod_int Tryd.underlying3 t4
    obtain ⟨y5, e5⟩ := eachk 4 (by decide)
    have t5 : DataW.trod enc Tryd.prog W 0 (fun _ => true) true q 3 [v5] = some y5 := by simpa [z3] using (hfk 4 _ rfl).trans e5
    obtain ⟨n5, hc5, _, w5⟩ := DataW.trod_int Tryd.underlying3 t5
    obtain ⟨y6, e6⟩ := each 2 (by decide)
    have t6 : DataW.trod enc Tryd.prog W 0 (fun _ => true) true n 3 [v6] = some y6 := by simpa [Value.cells, z3] using (hfs 2 _ rfl).trans e6
    obtain ⟨n6, hc6, _, w6⟩ := DataW.trod_int Tryd.underlying3 t6
    obtain ⟨y7, e7⟩ := each 3 (by decide)
    have t7 : DataW.trod enc Tryd.prog W 0 (fun _ => true) true n 3 [v7] = some y7 := by simpa [Value.cells, z3] using (hfs 3 _ rfl).trans e7
    obtain ⟨n7, hc7, _, w7⟩ := DataW.trod_int Tryd.underlying3 t7
    obtain ⟨y8, e8⟩ := each 4 (by decide)
    have t8 : DataW.trod enc Tryd.prog W 0 (fun _ => true) true n 3 [v8] = some y8 := by simpa [Value.cells, z3] using (hfs 4 _ rfl).trans e8
    obtain ⟨n8, hc8, _, w8⟩ := DataW.trod_int Tryd.underlying3 t8
    obtain ⟨y9, e9⟩ := each 5 (by decide)
    have t9 : DataW.trod enc Tryd.prog W 0 (fun _ => true) true n 3 [v9] = some y9 := by simpa [Value.cells, z3] using (hfs 5 _ rfl).trans e9
    obtain ⟨n9, hc9, _, w9⟩ := DataW.trod_int Tryd.underlying3 t9
    obtain ⟨y10, e10⟩ := each 6 (by decide)
    have t10 : DataW.trod enc Tryd.prog W 0 (fun _ => true) true n 3 [v10] = some y10 := by simpa [Value.cells, z3] using (hfs 6 _ rfl).trans e10
    obtain ⟨n10, hc10, _, w10⟩ := DataW.trod_int Tryd.underlying3 t10
    obtain ⟨y11, e11⟩ := each 7 (by decide)
    have t11 : DataW.trod enc Tryd.prog W 0 (fun _ => true) true n 3 [v11] = some y11 := by simpa [Value.cells, z3] using (hfs 7 _ rfl).trans e11
    obtain ⟨n11, hc11, _, w11⟩ := DataW.trod_int Tryd.underlying3 t11
    obtain ⟨y12, e12⟩ := each 8 (by decide)
    have t12 : DataW.trod enc Tryd.prog W 0 (fun _ => true) true n 3 [v12] = some y12 := by simpa [Value.cells, z3] using (hfs 8 _ rfl).trans e12
    obtain ⟨n12, hc12, _, w12⟩ := DataW.trod_int Tryd.underlying3 t12
    obtain ⟨y13, e13⟩ := each 9 (by decide)
    have t13 : DataW.trod enc Tryd.prog W 0 (fun _ => true) true n 3 [v13] = some y13 := by simpa [Value.cells, z3] using (hfs 9 _ rfl).trans e13
    obtain ⟨n13, hc13, _, w13⟩ := DataW.trod_int Tryd.underlying3 t13
    simp only [List.cons.injEq, and_true] at hc0 hc1 hc2 hc3 hc4 hc5 hc6 hc7 hc8 hc9 hc10 hc11 hc12 hc13
    subst hc0 hc1 hc2 hc3 hc4 hc5 hc6 hc7 hc8 hc9 hc10 hc11 hc12 hc13
    refine ⟨⟨s, n1, n2, n3, n4, n5, n6, n7, n8, n9, n10, n11, n12, n13⟩, rfl, ⟨int_bounds w1, int_bounds w2, int_bounds w3, int_bounds w4, int_bounds w5, int_bounds w6, int_bounds w7, int_bounds w8, int_bounds w9, int_bounds w10, int_bounds w11, int_bounds w12, int_bounds w13⟩, ?_⟩
    have hd : d = .agg (xs.map (·.1)) := congrArg Prod.fst hx
    have hm : y0.1 ∈ xs.map (·.1) := List.mem_map_of_mem (List.mem_of_getElem? e0)
    have b1 : Rows.uptoBulk y0.1 ≤ Rows.uptoBulk d := by rw [hd, Rows.uptoBulk]; have := bulk_mem _ _ hm; omega
    have : Rows.uptoBulk y0.1 = s.data.toList.length + 1 := by rw [hy0]; simp [Rows.uptoBulk]
    have e : s.data.toList.length = s.size := by simp
    show s.size ≤ _
    omega
set_option maxRecDepth 100000 in
theorem open_job {H : Type} {enc : TypeId × Value → H} {W : World} {base : Nat} {v : Value} {d : DataW H} {p : List MemPlace} (hv : Value.okWide Tryd.prog W .any base 26 v) (h : DataW.Trod enc Tryd.prog W 0 (fun _ => true) true 26 v d p) :
    ∃ (j : Jb) (a : Option Addr) (cap : Nat) (l : List UInt8), v = .agg (j.cells (.slice a l.length cap)) ∧ (IsBytes W a cap l ∧ j.ok) ∧ j.nm.size + l.length ≤ Rows.uptoBulk d := by
  obtain ⟨cs, rfl, hsz⟩ := okWide_struct Tryd.underlying26 hv
  obtain ⟨fuel, hf⟩ := h
  obtain ⟨xs, n, _, hx, hl, hlen, hfs⟩ := DataW.trod_struct Tryd.underlying26 hf
  have hz : Tryd.prog.cellsOf 26 = 16 := by kernel_rfl
  rw [hz] at hl
  obtain ⟨l0⟩ := cs
  match l0, hl with
  | [v0, v1, v2, v3, v4, v5, v6, v7, v8, v9, v10, v11, v12, v13, v14, v15], _ =>
    have z3 : Tryd.prog.cellsOf 3 = 1 := by kernel_rfl
    have z9 : Tryd.prog.cellsOf 9 = 1 := by kernel_rfl
    have z24 : Tryd.prog.cellsOf 24 = 1 := by kernel_rfl
    have z23 : Tryd.prog.cellsOf 23 = 5 := by kernel_rfl
    have each : ∀ (i : Nat), i < 12 → ∃ y, xs[i]? = some y := fun i hi => ⟨_, List.getElem?_eq_getElem (by rw [hlen]; exact hi)⟩
    obtain ⟨y0, e0⟩ := each 0 (by decide)
    have t0 : DataW.trod enc Tryd.prog W 0 (fun _ => true) true n 3 [v0] = some y0 := by simpa [Value.cells, z3] using (hfs 0 _ rfl).trans e0
    obtain ⟨n0, hc0, _, w0⟩ := DataW.trod_int Tryd.underlying3 t0
    obtain ⟨y1, e1⟩ := each 1 (by decide)
    have t1 : DataW.trod enc Tryd.prog W 0 (fun _ => true) true n 3 [v1] = some y1 := by simpa [Value.cells, z3] using (hfs 1 _ rfl).trans e1
    obtain ⟨n1, hc1, _, w1⟩ := DataW.trod_int Tryd.underlying3 t1
    obtain ⟨y2, e2⟩ := each 2 (by decide)
    have t2 : DataW.trod enc Tryd.prog W 0 (fun _ => true) true n 3 [v2] = some y2 := by simpa [Value.cells, z3] using (hfs 2 _ rfl).trans e2
    obtain ⟨n2, hc2, _, w2⟩ := DataW.trod_int Tryd.underlying3 t2
    obtain ⟨y3, e3⟩ := each 3 (by decide)
    have t3 : DataW.trod enc Tryd.prog W 0 (fun _ => true) true n 3 [v3] = some y3 := by simpa [Value.cells, z3] using (hfs 3 _ rfl).trans e3
    obtain ⟨n3, hc3, _, w3⟩ := DataW.trod_int Tryd.underlying3 t3
    obtain ⟨y4, e4⟩ := each 4 (by decide)
    have t4 : DataW.trod enc Tryd.prog W 0 (fun _ => true) true n 3 [v4] = some y4 := by simpa [Value.cells, z3] using (hfs 4 _ rfl).trans e4
    obtain ⟨n4, hc4, _, w4⟩ := DataW.trod_int Tryd.underlying3 t4
    obtain ⟨y5, e5⟩ := each 5 (by decide)
    have t5 : DataW.trod enc Tryd.prog W 0 (fun _ => true) true n 3 [v5] = some y5 := by simpa [Value.cells, z3] using (hfs 5 _ rfl).trans e5
    obtain ⟨n5, hc5, _, w5⟩ := DataW.trod_int Tryd.underlying3 t5
    obtain ⟨y6, e6⟩ := each 6 (by decide)
    have t6 : DataW.trod enc Tryd.prog W 0 (fun _ => true) true n 3 [v6] = some y6 := by simpa [Value.cells, z3] using (hfs 6 _ rfl).trans e6
    obtain ⟨n6, hc6, _, w6⟩ := DataW.trod_int Tryd.underlying3 t6
    obtain ⟨y7, e7⟩ := each 7 (by decide)
    have t7 : DataW.trod enc Tryd.prog W 0 (fun _ => true) true n 3 [v7] = some y7 := by simpa [Value.cells, z3] using (hfs 7 _ rfl).trans e7
    obtain ⟨n7, hc7, _, w7⟩ := DataW.trod_int Tryd.underlying3 t7
    obtain ⟨y8, e8⟩ := each 8 (by decide)
    have t8 : DataW.trod enc Tryd.prog W 0 (fun _ => true) true n 3 [v8] = some y8 := by simpa [Value.cells, z3] using (hfs 8 _ rfl).trans e8
    obtain ⟨n8, hc8, _, w8⟩ := DataW.trod_int Tryd.underlying3 t8
    obtain ⟨yc, ec⟩ := each 9 (by decide)
    have tc : DataW.trod enc Tryd.prog W 0 (fun _ => true) true n 23 [v9, v10, v11, v12, v13] = some yc := by simpa [Value.cells, z23] using (hfs 9 _ rfl).trans ec
    obtain ⟨ks, q, _, _, _, hlenk, hfk⟩ := DataW.trod_struct Tryd.underlying23 tc
    have eachk : ∀ (i : Nat), i < 5 → ∃ y, ks[i]? = some y := fun i hi => ⟨_, List.getElem?_eq_getElem (by rw [hlenk]; exact hi)⟩
    obtain ⟨y9, e9⟩ := eachk 0 (by decide)
    have t9 : DataW.trod enc Tryd.prog W 0 (fun _ => true) true q 3 [v9] = some y9 := by simpa [z3] using (hfk 0 _ rfl).trans e9
    obtain ⟨n9, hc9, _, w9⟩ := DataW.trod_int Tryd.underlying3 t9
    obtain ⟨y10, e10⟩ := eachk 1 (by decide)
    have t10 : DataW.trod enc Tryd.prog W 0 (fun _ => true) true q 3 [v10] = some y10 := by simpa [z3] using (hfk 1 _ rfl).trans e10
    obtain ⟨n10, hc10, _, w10⟩ := DataW.trod_int Tryd.underlying3 t10
    obtain ⟨y11, e11⟩ := eachk 2 (by decide)
    have t11 : DataW.trod enc Tryd.prog W 0 (fun _ => true) true q 3 [v11] = some y11 := by simpa [z3] using (hfk 2 _ rfl).trans e11
    obtain ⟨n11, hc11, _, w11⟩ := DataW.trod_int Tryd.underlying3 t11
    obtain ⟨y12, e12⟩ := eachk 3 (by decide)
    have t12 : DataW.trod enc Tryd.prog W 0 (fun _ => true) true q 3 [v12] = some y12 := by simpa [z3] using (hfk 3 _ rfl).trans e12
    obtain ⟨n12, hc12, _, w12⟩ := DataW.trod_int Tryd.underlying3 t12
    obtain ⟨y13, e13⟩ := eachk 4 (by decide)
    have t13 : DataW.trod enc Tryd.prog W 0 (fun _ => true) true q 3 [v13] = some y13 := by simpa [z3] using (hfk 4 _ rfl).trans e13
    obtain ⟨n13, hc13, _, w13⟩ := DataW.trod_int Tryd.underlying3 t13
    obtain ⟨y14, e14⟩ := each 10 (by decide)
    have t14 : DataW.trod enc Tryd.prog W 0 (fun _ => true) true n 9 [v14] = some y14 := by simpa [Value.cells, z9] using (hfs 10 _ rfl).trans e14
    obtain ⟨y15, e15⟩ := each 11 (by decide)
    have t15 : DataW.trod enc Tryd.prog W 0 (fun _ => true) true n 24 [v15] = some y15 := by simpa [Value.cells, z24] using (hfs 11 _ rfl).trans e15
    obtain ⟨s, hc14, hy14, _⟩ := DataW.trod_string Tryd.underlying9 t14
    obtain ⟨a, len, cap, hc15⟩ := Go.Joins.slice_form Tryd.underlying24 t15
    simp only [List.cons.injEq, and_true] at hc0 hc1 hc2 hc3 hc4 hc5 hc6 hc7 hc8 hc9 hc10 hc11 hc12 hc13 hc14 hc15
    subst hc0 hc1 hc2 hc3 hc4 hc5 hc6 hc7 hc8 hc9 hc10 hc11 hc12 hc13 hc14 hc15
    obtain ⟨l, rfl, his, hb⟩ := open_bytes (d := y15.1) (p := y15.2) t15
    refine ⟨⟨n0, n1, n2, n3, n4, n5, n6, n7, n8, n9, n10, n11, n12, n13, s⟩, a, cap, l, rfl, ⟨his.1, int_bounds w0, int_bounds w1, int_bounds w2, int_bounds w3, int_bounds w4, int_bounds w5, int_bounds w6, int_bounds w7, int_bounds w8, int_bounds w9, int_bounds w10, int_bounds w11, int_bounds w12, int_bounds w13⟩, ?_⟩
    have hd : d = .agg (xs.map (·.1)) := congrArg Prod.fst hx
    have b2 : Rows.uptoBulk y14.1 + Rows.uptoBulk y15.1 ≤ Rows.uptoBulk d := by
      rw [hd, Rows.uptoBulk]
      have h9 : (xs.map (·.1))[10]? = some y14.1 := by rw [List.getElem?_map, e14]; rfl
      have h10 : (xs.map (·.1))[11]? = some y15.1 := by rw [List.getElem?_map, e15]; rfl
      have := bulk_two _ 10 y14.1 y15.1 h9 h10
      omega
    have : Rows.uptoBulk y14.1 = s.data.toList.length + 1 := by rw [hy14]; simp [Rows.uptoBulk]
    have e : s.data.toList.length = s.size := by simp
    show s.size + l.length ≤ _
    omega
end Go.Proofs.YthapbnlcodkalaaDoor
