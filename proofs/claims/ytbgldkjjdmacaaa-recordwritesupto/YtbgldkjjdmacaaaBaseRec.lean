/-
  Arguments that are records or configs, opened.
-/
import Derived.Test.YtbgldkjjdmacaaaBase
import Derived.Test.YtbgldkjjdmacaaaRecs
import Derived.Lib.SmallJoins
namespace Go.Proofs.Ytbgldkjjdmacaaa
open Go.ChangeShapes Go.WideShapes Go.ChangeAt Go.RowKit

theorem bulk_mem {H : Type} : ∀ (l : List (DataW H)) (x : DataW H), x ∈ l → Rows.uptoBulk x ≤ Rows.uptoBulkAll l
  | [], _, h => by cases h
  | y :: r, x, h => by
    rw [Rows.uptoBulkAll]
    rcases List.mem_cons.1 h with rfl | h
    · omega
    · have := bulk_mem r x h
      omega
theorem bulk_two {H : Type} : ∀ (l : List (DataW H)) (i : Nat) (x y : DataW H), l[i]? = some x → l[i + 1]? = some y → Rows.uptoBulk x + Rows.uptoBulk y ≤ Rows.uptoBulkAll l
  | [], _, _, _, h, _ => by simp at h
  | z :: r, 0, x, y, h, h2 => by
    simp only [List.getElem?_cons_zero, Option.some.injEq, Nat.zero_add, List.getElem?_cons_succ] at h h2
    subst h
    have := bulk_mem r y (List.mem_of_getElem? h2)
    rw [Rows.uptoBulkAll]
    omega
  | z :: r, i + 1, x, y, h, h2 => by
    have := bulk_two r i x y (by simpa using h) (by simpa using h2)
    rw [Rows.uptoBulkAll]
    omega
set_option maxRecDepth 100000 in
theorem open_config {H : Type} {enc : TypeId × Value → H} {W : World} {base : Nat} {v : Value} {d : DataW H} {p : List MemPlace} (hv : Value.okWide Try.prog W .any base 23 v) (h : DataW.Trod enc Try.prog W 0 (fun _ => true) true 23 v d p) :
    ∃ j s q : Int, v = .agg #[.int .i64 j, .int .i64 s, .int .i64 q] := by
  obtain ⟨cs, rfl, hsz⟩ := okWide_struct Try.underlying23 hv
  obtain ⟨fuel, hf⟩ := h
  obtain ⟨xs, n, _, hx, hl, hlen, hfs⟩ := DataW.trod_struct Try.underlying23 hf
  have hz : Try.prog.cellsOf 23 = 3 := by kernel_rfl
  rw [hz] at hl
  obtain ⟨l⟩ := cs
  match l, hl with
  | [v0, v1, v2], _ =>
    have each : ∀ (i : Nat), i < 3 → ∃ y, xs[i]? = some y := fun i hi => ⟨_, List.getElem?_eq_getElem (by rw [hlen]; exact hi)⟩
    have z3 : Try.prog.cellsOf 3 = 1 := by kernel_rfl
    obtain ⟨y0, e0⟩ := each 0 (by decide)
    have t0 : DataW.trod enc Try.prog W 0 (fun _ => true) true n 3 [v0] = some y0 := by simpa [Value.cells, z3] using (hfs 0 _ rfl).trans e0
    obtain ⟨n0, hc0, _, _⟩ := DataW.trod_int Try.underlying3 t0
    obtain ⟨y1, e1⟩ := each 1 (by decide)
    have t1 : DataW.trod enc Try.prog W 0 (fun _ => true) true n 3 [v1] = some y1 := by simpa [Value.cells, z3] using (hfs 1 _ rfl).trans e1
    obtain ⟨n1, hc1, _, _⟩ := DataW.trod_int Try.underlying3 t1
    obtain ⟨y2, e2⟩ := each 2 (by decide)
    have t2 : DataW.trod enc Try.prog W 0 (fun _ => true) true n 3 [v2] = some y2 := by simpa [Value.cells, z3] using (hfs 2 _ rfl).trans e2
    obtain ⟨n2, hc2, _, _⟩ := DataW.trod_int Try.underlying3 t2
    simp only [List.cons.injEq, and_true] at hc0 hc1 hc2
    subst hc0 hc1 hc2
    exact ⟨n0, n1, n2, rfl⟩

set_option maxRecDepth 100000 in
theorem open_record {H : Type} {enc : TypeId × Value → H} {W : World} {base : Nat} {v : Value} {d : DataW H} {p : List MemPlace} (hv : Value.okWide Try.prog W .any base 34 v) (h : DataW.Trod enc Try.prog W 0 (fun _ => true) true 34 v d p) :
    ∃ (r : Rec) (a : Option Addr) (cap : Nat) (l : List UInt8), v = .agg (recA r (.slice a l.length cap)) ∧ (IsBytes W a cap l ∧ r.tube.length ≤ maxLen ∧ -9223372036854775808 ≤ r.kind ∧ r.kind ≤ 9223372036854775807) ∧ r.tube.length + l.length ≤ Rows.uptoBulk d := by
  obtain ⟨cs, rfl, hsz⟩ := okWide_struct Try.underlying34 hv
  obtain ⟨fuel, hf⟩ := h
  obtain ⟨xs, n, _, hx, hl, hlen, hfs⟩ := DataW.trod_struct Try.underlying34 hf
  have hz : Try.prog.cellsOf 34 = 19 := by kernel_rfl
  rw [hz] at hl
  obtain ⟨l0⟩ := cs
  match l0, hl with
  | [v0, v1, v2, v3, v4, v5, v6, v7, v8, v9, v10, v11, v12, v13, v14, v15, v16, v17, v18], _ =>
    have z3 : Try.prog.cellsOf 3 = 1 := by kernel_rfl
    have z9 : Try.prog.cellsOf 9 = 1 := by kernel_rfl
    have z30 : Try.prog.cellsOf 30 = 1 := by kernel_rfl
    have z29 : Try.prog.cellsOf 29 = 5 := by kernel_rfl
    have z32 : Try.prog.cellsOf 32 = 15 := by kernel_rfl
    have each : ∀ (i : Nat), i < 5 → ∃ y, xs[i]? = some y := fun i hi => ⟨_, List.getElem?_eq_getElem (by rw [hlen]; exact hi)⟩
    obtain ⟨y0, e0⟩ := each 0 (by decide)
    have t0 : DataW.trod enc Try.prog W 0 (fun _ => true) true n 3 [v0] = some y0 := by simpa [Value.cells, z3] using (hfs 0 _ rfl).trans e0
    obtain ⟨n0, hc0, _, w0⟩ := DataW.trod_int Try.underlying3 t0
    obtain ⟨y1, e1⟩ := each 1 (by decide)
    have t1 : DataW.trod enc Try.prog W 0 (fun _ => true) true n 3 [v1] = some y1 := by simpa [Value.cells, z3] using (hfs 1 _ rfl).trans e1
    obtain ⟨n1, hc1, _, w1⟩ := DataW.trod_int Try.underlying3 t1
    obtain ⟨y2, e2⟩ := each 2 (by decide)
    have t2 : DataW.trod enc Try.prog W 0 (fun _ => true) true n 3 [v2] = some y2 := by simpa [Value.cells, z3] using (hfs 2 _ rfl).trans e2
    obtain ⟨n2, hc2, _, w2⟩ := DataW.trod_int Try.underlying3 t2
    obtain ⟨y3, e3⟩ := each 3 (by decide)
    have t3 : DataW.trod enc Try.prog W 0 (fun _ => true) true n 3 [v3] = some y3 := by simpa [Value.cells, z3] using (hfs 3 _ rfl).trans e3
    obtain ⟨n3, hc3, _, w3⟩ := DataW.trod_int Try.underlying3 t3
    obtain ⟨yj, ej⟩ := each 4 (by decide)
    have tj : DataW.trod enc Try.prog W 0 (fun _ => true) true n 32 [v4, v5, v6, v7, v8, v9, v10, v11, v12, v13, v14, v15, v16, v17, v18] = some yj := by simpa [Value.cells, z32] using (hfs 4 _ rfl).trans ej
    obtain ⟨js, m, _, hxj, _, hlenj, hfj⟩ := DataW.trod_struct Try.underlying32 tj
    have eachj : ∀ (i : Nat), i < 11 → ∃ y, js[i]? = some y := fun i hi => ⟨_, List.getElem?_eq_getElem (by rw [hlenj]; exact hi)⟩
    obtain ⟨y4, e4⟩ := eachj 0 (by decide)
    have t4 : DataW.trod enc Try.prog W 0 (fun _ => true) true m 3 [v4] = some y4 := by simpa [z3] using (hfj 0 _ rfl).trans e4
    obtain ⟨n4, hc4, _, _⟩ := DataW.trod_int Try.underlying3 t4
    obtain ⟨y5, e5⟩ := eachj 1 (by decide)
    have t5 : DataW.trod enc Try.prog W 0 (fun _ => true) true m 3 [v5] = some y5 := by simpa [z3] using (hfj 1 _ rfl).trans e5
    obtain ⟨n5, hc5, _, _⟩ := DataW.trod_int Try.underlying3 t5
    obtain ⟨y6, e6⟩ := eachj 2 (by decide)
    have t6 : DataW.trod enc Try.prog W 0 (fun _ => true) true m 3 [v6] = some y6 := by simpa [z3] using (hfj 2 _ rfl).trans e6
    obtain ⟨n6, hc6, _, _⟩ := DataW.trod_int Try.underlying3 t6
    obtain ⟨y7, e7⟩ := eachj 3 (by decide)
    have t7 : DataW.trod enc Try.prog W 0 (fun _ => true) true m 3 [v7] = some y7 := by simpa [z3] using (hfj 3 _ rfl).trans e7
    obtain ⟨n7, hc7, _, _⟩ := DataW.trod_int Try.underlying3 t7
    obtain ⟨y8, e8⟩ := eachj 4 (by decide)
    have t8 : DataW.trod enc Try.prog W 0 (fun _ => true) true m 3 [v8] = some y8 := by simpa [z3] using (hfj 4 _ rfl).trans e8
    obtain ⟨n8, hc8, _, _⟩ := DataW.trod_int Try.underlying3 t8
    obtain ⟨y9, e9⟩ := eachj 5 (by decide)
    have t9 : DataW.trod enc Try.prog W 0 (fun _ => true) true m 3 [v9] = some y9 := by simpa [z3] using (hfj 5 _ rfl).trans e9
    obtain ⟨n9, hc9, _, _⟩ := DataW.trod_int Try.underlying3 t9
    obtain ⟨y10, e10⟩ := eachj 6 (by decide)
    have t10 : DataW.trod enc Try.prog W 0 (fun _ => true) true m 3 [v10] = some y10 := by simpa [z3] using (hfj 6 _ rfl).trans e10
    obtain ⟨n10, hc10, _, _⟩ := DataW.trod_int Try.underlying3 t10
    obtain ⟨y11, e11⟩ := eachj 7 (by decide)
    have t11 : DataW.trod enc Try.prog W 0 (fun _ => true) true m 3 [v11] = some y11 := by simpa [z3] using (hfj 7 _ rfl).trans e11
    obtain ⟨n11, hc11, _, _⟩ := DataW.trod_int Try.underlying3 t11
    obtain ⟨yc, ec⟩ := eachj 8 (by decide)
    have tc : DataW.trod enc Try.prog W 0 (fun _ => true) true m 29 [v12, v13, v14, v15, v16] = some yc := by simpa [z29] using (hfj 8 _ rfl).trans ec
    obtain ⟨ks, q, _, _, _, hlenk, hfk⟩ := DataW.trod_struct Try.underlying29 tc
    have eachk : ∀ (i : Nat), i < 5 → ∃ y, ks[i]? = some y := fun i hi => ⟨_, List.getElem?_eq_getElem (by rw [hlenk]; exact hi)⟩
    obtain ⟨y12, e12⟩ := eachk 0 (by decide)
    have t12 : DataW.trod enc Try.prog W 0 (fun _ => true) true q 3 [v12] = some y12 := by simpa [z3] using (hfk 0 _ rfl).trans e12
    obtain ⟨n12, hc12, _, _⟩ := DataW.trod_int Try.underlying3 t12
    obtain ⟨y13, e13⟩ := eachk 1 (by decide)
    have t13 : DataW.trod enc Try.prog W 0 (fun _ => true) true q 3 [v13] = some y13 := by simpa [z3] using (hfk 1 _ rfl).trans e13
    obtain ⟨n13, hc13, _, _⟩ := DataW.trod_int Try.underlying3 t13
    obtain ⟨y14, e14⟩ := eachk 2 (by decide)
    have t14 : DataW.trod enc Try.prog W 0 (fun _ => true) true q 3 [v14] = some y14 := by simpa [z3] using (hfk 2 _ rfl).trans e14
    obtain ⟨n14, hc14, _, _⟩ := DataW.trod_int Try.underlying3 t14
    obtain ⟨y15, e15⟩ := eachk 3 (by decide)
    have t15 : DataW.trod enc Try.prog W 0 (fun _ => true) true q 3 [v15] = some y15 := by simpa [z3] using (hfk 3 _ rfl).trans e15
    obtain ⟨n15, hc15, _, _⟩ := DataW.trod_int Try.underlying3 t15
    obtain ⟨y16, e16⟩ := eachk 4 (by decide)
    have t16 : DataW.trod enc Try.prog W 0 (fun _ => true) true q 3 [v16] = some y16 := by simpa [z3] using (hfk 4 _ rfl).trans e16
    obtain ⟨n16, hc16, _, _⟩ := DataW.trod_int Try.underlying3 t16
    obtain ⟨y17, e17⟩ := eachj 9 (by decide)
    have t17 : DataW.trod enc Try.prog W 0 (fun _ => true) true m 9 [v17] = some y17 := by simpa [z9] using (hfj 9 _ rfl).trans e17
    obtain ⟨y18, e18⟩ := eachj 10 (by decide)
    have t18 : DataW.trod enc Try.prog W 0 (fun _ => true) true m 30 [v18] = some y18 := by simpa [z30] using (hfj 10 _ rfl).trans e18
    obtain ⟨s, hc17, hy17, hs17⟩ := DataW.trod_string Try.underlying9 t17
    obtain ⟨a, len, cap, hc18⟩ := Go.Joins.slice_form Try.underlying30 t18
    simp only [List.cons.injEq, and_true] at hc0 hc1 hc2 hc3 hc4 hc5 hc6 hc7 hc8 hc9 hc10 hc11 hc12 hc13 hc14 hc15 hc16 hc17 hc18
    subst hc0 hc1 hc2 hc3 hc4 hc5 hc6 hc7 hc8 hc9 hc10 hc11 hc12 hc13 hc14 hc15 hc16 hc17 hc18
    obtain ⟨l, rfl, his, hb⟩ := open_bytes (d := y18.1) (p := y18.2) t18
    have wk := int_bounds w0
    refine ⟨⟨n0, fun f => match f with | 0 => n1 | 1 => n2 | 2 => n3 | 3 => n4 | 4 => n5 | 5 => n6 | 6 => n7 | 7 => n8 | 8 => n9 | 9 => n10 | 10 => n11 | 11 => n12 | 12 => n13 | 13 => n14 | 14 => n15 | _ => n16, s.data.toList⟩, a, cap, l, rfl, ⟨his.1, by simpa using hs17, wk.1, wk.2⟩, ?_⟩
    have hd : d = .agg (xs.map (·.1)) := congrArg Prod.fst hx
    have hj : yj.1 = .agg (js.map (·.1)) := by rw [hxj]
    have hxs : yj.1 ∈ xs.map (·.1) := List.mem_map_of_mem (List.mem_of_getElem? ej)
    have b1 : Rows.uptoBulk yj.1 ≤ Rows.uptoBulk d := by rw [hd, Rows.uptoBulk]; have := bulk_mem _ _ hxs; omega
    have hm17 : y17.1 ∈ js.map (·.1) := List.mem_map_of_mem (List.mem_of_getElem? e17)
    have b2 : Rows.uptoBulk y17.1 + Rows.uptoBulk y18.1 ≤ Rows.uptoBulk yj.1 := by
      rw [hj, Rows.uptoBulk]
      have h9 : (js.map (·.1))[9]? = some y17.1 := by rw [List.getElem?_map, e17]; rfl
      have h10 : (js.map (·.1))[10]? = some y18.1 := by rw [List.getElem?_map, e18]; rfl
      have := bulk_two _ 9 y17.1 y18.1 h9 h10
      omega
    have : Rows.uptoBulk y17.1 = s.data.toList.length + 1 := by rw [hy17]; simp [Rows.uptoBulk]
    simp only []
    omega
end Go.Proofs.Ytbgldkjjdmacaaa
