/-
  Arguments that are bytes or replies, opened.
-/
import Derived.Test.YtienggblpmkjjaaDoorBase
import Derived.Test.YtienggblpmkjjaaDoorReadA
import Derived.Test.YtienggblpmkjjaaDoorInts
import Derived.ChangeSlices
import Derived.Below
import Derived.Lib.SmallJoins
namespace Go.Proofs.YtienggblpmkjjaaDoor
open Go.ChangeShapes Go.WideShapes Go.ChangeAt Go.RowKit

theorem laidOut : laidOutB Tryd.prog = true := by kernel_rfl
theorem bulk_lits {H : Type} (k : IntKind) : ∀ (l : List Int), Rows.uptoBulkAll (lits k l : List (DataW H)) = l.length
  | [] => by simp [lits, Rows.uptoBulkAll]
  | x :: r => by
    have ih := bulk_lits (H := H) k r
    simp only [lits, List.map_cons, Rows.uptoBulkAll, Rows.uptoBulk, List.length_cons] at ih ⊢
    omega

theorem byte_of {n : Int} (h : (Lit.int .u8 n).wf = true) : ((UInt8.ofNat n.toNat).toNat : Int) = n := by
  have hx : 0 ≤ n ∧ n ≤ 255 := by simpa [Lit.wf, IntKind.min, IntKind.max, IntKind.signed, IntKind.bits] using h
  rw [UInt8.toNat_ofNat']
  omega

theorem open_bytes {H : Type} {enc : TypeId × Value → H} {W : World} {a : Option Addr} {len cap fuel : Nat} {d : DataW H} {p : List MemPlace}
    (hf : DataW.trod enc Tryd.prog W 0 (fun _ => true) true fuel 22 (Value.slice a len cap).cells.toList = some (d, p)) :
    ∃ l : List UInt8, l.length = len ∧ (IsBytes W a cap l ∧ (a = none → cap = 0)) ∧ l.length + 1 ≤ Rows.uptoBulk d := by
  rcases open_ints Tryd.underlying22 Tryd.underlying5 (by kernel_rfl) hf with ⟨hcs, hx⟩ | ⟨x, l, c, zs, hcs, _, hl, hm, hz, hx, hcell, hws⟩
  · simp [Value.cells] at hcs
    obtain ⟨rfl, rfl, rfl⟩ := hcs
    simp only [Prod.mk.injEq] at hx
    exact ⟨[], rfl, ⟨⟨by simp, by simp [maxLen], .inl rfl⟩, fun _ => rfl⟩, by rw [hx.1]; simp [Rows.uptoBulk]⟩
  · simp [Value.cells] at hcs
    obtain ⟨rfl, rfl, rfl⟩ := hcs
    simp only [if_true] at hz
    simp only [Prod.mk.injEq] at hx
    have htl : ((zs.take len).map fun n => UInt8.ofNat n.toNat).length = len := by simp; omega
    refine ⟨(zs.take len).map fun n => UInt8.ofNat n.toNat, htl, ⟨⟨by omega, hm, ?_⟩, fun h => by cases h⟩, ?_⟩
    · by_cases h0 : len = 0
      · left; subst h0; simp
      · right
        obtain ⟨b, o, spot⟩ := x
        have hc := hcell 0 (by omega)
        have hspot : spot = none := by simpa [Addr.add] using World.cell?_spot hc
        subst hspot
        refine ⟨b, o, rfl, ?_, fun j y hj => ?_⟩
        · have := World.block_lt_of_cell? _ _ hc
          simpa [Addr.add] using this
        · have hjl : j < len := by have := (List.getElem?_eq_some_iff.1 hj).1; omega
          have hjz : j < zs.length := by omega
          have := hcell j hjz
          rw [List.getElem?_map, List.getElem?_take_of_lt hjl, List.getElem?_eq_getElem hjz] at hj
          simp only [Option.map_some, Option.some.injEq] at hj
          have e : zs.getD j 0 = (y.toNat : Int) := by
            rw [← hj, byte_of (hws _ (List.getElem_mem hjz))]
            simp [List.getD, List.getElem?_eq_getElem hjz]
          rw [e] at this
          cases j with
          | zero => simpa [Addr.add] using this
          | succ j => simpa [Addr.add] using this
    · rw [hx.1, htl]
      simp only [Rows.uptoBulk, bulk_lits]
      simp
      omega
theorem array5 {α : Type} {cs : Array α} (h : cs.size = 5) : ∃ c0 c1 c2 c3 c4, cs = #[c0, c1, c2, c3, c4] := by
  obtain ⟨l⟩ := cs
  match l, h with
  | [c0, c1, c2, c3, c4], _ => exact ⟨c0, c1, c2, c3, c4, rfl⟩

theorem cellsReply : Tryd.prog.cellsOf 24 = 5 := by kernel_rfl
set_option maxRecDepth 1000000 in
/-- A reply that is an argument, opened. -/
theorem open_reply {H : Type} {enc : TypeId × Value → H} {W : World} {base : Nat} {v : Value} {d : DataW H} {p : List MemPlace} (hv : Value.okWide Tryd.prog W .any base 24 v) (h : DataW.Trod enc Tryd.prog W 0 (fun _ => true) true 24 v d p) :
    ∃ (r : Rp) (a : Option Addr) (cap : Nat), v = rpV r (.slice a r.body.length cap) ∧ (IsBytes W a cap r.body ∧ r.tube.length ≤ maxLen) ∧ r.tube.length + r.body.length ≤ Rows.uptoBulk d := by
  obtain ⟨cs, rfl, hsz⟩ := okWide_struct Tryd.underlying24 hv
  obtain ⟨c0, c1, c2, c3, c4, rfl⟩ := array5 (hsz.trans cellsReply)
  obtain ⟨fuel, hf⟩ := h
  obtain ⟨xs, n, _, hx, _, hlen, hfs⟩ := DataW.trod_struct Tryd.underlying24 hf
  have each : ∀ (i : Nat), i < 5 → ∃ y, xs[i]? = some y := fun i hi => ⟨_, List.getElem?_eq_getElem (by rw [hlen]; exact hi)⟩
  obtain ⟨y0, e0⟩ := each 0 (by decide)
  obtain ⟨y1, e1⟩ := each 1 (by decide)
  obtain ⟨y2, e2⟩ := each 2 (by decide)
  obtain ⟨y3, e3⟩ := each 3 (by decide)
  obtain ⟨y4, e4⟩ := each 4 (by decide)
  have z3 : Tryd.prog.cellsOf 3 = 1 := by kernel_rfl
  have z9 : Tryd.prog.cellsOf 9 = 1 := by kernel_rfl
  have z25 : Tryd.prog.cellsOf 22 = 1 := by kernel_rfl
  have t0 : DataW.trod enc Tryd.prog W 0 (fun _ => true) true n 3 [c0] = some y0 := by simpa [Value.cells, z3] using (hfs 0 _ rfl).trans e0
  have t1 : DataW.trod enc Tryd.prog W 0 (fun _ => true) true n 3 [c1] = some y1 := by simpa [Value.cells, z3] using (hfs 1 _ rfl).trans e1
  have t2 : DataW.trod enc Tryd.prog W 0 (fun _ => true) true n 3 [c2] = some y2 := by simpa [Value.cells, z3] using (hfs 2 _ rfl).trans e2
  have t3 : DataW.trod enc Tryd.prog W 0 (fun _ => true) true n 9 [c3] = some y3 := by simpa [Value.cells, z9] using (hfs 3 _ rfl).trans e3
  have t4 : DataW.trod enc Tryd.prog W 0 (fun _ => true) true n 22 [c4] = some y4 := by simpa [Value.cells, z25] using (hfs 4 _ rfl).trans e4
  clear hfs
  obtain ⟨n0, hc0, _, w0⟩ := DataW.trod_int Tryd.underlying3 t0
  obtain ⟨n1, hc1, _, w1⟩ := DataW.trod_int Tryd.underlying3 t1
  obtain ⟨n2, hc2, _, w2⟩ := DataW.trod_int Tryd.underlying3 t2
  obtain ⟨s, hc3, hy3, hs3⟩ := DataW.trod_string Tryd.underlying9 t3
  obtain ⟨a, len, cap, hc4⟩ := Go.Joins.slice_form Tryd.underlying22 t4
  simp only [List.cons.injEq, and_true] at hc0 hc1 hc2 hc3 hc4
  subst hc0 hc1 hc2 hc3 hc4
  obtain ⟨l, rfl, his, hb⟩ := open_bytes (d := y4.1) (p := y4.2) t4
  refine ⟨⟨n0, n1, n2, s.data.toList, l⟩, a, cap, rfl, ⟨his.1, by simpa using hs3⟩, ?_⟩
  have hd : d = .agg (xs.map (·.1)) := congrArg Prod.fst hx
  have hxs : xs = [y0, y1, y2, y3, y4] := by
    match xs, hlen, e0, e1, e2, e3, e4 with
    | [b0, b1, b2, b3, b4], _, e0, e1, e2, e3, e4 =>
      simp at e0 e1 e2 e3 e4
      rw [e0, e1, e2, e3, e4]
  rw [hd, hxs]
  simp only [List.map_cons, List.map_nil, Rows.uptoBulk, Rows.uptoBulkAll]
  have : Rows.uptoBulk y3.1 = s.data.toList.length + 1 := by rw [hy3]; simp [Rows.uptoBulk]
  omega
theorem num_bounds {n : Int} (h : (Lit.int .i64 n).wf = true) : -9223372036854775808 ≤ n ∧ n ≤ 9223372036854775807 := bounds_i64 h
theorem open_nums {H : Type} {enc : TypeId × Value → H} {W : World} {a : Option Addr} {len cap fuel : Nat} {d : DataW H} {p : List MemPlace}
    (hf : DataW.trod enc Tryd.prog W 0 (fun _ => true) true fuel 53 (Value.slice a len cap).cells.toList = some (d, p)) :
    ∃ l : List Int, l.length = len ∧ (IsInts W a cap l ∧ (a = none → cap = 0)) ∧ l.length + 1 ≤ Rows.uptoBulk d := by
  rcases open_ints Tryd.underlying53 Tryd.underlying3 (by kernel_rfl) hf with ⟨hcs, hx⟩ | ⟨x, l, c, zs, hcs, _, hl, hm, hz, hx, hcell, hws⟩
  · simp [Value.cells] at hcs
    obtain ⟨rfl, rfl, rfl⟩ := hcs
    simp only [Prod.mk.injEq] at hx
    exact ⟨[], rfl, ⟨⟨by simp, by simp [maxLen], (by simp), .inl rfl⟩, fun _ => rfl⟩, by rw [hx.1]; simp [Rows.uptoBulk]⟩
  · simp [Value.cells] at hcs
    obtain ⟨rfl, rfl, rfl⟩ := hcs
    simp only [if_true] at hz
    simp only [Prod.mk.injEq] at hx
    have htl : (zs.take len).length = len := by simp; omega
    refine ⟨zs.take len, htl, ⟨⟨by omega, hm, (fun x hx => num_bounds (hws x (List.mem_of_mem_take hx))), ?_⟩, fun h => by cases h⟩, ?_⟩
    · by_cases h0 : len = 0
      · left; subst h0; simp
      · right
        obtain ⟨b, o, spot⟩ := x
        have hc := hcell 0 (by omega)
        have hspot : spot = none := by simpa [Addr.add] using World.cell?_spot hc
        subst hspot
        refine ⟨b, o, rfl, ?_, fun j y hj => ?_⟩
        · have := World.block_lt_of_cell? _ _ hc
          simpa [Addr.add] using this
        · have hjl : j < len := by have := (List.getElem?_eq_some_iff.1 hj).1; omega
          have hjz : j < zs.length := by omega
          have := hcell j hjz
          rw [List.getElem?_take_of_lt hjl, List.getElem?_eq_getElem hjz] at hj
          simp only [Option.some.injEq] at hj
          have e : zs.getD j 0 = y := by
            rw [← hj]
            simp [List.getD, List.getElem?_eq_getElem hjz]
          rw [e] at this
          cases j with
          | zero => simpa [Addr.add] using this
          | succ j => simpa [Addr.add] using this
    · rw [hx.1, htl]
      simp only [Rows.uptoBulk, bulk_lits]
      simp
      omega
end Go.Proofs.YtienggblpmkjjaaDoor
