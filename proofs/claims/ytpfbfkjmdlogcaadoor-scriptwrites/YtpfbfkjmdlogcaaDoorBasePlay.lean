/-
  An argument that is a play, opened.
-/
import Derived.Test.YtpfbfkjmdlogcaaDoorBase
import Derived.Test.YtpfbfkjmdlogcaaDoorPrintS
import Derived.ChangeSlices
import Derived.Below
import Derived.Lib.SmallJoins
import Derived.Deep.Slices
namespace Go.Proofs.YtpfbfkjmdlogcaaDoor
open Go.ChangeShapes Go.WideShapes Go.ChangeAt Go.RowKit

theorem laidOut : laidOutB Tryd.prog = true := by kernel_rfl
theorem byte_of {n : Int} (h : (Lit.int .u8 n).wf = true) : ((UInt8.ofNat n.toNat).toNat : Int) = n := by
  have hx : 0 ≤ n ∧ n ≤ 255 := by simpa [Lit.wf, IntKind.min, IntKind.max, IntKind.signed, IntKind.bits] using h
  rw [UInt8.toNat_ofNat']
  omega
theorem open_bytes {H : Type} {enc : TypeId × Value → H} {W : World} {a : Option Addr} {len cap fuel : Nat} {d : DataW H} {p : List MemPlace}
    (hf : DataW.trod enc Tryd.prog W 0 (fun _ => true) true fuel 41 (Value.slice a len cap).cells.toList = some (d, p)) :
    ∃ l : List UInt8, l.length = len ∧ IsBytes W a cap l := by
  rcases open_ints Tryd.underlying41 Tryd.underlying5 (by kernel_rfl) hf with ⟨hcs, hx⟩ | ⟨x, l, c, zs, hcs, _, hl, hm, hz, hx, hcell, hws⟩
  · simp [Value.cells] at hcs
    obtain ⟨rfl, rfl, rfl⟩ := hcs
    exact ⟨[], rfl, ⟨by simp, by simp [maxLen], .inl rfl⟩⟩
  · simp [Value.cells] at hcs
    obtain ⟨rfl, rfl, rfl⟩ := hcs
    simp only [if_true] at hz
    have htl : ((zs.take len).map fun n => UInt8.ofNat n.toNat).length = len := by simp; omega
    refine ⟨(zs.take len).map fun n => UInt8.ofNat n.toNat, htl, ⟨by omega, hm, ?_⟩⟩
    by_cases h0 : len = 0
    · left; subst h0; simp
    · right
      obtain ⟨b, o, spot⟩ := x
      have hc := hcell 0 (by omega)
      have hspot : spot = none := by simpa [Addr.add] using World.cell?_spot hc
      subst hspot
      refine ⟨b, o, rfl, ?_, fun j y hj => ?_⟩
      · have := World.block_lt_of_cell? _ _ hc
        simpa [Addr.add] using this
      · have hjl : j < len := by have := (List.getElem?_eq_some_iff.1 hj).1; omega
        have hjz : j < zs.length := by omega
        have := hcell j hjz
        rw [List.getElem?_map, List.getElem?_take_of_lt hjl, List.getElem?_eq_getElem hjz] at hj
        simp only [Option.map_some, Option.some.injEq] at hj
        have e : zs.getD j 0 = (y.toNat : Int) := by
          rw [← hj, byte_of (hws _ (List.getElem_mem hjz))]
          simp [List.getD, List.getElem?_eq_getElem hjz]
        rw [e] at this
        cases j with
        | zero => simpa [Addr.add] using this
        | succ j => simpa [Addr.add] using this
theorem open_nums {H : Type} {enc : TypeId × Value → H} {W : World} {a : Option Addr} {len cap fuel : Nat} {d : DataW H} {p : List MemPlace}
    (hf : DataW.trod enc Tryd.prog W 0 (fun _ => true) true fuel 42 (Value.slice a len cap).cells.toList = some (d, p)) :
    ∃ l : List Int, l.length = len ∧ IsInts W a cap l := by
  rcases open_ints Tryd.underlying42 Tryd.underlying3 (by kernel_rfl) hf with ⟨hcs, hx⟩ | ⟨x, l, c, zs, hcs, _, hl, hm, hz, hx, hcell, hws⟩
  · simp [Value.cells] at hcs
    obtain ⟨rfl, rfl, rfl⟩ := hcs
    exact ⟨[], rfl, ⟨by simp, by simp, .inl rfl⟩⟩
  · simp [Value.cells] at hcs
    obtain ⟨rfl, rfl, rfl⟩ := hcs
    simp only [if_true] at hz
    have htl : (zs.take len).length = len := by simp; omega
    refine ⟨zs.take len, htl, ⟨by omega, by omega, ?_⟩⟩
    by_cases h0 : len = 0
    · left; subst h0; simp
    · right
      obtain ⟨b, o, spot⟩ := x
      have hc := hcell 0 (by omega)
      have hspot : spot = none := by simpa [Addr.add] using World.cell?_spot hc
      subst hspot
      refine ⟨b, o, rfl, ?_, fun j y hj => ?_⟩
      · have := World.block_lt_of_cell? _ _ hc
        simpa [Addr.add] using this
      · have hjl : j < len := by have := (List.getElem?_eq_some_iff.1 hj).1; omega
        have hjz : j < zs.length := by omega
        have := hcell j hjz
        rw [List.getElem?_take_of_lt hjl, List.getElem?_eq_getElem hjz] at hj
        have e : zs.getD j 0 = y := by
          simp only [Option.some.injEq] at hj
          rw [← hj]
          simp [List.getD, List.getElem?_eq_getElem hjz]
        rw [e] at this
        cases j with
        | zero => simpa [Addr.add] using this
        | succ j => simpa [Addr.add] using this
set_option maxRecDepth 100000 in
theorem open_step {H : Type} {enc : TypeId × Value → H} {W : World} {n : Nat} {cs : List Value} {x : DataW H × List MemPlace}
    (h : DataW.trod enc Tryd.prog W 0 (fun _ => true) true n 44 cs = some x) : ∃ y : Sq, cs = sqCells y ∧ StepIn W y.p y.dv y.kv := by
  obtain ⟨xs, k, _, hx, hl, hlen, hfs⟩ := DataW.trod_struct Tryd.underlying44 h
  have hc : Tryd.prog.cellsOf 44 = 5 := by kernel_rfl
  rw [hc] at hl
  match cs, hl with
  | [v0, v1, v2, v3, v4], _ =>
    have each : ∀ (i : Nat), i < 5 → ∃ y, xs[i]? = some y := fun i hi => ⟨_, List.getElem?_eq_getElem (by rw [hlen]; exact hi)⟩
    obtain ⟨x0, e0⟩ := each 0 (by decide)
    obtain ⟨x1, e1⟩ := each 1 (by decide)
    obtain ⟨x2, e2⟩ := each 2 (by decide)
    obtain ⟨x3, e3⟩ := each 3 (by decide)
    obtain ⟨x4, e4⟩ := each 4 (by decide)
    have hci : Tryd.prog.cellsOf 3 = 1 := by kernel_rfl
    have hcb : Tryd.prog.cellsOf 41 = 1 := by kernel_rfl
    have hcn : Tryd.prog.cellsOf 42 = 1 := by kernel_rfl
    have t0 : DataW.trod enc Tryd.prog W 0 (fun _ => true) true k 3 [v0] = some x0 := by simpa [hci] using (hfs 0 _ rfl).trans e0
    have t1 : DataW.trod enc Tryd.prog W 0 (fun _ => true) true k 3 [v1] = some x1 := by simpa [hci] using (hfs 1 _ rfl).trans e1
    have t2 : DataW.trod enc Tryd.prog W 0 (fun _ => true) true k 41 [v2] = some x2 := by simpa [hcb] using (hfs 2 _ rfl).trans e2
    have t3 : DataW.trod enc Tryd.prog W 0 (fun _ => true) true k 3 [v3] = some x3 := by simpa [hci] using (hfs 3 _ rfl).trans e3
    have t4 : DataW.trod enc Tryd.prog W 0 (fun _ => true) true k 42 [v4] = some x4 := by simpa [hcn] using (hfs 4 _ rfl).trans e4
    obtain ⟨a0, r0, _, f0⟩ := DataW.trod_int Tryd.underlying3 t0
    obtain ⟨a1, r1, _, f1⟩ := DataW.trod_int Tryd.underlying3 t1
    obtain ⟨a3, r3, _, f3⟩ := DataW.trod_int Tryd.underlying3 t3
    obtain ⟨ad, ld, cd, r2⟩ := Go.Joins.slice_form Tryd.underlying41 t2
    obtain ⟨ak, lk, ck, r4⟩ := Go.Joins.slice_form Tryd.underlying42 t4
    simp only [List.cons.injEq, and_true] at r0 r1 r2 r3 r4
    subst r0 r1 r2 r3 r4
    obtain ⟨y2, rfl, i2⟩ := open_bytes (d := x2.1) (p := x2.2) t2
    obtain ⟨y4, rfl, i4⟩ := open_nums (d := x4.1) (p := x4.2) t4
    exact ⟨⟨⟨a0, a1, y2, a3, y4⟩, _, _⟩, rfl, ⟨⟨ad, cd, rfl, i2⟩, ak, ck, rfl, i4⟩⟩
theorem flat_of (l : List Sq) (j : Nat) (v : Value) (h : (flatS l)[j]? = some v) : ∃ x, l[j / 5]? = some x ∧ (sqCells x)[j % 5]? = some v := by
  induction l generalizing j with
  | nil => simp [flatS] at h
  | cons a l ih =>
    have h : (sqCells a ++ flatS l)[j]? = some v := h
    have hla : (sqCells a).length = 5 := rfl
    by_cases hj : j < 5
    · rw [List.getElem?_append_left (by omega)] at h
      exact ⟨a, by rw [Nat.div_eq_of_lt hj]; rfl, by rw [Nat.mod_eq_of_lt hj]; exact h⟩
    · rw [List.getElem?_append_right (by omega), hla] at h
      obtain ⟨x, h1, h2⟩ := ih _ h
      exact ⟨x, by rw [show j / 5 = (j - 5) / 5 + 1 by omega]; exact h1, by rw [show j % 5 = (j - 5) % 5 by omega]; exact h2⟩
set_option maxRecDepth 100000 in
theorem open_steps {H : Type} {enc : TypeId × Value → H} {W : World} {a : Option Addr} {len cap fuel : Nat} {d : DataW H} {p : List MemPlace}
    (hf : DataW.trod enc Tryd.prog W 0 (fun _ => true) true fuel 29 (Value.slice a len cap).cells.toList = some (d, p)) :
    ∃ l : List Sq, l.length = len ∧ PlayIn W (.slice a len cap) l := by
  rcases Go.Deep.open_slice Tryd.underlying29 hf with ⟨hcs, hx⟩ | ⟨x, l, c, m, n, D, Pl, hcs, _, hl, hm, hmm, hx, hcell⟩
  · simp [Value.cells] at hcs
    obtain ⟨rfl, rfl, rfl⟩ := hcs
    exact ⟨[], rfl, ⟨⟨none, 0, rfl, by simp, .inl rfl⟩, fun _ h => by cases h⟩⟩
  · simp [Value.cells] at hcs
    obtain ⟨rfl, rfl, rfl⟩ := hcs
    simp only [if_true] at hmm
    subst hmm
    have hc : Tryd.prog.cellsOf 44 = 5 := by kernel_rfl
    have : Inhabited Sq := ⟨⟨⟨0, 0, [], 0, []⟩, .int .i64 0, .int .i64 0⟩⟩
    obtain ⟨y, hy⟩ := Deep.choose_lt (α := Sq) (p := fun i y => StepIn W y.p y.dv y.kv ∧ ∀ k u, (sqCells y)[k]? = some u → W.cell? ((x.add (i * 5)).add k) = some u) (fun i hi => by
      obtain ⟨cs', h1, h2⟩ := hcell i hi
      rw [hc] at h1
      obtain ⟨_, hlen, hce⟩ := World.cells?_some h1
      obtain ⟨y, rfl, hs⟩ := open_step h2
      exact ⟨y, hs, fun k u hu => (hce k (by have := (List.getElem?_eq_some_iff.1 hu).1; exact this)).trans hu⟩)
    refine ⟨(List.range len).map y, by simp, ⟨⟨some x, m, by simp, by simp; omega, ?_⟩, fun z hz => ?_⟩⟩
    · by_cases h0 : len = 0
      · left; subst h0; simp
      · right
        obtain ⟨b, o, spot⟩ := x
        obtain ⟨_, hk0⟩ := hy 0 (by omega)
        have hc0 := hk0 0 _ rfl
        have hspot : spot = none := by simpa [Addr.add] using World.cell?_spot hc0
        subst hspot
        refine ⟨b, o, rfl, ?_, fun i v hv => ?_⟩
        · have := World.block_lt_of_cell? _ _ hc0
          simpa [Addr.add] using this
        · obtain ⟨z, h1, h2⟩ := flat_of _ i v hv
          have hjl : i / 5 < len := by have := (List.getElem?_eq_some_iff.1 h1).1; simpa using this
          rw [List.getElem?_map, List.getElem?_range hjl] at h1
          simp only [Option.map_some, Option.some.injEq] at h1
          subst h1
          have := (hy (i / 5) (by omega)).2 _ _ h2
          have ea : ((⟨b, o, none⟩ : Addr).add (i / 5 * 5)).add (i % 5) = ⟨b, o + i, none⟩ := by
            have e : o + i / 5 * 5 + i % 5 = o + i := by omega
            unfold Addr.add
            split <;> split <;> simp_all <;> omega
          rwa [ea] at this
    · obtain ⟨i, hi, rfl⟩ := List.mem_map.1 hz
      exact (hy i (by have := List.mem_range.1 hi; omega)).1
theorem array4 {α : Type} {cs : Array α} (h : cs.size = 4) : ∃ c0 c1 c2 c3, cs = #[c0, c1, c2, c3] := by
  obtain ⟨l⟩ := cs
  match l, h with
  | [c0, c1, c2, c3], _ => exact ⟨c0, c1, c2, c3, rfl⟩
set_option maxRecDepth 100000 in
/-- A play that is an argument, opened. -/
theorem open_play {H : Type} {enc : TypeId × Value → H} {W : World} {base : Nat} {v : Value} {d : DataW H} {p : List MemPlace} (hv : Value.okWide Tryd.prog W .any base 31 v) (h : DataW.Trod enc Tryd.prog W 0 (fun _ => true) true 31 v d p) :
    ∃ (j s q : Int) (a : Option Addr) (c : Nat) (l : List Sq), v = .agg #[.int .i64 j, .int .i64 s, .int .i64 q, .slice a l.length c] ∧ PlayIn W (.slice a l.length c) l := by
  obtain ⟨cs, rfl, hsz⟩ := okWide_struct Tryd.underlying31 hv
  obtain ⟨c0, c1, c2, c3, rfl⟩ := array4 (hsz.trans (by kernel_rfl))
  obtain ⟨fuel, hf⟩ := h
  obtain ⟨xs, n, _, hx, _, hlen, hfs⟩ := DataW.trod_struct Tryd.underlying31 hf
  have each : ∀ (i : Nat), i < 2 → ∃ y, xs[i]? = some y := fun i hi => ⟨_, List.getElem?_eq_getElem (by rw [hlen]; exact hi)⟩
  obtain ⟨y0, e0⟩ := each 0 (by decide)
  obtain ⟨y1, e1⟩ := each 1 (by decide)
  have z3 : Tryd.prog.cellsOf 3 = 1 := by kernel_rfl
  have z28 : Tryd.prog.cellsOf 28 = 3 := by kernel_rfl
  have z29 : Tryd.prog.cellsOf 29 = 1 := by kernel_rfl
  have t0 : DataW.trod enc Tryd.prog W 0 (fun _ => true) true n 28 [c0, c1, c2] = some y0 := by simpa [Value.cells, z28] using (hfs 0 _ rfl).trans e0
  have t1 : DataW.trod enc Tryd.prog W 0 (fun _ => true) true n 29 [c3] = some y1 := by simpa [Value.cells, z29] using (hfs 1 _ rfl).trans e1
  obtain ⟨ks, q, _, _, _, hlenk, hfk⟩ := DataW.trod_struct Tryd.underlying28 t0
  have eachk : ∀ (i : Nat), i < 3 → ∃ y, ks[i]? = some y := fun i hi => ⟨_, List.getElem?_eq_getElem (by rw [hlenk]; exact hi)⟩
  obtain ⟨u0, f0⟩ := eachk 0 (by decide)
  obtain ⟨u1, f1⟩ := eachk 1 (by decide)
  obtain ⟨u2, f2⟩ := eachk 2 (by decide)
  have s0 : DataW.trod enc Tryd.prog W 0 (fun _ => true) true q 3 [c0] = some u0 := by simpa [z3] using (hfk 0 _ rfl).trans f0
  have s1 : DataW.trod enc Tryd.prog W 0 (fun _ => true) true q 3 [c1] = some u1 := by simpa [z3] using (hfk 1 _ rfl).trans f1
  have s2 : DataW.trod enc Tryd.prog W 0 (fun _ => true) true q 3 [c2] = some u2 := by simpa [z3] using (hfk 2 _ rfl).trans f2
  obtain ⟨n0, hc0, _, _⟩ := DataW.trod_int Tryd.underlying3 s0
  obtain ⟨n1, hc1, _, _⟩ := DataW.trod_int Tryd.underlying3 s1
  obtain ⟨n2, hc2, _, _⟩ := DataW.trod_int Tryd.underlying3 s2
  obtain ⟨a, len, cap, hc3⟩ := Go.Joins.slice_form Tryd.underlying29 t1
  simp only [List.cons.injEq, and_true] at hc0 hc1 hc2 hc3
  subst hc0 hc1 hc2 hc3
  obtain ⟨l, rfl, his⟩ := open_steps (d := y1.1) (p := y1.2) t1
  exact ⟨n0, n1, n2, a, cap, l, rfl, his⟩
end Go.Proofs.YtpfbfkjmdlogcaaDoor
