/-
  ActArgs, FileArgs.
-/
import Derived.Test.YtnpofjeiamjioaaBase
import Derived.Test.YtnpofjeiamjioaaLoadW
import Derived.Deep.Slices
import Derived.SizedLaws
import Derived.Test.YtnpofjeiamjioaaRawF
namespace Go.Proofs.Ytnpofjeiamjioaa
open Go.ChangeShapes Go.WideShapes Go.ChangeAt Go.RowKit

/-- An act: its kind, its file, its size, its bytes. -/
structure ActI where
  kind : Int
  file : Int
  size : Int
  data : List UInt8
/-- The cells of one. -/
def ActAt (w : World) (b o : Nat) (x : ActI) : Prop :=
  w.cell? ⟨b, o, none⟩ = some (.int .i64 x.kind) ∧ w.cell? ⟨b, o + 1, none⟩ = some (.int .i64 x.file) ∧ (∃ a c, w.cell? ⟨b, o + 2, none⟩ = some (.slice a x.data.length c) ∧ IsBytes w a c x.data) ∧ w.cell? ⟨b, o + 3, none⟩ = some (.int .i64 x.size)
def actFits (x : ActI) : Prop := (Lit.int .i64 x.kind).wf = true ∧ (Lit.int .i64 x.file).wf = true ∧ (Lit.int .i64 x.size).wf = true
/-- The slice at 'a', of capacity c, has the acts l. -/
def IsActs (w : World) (a : Option Addr) (c : Nat) (l : List ActI) : Prop :=
  l.length ≤ c ∧ c ≤ maxLen ∧ (∀ x ∈ l, actFits x) ∧ (l = [] ∨ ∃ b o, a = some ⟨b, o, none⟩ ∧ b < w.heap.size ∧ ∀ (j : Nat) x, l[j]? = some x → ActAt w b (o + j * 4) x)
/-- How many acts and bytes. -/
def tot (l : List ActI) : Nat := (l.map fun x => x.data.length + 1).sum

theorem ActAt.below {w w' : World} {b o : Nat} {x : ActI} (h : ActAt w b o x) (hb : b < w.heap.size) (hB : Below w.heap.size w w') : ActAt w' b o x := by
  obtain ⟨h0, h1, ⟨a, c, h3, h4⟩, h2⟩ := h
  exact ⟨(hB.cell (p := ⟨b, o, none⟩) hb).trans h0, (hB.cell (p := ⟨b, o + 1, none⟩) hb).trans h1, ⟨a, c, (hB.cell (p := ⟨b, o + 2, none⟩) hb).trans h3, h4.below hB⟩, (hB.cell (p := ⟨b, o + 3, none⟩) hb).trans h2⟩
theorem IsActs.below {w w' : World} {a : Option Addr} {c : Nat} {l : List ActI} (h : IsActs w a c l) (hB : Below w.heap.size w w') : IsActs w' a c l := by
  obtain ⟨h1, h2, h3, h4⟩ := h
  refine ⟨h1, h2, h3, ?_⟩
  rcases h4 with h | ⟨b, o, ha, hb, hc⟩
  · exact .inl h
  · exact .inr ⟨b, o, ha, Nat.lt_of_lt_of_le hb hB.size, fun j x hj => (hc j x hj).below hb hB⟩
theorem IsActs.at {w : World} {a : Option Addr} {c : Nat} {l : List ActI} (h : IsActs w a c l) {j : Nat} {x : ActI} (hx : l[j]? = some x) : ∃ b o, a = some ⟨b, o, none⟩ ∧ b < w.heap.size ∧ ActAt w b (o + j * 4) x := by
  rcases h.2.2.2 with rfl | ⟨b, o, ha, hb, hc⟩
  · simp at hx
  · exact ⟨b, o, ha, hb, hc j x hx⟩

theorem weights_bytes {H : Type} {W : World} {enc : TypeId × Value → H} {a : Option Addr} {len cap fuel : Nat} {d : DataW H} {p : List MemPlace}
    (hf : DataW.trod enc Try.prog W 0 (fun _ => true) true fuel 37 (Value.slice a len cap).cells.toList = some (d, p)) (hw : ∀ m ∈ d.weights Try.prog 37, m ≤ reachBytes) : len ≤ reachBytes := by
  rcases open_ints Try.underlying37 Try.underlying5 (by kernel_rfl) hf with ⟨hcs, hx⟩ | ⟨x, l, c, zs, hcs, _, hl, hm, hz, hx, hcell, hws⟩
  · simp [Value.cells] at hcs
    obtain ⟨rfl, rfl, rfl⟩ := hcs
    exact Nat.zero_le _
  · simp [Value.cells] at hcs
    obtain ⟨rfl, rfl, rfl⟩ := hcs
    simp only [if_true] at hz
    simp only [Prod.mk.injEq] at hx
    rw [hx.1] at hw
    have hb8 : Try.prog.bytesOf 5 = 1 := by kernel_rfl
    have := hw _ (by simp only [DataW.weights, Try.underlying37]; exact List.mem_cons_self)
    rw [hb8] at this
    simp only [lits, List.length_map, List.length_take, List.length_drop] at this
    omega

theorem open_bytes1 {H : Type} {enc : TypeId × Value → H} {W : World} {v : Value} {fuel : Nat} {x : DataW H × List MemPlace}
    (hf : DataW.trod enc Try.prog W 0 (fun _ => true) true fuel 37 [v] = some x) :
    ∃ y : List UInt8, ∃ a c, v = .slice a y.length c ∧ IsBytes W a c y ∧ y.length + 1 ≤ Rows.uptoBulk x.1 ∧ ((∀ m ∈ x.1.weights Try.prog 37, m ≤ reachBytes) → y.length ≤ reachBytes) := by
  obtain ⟨d, p⟩ := x
  have hv : ∃ a n c, v = .slice a n c := by
    rcases open_ints Try.underlying37 Try.underlying5 (by kernel_rfl) hf with ⟨hcs, _⟩ | ⟨x, l, c, zs, hcs, _⟩
    · exact ⟨none, 0, 0, by simpa using hcs⟩
    · exact ⟨some x, l, c, by simpa using hcs⟩
  obtain ⟨a, n, c, rfl⟩ := hv
  obtain ⟨l, rfl, h, hb⟩ := open_bytes (a := a) (len := n) (cap := c) hf
  exact ⟨l, a, c, rfl, h.1, hb, weights_bytes (a := a) (len := l.length) (cap := c) hf⟩

set_option maxRecDepth 100000 in
theorem open_act {H : Type} {enc : TypeId × Value → H} {W : World} {n : Nat} {cs : List Value} {x : DataW H × List MemPlace}
    (h : DataW.trod enc Try.prog W 0 (fun _ => true) true n 39 cs = some x) : ∃ (y : ActI) (a : Option Addr) (c : Nat), cs = [.int .i64 y.kind, .int .i64 y.file, .slice a y.data.length c, .int .i64 y.size] ∧ IsBytes W a c y.data ∧ actFits y ∧ y.data.length + 1 ≤ Rows.uptoBulk x.1 ∧ ((∀ m ∈ x.1.weights Try.prog 39, m ≤ reachBytes) → y.data.length ≤ reachBytes) := by
  obtain ⟨xs, k, _, hx, hl, hlen, hfs⟩ := DataW.trod_struct Try.underlying39 h
  have hc : Try.prog.cellsOf 39 = 4 := by kernel_rfl
  rw [hc] at hl
  match cs, hl with
  | [v0, v1, v2, v3], _ =>
    have each : ∀ (i : Nat), i < 4 → ∃ y, xs[i]? = some y := fun i hi => ⟨_, List.getElem?_eq_getElem (by rw [hlen]; exact hi)⟩
    obtain ⟨x0, e0⟩ := each 0 (by decide)
    obtain ⟨x1, e1⟩ := each 1 (by decide)
    obtain ⟨x2, e2⟩ := each 2 (by decide)
    obtain ⟨x3, e3⟩ := each 3 (by decide)
    have hci : Try.prog.cellsOf 3 = 1 := by kernel_rfl
    have hcb : Try.prog.cellsOf 37 = 1 := by kernel_rfl
    have t0 : DataW.trod enc Try.prog W 0 (fun _ => true) true k 3 [v0] = some x0 := by simpa [hcb, hci] using (hfs 0 _ rfl).trans e0
    have t1 : DataW.trod enc Try.prog W 0 (fun _ => true) true k 3 [v1] = some x1 := by simpa [hcb, hci] using (hfs 1 _ rfl).trans e1
    have t2 : DataW.trod enc Try.prog W 0 (fun _ => true) true k 37 [v2] = some x2 := by simpa [hcb, hci] using (hfs 2 _ rfl).trans e2
    have t3 : DataW.trod enc Try.prog W 0 (fun _ => true) true k 3 [v3] = some x3 := by simpa [hcb, hci] using (hfs 3 _ rfl).trans e3
    obtain ⟨a0, r0, _, f0⟩ := DataW.trod_int Try.underlying3 t0
    obtain ⟨a1, r1, _, f1⟩ := DataW.trod_int Try.underlying3 t1
    obtain ⟨a3, r3, _, f3⟩ := DataW.trod_int Try.underlying3 t3
    obtain ⟨y2, ya, yc, r2, i2, b2, wt2⟩ := open_bytes1 t2
    simp only [List.cons.injEq, and_true] at r0 r1 r3
    subst r0 r1 r2 r3
    have hl4 : xs.length = 4 := by rw [hlen]; rfl
    have hxs : xs = [x0, x1, x2, x3] := by
      apply List.ext_getElem?
      intro i
      match i with
      | 0 => exact e0
      | 1 => exact e1
      | 2 => exact e2
      | 3 => exact e3
      | i + 4 => rw [List.getElem?_eq_none (by omega)]; rfl
    refine ⟨⟨a0, a1, a3, y2⟩, ya, yc, rfl, i2, ⟨f0, f1, f3⟩, ?_, fun hw => wt2 (fun m hm => hw m ?_)⟩
    · rw [hx, hxs]
      simp only [List.map_cons, List.map_nil, Rows.uptoBulk, Rows.uptoBulkAll]
      omega
    · rw [hx, hxs]
      simp only [List.map_cons, List.map_nil, DataW.weights, Try.underlying39]
      simp only [DataW.weightsEach, List.mem_append]
      exact .inr (.inr (.inl hm))

theorem bulk_acts {H : Type} (D : Nat → DataW H) (y : Nat → ActI) : ∀ (l : List Nat), (∀ i ∈ l, (y i).data.length + 1 ≤ Rows.uptoBulk (D i)) → tot (l.map y) ≤ Rows.uptoBulkAll (l.map D)
  | [], _ => by simp [tot]
  | i :: l, h => by
    have ih := bulk_acts D y l (fun j hj => h j (List.mem_cons_of_mem _ hj))
    have hi := h i List.mem_cons_self
    simp only [tot, List.map_cons, List.sum_cons, Rows.uptoBulkAll] at ih ⊢
    omega
theorem mem_weightsAll {H : Type} {P : Program} {e : TypeId} {d : DataW H} {m : Nat} (hm : m ∈ d.weights P e) : ∀ (l : List (DataW H)), d ∈ l → m ∈ DataW.weightsAll P e l
  | [], h => by cases h
  | x :: r, h => by
    rw [DataW.weightsAll, List.mem_append]
    rcases List.mem_cons.1 h with rfl | h
    · exact .inl hm
    · exact .inr (mem_weightsAll hm r h)

set_option maxRecDepth 100000 in
theorem open_acts {H : Type} {enc : TypeId × Value → H} {W : World} {a : Option Addr} {len cap fuel : Nat} {d : DataW H} {p : List MemPlace}
    (hf : DataW.trod enc Try.prog W 0 (fun _ => true) true fuel 49 (Value.slice a len cap).cells.toList = some (d, p)) :
    ∃ l : List ActI, l.length = len ∧ (IsActs W a cap l ∧ (a = none → cap = 0)) ∧ tot l + 1 ≤ Rows.uptoBulk d ∧ ((∀ m ∈ d.weights Try.prog 49, m ≤ reachBytes) → ∀ x ∈ l, x.data.length ≤ reachBytes) := by
  rcases Go.Deep.open_slice Try.underlying49 hf with ⟨hcs, hx⟩ | ⟨x, l, c, m, n, D, Pl, hcs, _, hl, hm, hmm, hx, hcell⟩
  · simp [Value.cells] at hcs
    obtain ⟨rfl, rfl, rfl⟩ := hcs
    simp only [Prod.mk.injEq] at hx
    exact ⟨[], rfl, ⟨⟨by simp, by simp [maxLen], (fun x h => by cases h), .inl rfl⟩, fun _ => rfl⟩, by rw [hx.1]; simp [Rows.uptoBulk, tot], fun _ x h => by cases h⟩
  · simp [Value.cells] at hcs
    obtain ⟨rfl, rfl, rfl⟩ := hcs
    simp only [if_true] at hmm
    subst hmm
    simp only [Prod.mk.injEq] at hx
    have hc : Try.prog.cellsOf 39 = 4 := by kernel_rfl
    haveI : Inhabited ActI := ⟨⟨0, 0, 0, []⟩⟩
    obtain ⟨y, hy⟩ := Deep.choose_lt (α := ActI) (p := fun i y => actFits y ∧ y.data.length + 1 ≤ Rows.uptoBulk (D i) ∧ ((∀ m ∈ (D i).weights Try.prog 39, m ≤ reachBytes) → y.data.length ≤ reachBytes) ∧ ∃ a c, IsBytes W a c y.data ∧ ∀ k u, [Value.int .i64 y.kind, .int .i64 y.file, .slice a y.data.length c, .int .i64 y.size][k]? = some u → W.cell? ((x.add (i * 4)).add k) = some u) (fun i hi => by
      obtain ⟨cs', h1, h2⟩ := hcell i hi
      rw [hc] at h1
      obtain ⟨_, hlen, hce⟩ := World.cells?_some h1
      obtain ⟨y, a, c, rfl, hy1, hy3, hb, hwt⟩ := open_act h2
      exact ⟨y, hy3, hb, hwt, a, c, hy1, fun k u hu => (hce k (by have := (List.getElem?_eq_some_iff.1 hu).1; simpa using this)).trans hu⟩)
    refine ⟨(List.range len).map y, by simp, ⟨⟨by simpa using hl, hm, ?_, ?_⟩, fun h => by cases h⟩, ?_, ?_⟩
    · intro z hz
      obtain ⟨i, hi, rfl⟩ := List.mem_map.1 hz
      exact (hy i (by have := List.mem_range.1 hi; omega)).1
    · by_cases h0 : len = 0
      · left; subst h0; simp
      · right
        obtain ⟨b, o, spot⟩ := x
        obtain ⟨_, _, _, a0, c0, _, hk0⟩ := hy 0 (by omega)
        have hc0 := hk0 0 _ rfl
        have hspot : spot = none := by simpa [Addr.add] using World.cell?_spot hc0
        subst hspot
        refine ⟨b, o, rfl, ?_, fun j z hj => ?_⟩
        · have := World.block_lt_of_cell? _ _ hc0
          simpa [Addr.add] using this
        · have hjl : j < len := by have := (List.getElem?_eq_some_iff.1 hj).1; simpa using this
          rw [List.getElem?_map, List.getElem?_range hjl] at hj
          simp only [Option.map_some, Option.some.injEq] at hj
          subst hj
          obtain ⟨_, _, _, a', c', i1, hk⟩ := hy j (by omega)
          have ea : ∀ k, ((⟨b, o, none⟩ : Addr).add (j * 4)).add k = ⟨b, o + j * 4 + k, none⟩ := fun k => by
            unfold Addr.add
            split <;> split <;> simp_all
          have k0 := hk 0 _ rfl
          have k1 := hk 1 _ rfl
          have k2 := hk 2 _ rfl
          have k3 := hk 3 _ rfl
          rw [ea] at k0 k1 k2 k3
          exact ⟨k0, k1, ⟨a', c', k2, i1⟩, k3⟩
    · have := bulk_acts D y (List.range len) (fun i hi => (hy i (by have := List.mem_range.1 hi; omega)).2.1)
      rw [hx.1]
      simp only [Rows.uptoBulk]
      omega
    · intro hw z hz
      obtain ⟨i, hi, rfl⟩ := List.mem_map.1 hz
      have hil := List.mem_range.1 hi
      refine (hy i (by omega)).2.2.1 (fun m hm => hw m ?_)
      rw [hx.1]
      simp only [DataW.weights, Try.underlying49, List.mem_cons, List.mem_append]
      exact .inr (.inl (mem_weightsAll hm _ (List.mem_map.2 ⟨i, hi, rfl⟩)))

theorem open_nums {H : Type} {enc : TypeId × Value → H} {W : World} {a : Option Addr} {len cap fuel : Nat} {d : DataW H} {p : List MemPlace}
    (hf : DataW.trod enc Try.prog W 0 (fun _ => true) true fuel 40 (Value.slice a len cap).cells.toList = some (d, p)) :
    ∃ l : List Int, l.length = len ∧ (IsInts W a cap l ∧ (a = none → cap = 0)) ∧ l.length + 1 ≤ Rows.uptoBulk d := by
  rcases open_ints Try.underlying40 Try.underlying3 (by kernel_rfl) hf with ⟨hcs, hx⟩ | ⟨x, l, c, zs, hcs, _, hl, hm, hz, hx, hcell, hws⟩
  · simp [Value.cells] at hcs
    obtain ⟨rfl, rfl, rfl⟩ := hcs
    simp only [Prod.mk.injEq] at hx
    exact ⟨[], rfl, ⟨⟨by simp, by simp [maxLen], (by simp), .inl rfl⟩, fun _ => rfl⟩, by rw [hx.1]; simp [Rows.uptoBulk]⟩
  · simp [Value.cells] at hcs
    obtain ⟨rfl, rfl, rfl⟩ := hcs
    simp only [if_true] at hz
    simp only [Prod.mk.injEq] at hx
    have htl : (zs.take len).length = len := by simp; omega
    refine ⟨zs.take len, htl, ⟨⟨by omega, hm, (fun x hx => int_bounds (hws x (List.mem_of_mem_take hx))), ?_⟩, fun h => by cases h⟩, ?_⟩
    · by_cases h0 : len = 0
      · left; subst h0; simp
      · right
        obtain ⟨b, o, spot⟩ := x
        have hc := hcell 0 (by omega)
        have hspot : spot = none := by simpa [Addr.add] using World.cell?_spot hc
        subst hspot
        refine ⟨b, o, rfl, ?_, fun j y hj => ?_⟩
        · have := World.block_lt_of_cell? _ _ hc
          simpa [Addr.add] using this
        · have hjl : j < len := by have := (List.getElem?_eq_some_iff.1 hj).1; omega
          have hjz : j < zs.length := by omega
          have := hcell j hjz
          rw [List.getElem?_take_of_lt hjl, List.getElem?_eq_getElem hjz] at hj
          simp only [Option.some.injEq] at hj
          have e : zs.getD j 0 = y := by
            rw [← hj]
            simp [List.getD, List.getElem?_eq_getElem hjz]
          rw [e] at this
          cases j with
          | zero => simpa [Addr.add] using this
          | succ j => simpa [Addr.add] using this
    · rw [hx.1, htl]
      simp only [Rows.uptoBulk, bulk_lits]
      simp
      omega
end Go.Proofs.Ytnpofjeiamjioaa

namespace Go.Proofs.Ytnpofjeiamjioaa
open Go.ChangeShapes Go.WideShapes Go.ChangeAt Go.RowKit

set_option maxRecDepth 100000 in
theorem open_file {H : Type} {enc : TypeId × Value → H} {W : World} {n : Nat} {cs : List Value} {x : DataW H × List MemPlace}
    (h : DataW.trod enc Try.prog W 0 (fun _ => true) true n 62 cs = some x) : ∃ (y : Rf) (a : Option Addr) (c : Nat), cs = [.int .i64 y.num, .slice a y.data.length c, .int .i64 y.safe] ∧ IsBytes W a c y.data ∧ rawFits y ∧ y.data.length + 1 ≤ Rows.uptoBulk x.1 := by
  obtain ⟨xs, k, _, hx, hl, hlen, hfs⟩ := DataW.trod_struct Try.underlying62 h
  have hc : Try.prog.cellsOf 62 = 3 := by kernel_rfl
  rw [hc] at hl
  match cs, hl with
  | [v0, v1, v2], _ =>
    have each : ∀ (i : Nat), i < 3 → ∃ y, xs[i]? = some y := fun i hi => ⟨_, List.getElem?_eq_getElem (by rw [hlen]; exact hi)⟩
    obtain ⟨x0, e0⟩ := each 0 (by decide)
    obtain ⟨x1, e1⟩ := each 1 (by decide)
    obtain ⟨x2, e2⟩ := each 2 (by decide)
    have hci : Try.prog.cellsOf 3 = 1 := by kernel_rfl
    have hcb : Try.prog.cellsOf 37 = 1 := by kernel_rfl
    have t0 : DataW.trod enc Try.prog W 0 (fun _ => true) true k 3 [v0] = some x0 := by simpa [hcb, hci] using (hfs 0 _ rfl).trans e0
    have t1 : DataW.trod enc Try.prog W 0 (fun _ => true) true k 37 [v1] = some x1 := by simpa [hcb, hci] using (hfs 1 _ rfl).trans e1
    have t2 : DataW.trod enc Try.prog W 0 (fun _ => true) true k 3 [v2] = some x2 := by simpa [hcb, hci] using (hfs 2 _ rfl).trans e2
    obtain ⟨a0, r0, _, f0⟩ := DataW.trod_int Try.underlying3 t0
    obtain ⟨a2, r2, _, f2⟩ := DataW.trod_int Try.underlying3 t2
    obtain ⟨y1, ya, yc, r1, i1, b1, _⟩ := open_bytes1 t1
    simp only [List.cons.injEq, and_true] at r0 r2
    subst r0 r2 r1
    have hxs : xs = [x0, x1, x2] := by
      apply List.ext_getElem?
      intro i
      match i with
      | 0 => exact e0
      | 1 => exact e1
      | 2 => exact e2
      | i + 3 =>
        have hl3 : xs.length = 3 := by rw [hlen]; rfl
        rw [List.getElem?_eq_none (by omega)]
        rfl
    refine ⟨⟨a0, y1, a2⟩, ya, yc, rfl, i1, ⟨f0, f2⟩, ?_⟩
    rw [hx, hxs]
    simp only [List.map_cons, List.map_nil, Rows.uptoBulk, Rows.uptoBulkAll]
    omega

theorem bulk_files {H : Type} (D : Nat → DataW H) (y : Nat → Rf) : ∀ (l : List Nat), (∀ i ∈ l, (y i).data.length + 1 ≤ Rows.uptoBulk (D i)) → totR (l.map y) + l.length ≤ Rows.uptoBulkAll (l.map D)
  | [], _ => by simp [totR]
  | i :: l, h => by
    have ih := bulk_files D y l (fun j hj => h j (List.mem_cons_of_mem _ hj))
    have hi := h i List.mem_cons_self
    simp only [totR, List.map_cons, List.sum_cons, Rows.uptoBulkAll, List.length_cons] at ih ⊢
    omega

set_option maxRecDepth 100000 in
theorem open_files {H : Type} {enc : TypeId × Value → H} {W : World} {a : Option Addr} {len cap fuel : Nat} {d : DataW H} {p : List MemPlace}
    (hf : DataW.trod enc Try.prog W 0 (fun _ => true) true fuel 48 (Value.slice a len cap).cells.toList = some (d, p)) :
    ∃ l : List Rf, l.length = len ∧ IsRaw W a cap l ∧ totR l + l.length + 1 ≤ Rows.uptoBulk d := by
  rcases Go.Deep.open_slice Try.underlying48 hf with ⟨hcs, hx⟩ | ⟨x, l, c, m, n, D, Pl, hcs, _, hl, hm, hmm, hx, hcell⟩
  · simp [Value.cells] at hcs
    obtain ⟨rfl, rfl, rfl⟩ := hcs
    simp only [Prod.mk.injEq] at hx
    exact ⟨[], rfl, ⟨by simp, by simp [maxLen], (fun x h => by cases h), .inl rfl⟩, by rw [hx.1]; simp [Rows.uptoBulk, totR]⟩
  · simp [Value.cells] at hcs
    obtain ⟨rfl, rfl, rfl⟩ := hcs
    simp only [if_true] at hmm
    subst hmm
    simp only [Prod.mk.injEq] at hx
    have hc : Try.prog.cellsOf 62 = 3 := by kernel_rfl
    haveI : Inhabited Rf := ⟨⟨0, [], 0⟩⟩
    obtain ⟨y, hy⟩ := Deep.choose_lt (α := Rf) (p := fun i y => rawFits y ∧ y.data.length + 1 ≤ Rows.uptoBulk (D i) ∧ ∃ a c, IsBytes W a c y.data ∧ ∀ k u, [Value.int .i64 y.num, .slice a y.data.length c, .int .i64 y.safe][k]? = some u → W.cell? ((x.add (i * 3)).add k) = some u) (fun i hi => by
      obtain ⟨cs', h1, h2⟩ := hcell i hi
      rw [hc] at h1
      obtain ⟨_, hlen, hce⟩ := World.cells?_some h1
      obtain ⟨y, a, c, rfl, hy1, hy3, hb⟩ := open_file h2
      exact ⟨y, hy3, hb, a, c, hy1, fun k u hu => (hce k (by have := (List.getElem?_eq_some_iff.1 hu).1; simpa using this)).trans hu⟩)
    refine ⟨(List.range len).map y, by simp, ⟨by simpa using hl, hm, ?_, ?_⟩, ?_⟩
    · intro z hz
      obtain ⟨i, hi, rfl⟩ := List.mem_map.1 hz
      exact (hy i (by have := List.mem_range.1 hi; omega)).1
    · by_cases h0 : len = 0
      · left; subst h0; simp
      · right
        obtain ⟨b, o, spot⟩ := x
        obtain ⟨_, _, a0, c0, _, hk0⟩ := hy 0 (by omega)
        have hc0 := hk0 0 _ rfl
        have hspot : spot = none := by simpa [Addr.add] using World.cell?_spot hc0
        subst hspot
        refine ⟨b, o, rfl, ?_, fun j z hj => ?_⟩
        · have := World.block_lt_of_cell? _ _ hc0
          simpa [Addr.add] using this
        · have hjl : j < len := by have := (List.getElem?_eq_some_iff.1 hj).1; simpa using this
          rw [List.getElem?_map, List.getElem?_range hjl] at hj
          simp only [Option.map_some, Option.some.injEq] at hj
          subst hj
          obtain ⟨_, _, a', c', i1, hk⟩ := hy j (by omega)
          have ea : ∀ k, ((⟨b, o, none⟩ : Addr).add (j * 3)).add k = ⟨b, o + j * 3 + k, none⟩ := fun k => by
            unfold Addr.add
            split <;> split <;> simp_all
          have k0 := hk 0 _ rfl
          have k1 := hk 1 _ rfl
          have k2 := hk 2 _ rfl
          rw [ea] at k0 k1 k2
          exact ⟨k0, ⟨a', c', k1, i1⟩, k2⟩
    · have := bulk_files D y (List.range len) (fun i hi => (hy i (by have := List.mem_range.1 hi; omega)).2.1)
      rw [hx.1]
      simp only [Rows.uptoBulk, List.length_map]
      omega
end Go.Proofs.Ytnpofjeiamjioaa
