/-
  An argument that is a list of parts, opened; the walk of 'parts'.
-/
import Derived.Test.YtabpicbhhplcgaaBase
import Derived.Test.YtabpicbhhplcgaaActs
import Derived.Deep.Slices
import Derived.Deep.Cut
namespace Go.Proofs.Ytabpicbhhplcgaa
open Go.ChangeShapes Go.WideShapes Go.ChangeAt Go.RowKit

/-- A part: its line, whether it has a body, whether that is without its end, its bytes. -/
abbrev PartI := ByteArray × Bool × Bool × List UInt8
/-- The cells of one. -/
def PartAt (w : World) (b o : Nat) (x : PartI) : Prop :=
  w.cell? ⟨b, o, none⟩ = some (.string x.1) ∧ w.cell? ⟨b, o + 1, none⟩ = some (.bool x.2.1) ∧ w.cell? ⟨b, o + 2, none⟩ = some (.bool x.2.2.1) ∧ ∃ a c, w.cell? ⟨b, o + 3, none⟩ = some (.slice a x.2.2.2.length c) ∧ IsBytes w a c x.2.2.2 ∧ (a = none → c = 0)
def partFits (x : PartI) : Prop := x.1.size ≤ maxLen
/-- The slice at 'a', of capacity c, has the calls l. -/
def IsParts (w : World) (a : Option Addr) (c : Nat) (l : List PartI) : Prop :=
  l.length ≤ c ∧ c ≤ maxLen ∧ (∀ x ∈ l, partFits x) ∧ (l = [] ∨ ∃ b o, a = some ⟨b, o, none⟩ ∧ b < w.heap.size ∧ ∀ (j : Nat) x, l[j]? = some x → PartAt w b (o + j * 4) x)
/-- How many calls and bytes. -/
def totP (l : List PartI) : Nat := (l.map fun x => x.1.size + x.2.2.2.length + 1).sum

theorem PartAt.below {w w' : World} {b o : Nat} {x : PartI} (h : PartAt w b o x) (hb : b < w.heap.size) (hB : Below w.heap.size w w') : PartAt w' b o x := by
  obtain ⟨h0, h1, h2, a, c, h3, h4, h5⟩ := h
  exact ⟨(hB.cell (p := ⟨b, o, none⟩) hb).trans h0, (hB.cell (p := ⟨b, o + 1, none⟩) hb).trans h1, (hB.cell (p := ⟨b, o + 2, none⟩) hb).trans h2, a, c, (hB.cell (p := ⟨b, o + 3, none⟩) hb).trans h3, h4.below hB, h5⟩

set_option maxRecDepth 100000 in
theorem open_part {H : Type} {enc : TypeId × Value → H} {W : World} {n : Nat} {cs : List Value} {x : DataW H × List MemPlace}
    (h : DataW.trod enc Try.prog W 0 (fun _ => true) true n 59 cs = some x) : ∃ (y : PartI) (a : Option Addr) (c : Nat), cs = [.string y.1, .bool y.2.1, .bool y.2.2.1, .slice a y.2.2.2.length c] ∧ IsBytes W a c y.2.2.2 ∧ (a = none → c = 0) ∧ partFits y ∧ y.1.size + y.2.2.2.length + 1 ≤ Rows.uptoBulk x.1 := by
  obtain ⟨xs, k, _, hx, hl, hlen, hfs⟩ := DataW.trod_struct Try.underlying59 h
  have hc : Try.prog.cellsOf 59 = 4 := by kernel_rfl
  rw [hc] at hl
  match cs, hl with
  | [v0, v1, v2, v3], _ =>
    have each : ∀ (i : Nat), i < 4 → ∃ y, xs[i]? = some y := fun i hi => ⟨_, List.getElem?_eq_getElem (by rw [hlen]; exact hi)⟩
    obtain ⟨x0, e0⟩ := each 0 (by decide)
    obtain ⟨x1, e1⟩ := each 1 (by decide)
    obtain ⟨x2, e2⟩ := each 2 (by decide)
    obtain ⟨x3, e3⟩ := each 3 (by decide)
    have hci : Try.prog.cellsOf 9 = 1 := by kernel_rfl
    have hco : Try.prog.cellsOf 4 = 1 := by kernel_rfl
    have hcb : Try.prog.cellsOf 30 = 1 := by kernel_rfl
    have t0 : DataW.trod enc Try.prog W 0 (fun _ => true) true k 9 [v0] = some x0 := by simpa [hcb, hci, hco] using (hfs 0 _ rfl).trans e0
    have t1 : DataW.trod enc Try.prog W 0 (fun _ => true) true k 4 [v1] = some x1 := by simpa [hcb, hci, hco] using (hfs 1 _ rfl).trans e1
    have t2 : DataW.trod enc Try.prog W 0 (fun _ => true) true k 4 [v2] = some x2 := by simpa [hcb, hci, hco] using (hfs 2 _ rfl).trans e2
    have t3 : DataW.trod enc Try.prog W 0 (fun _ => true) true k 30 [v3] = some x3 := by simpa [hcb, hci, hco] using (hfs 3 _ rfl).trans e3
    obtain ⟨a0, r0, z0, f0⟩ := DataW.trod_string Try.underlying9 t0
    obtain ⟨a1, r1, _⟩ := DataW.trod_bool Try.underlying4 t1
    obtain ⟨a2, r2, _⟩ := DataW.trod_bool Try.underlying4 t2
    obtain ⟨y3, a3, c3, r3, i3, n3, b3⟩ := open_bytes1 t3
    simp only [List.cons.injEq, and_true] at r0 r1 r2
    subst r0 r1 r2 r3
    refine ⟨(a0, a1, a2, y3), a3, c3, rfl, i3, n3, f0, ?_⟩
    rw [hx]
    have hxs : xs = [x0, x1, x2, x3] := by
      have hl4 : xs.length = 4 := hlen
      match xs, hl4, e0, e1, e2, e3 with
      | [q0, q1, q2, q3], _, e0, e1, e2, e3 =>
        simp at e0 e1 e2 e3
        rw [e0, e1, e2, e3]
    rw [hxs, z0]
    have hl : a0.data.toList.length = a0.size := by simp
    simp only [List.map_cons, List.map_nil, Rows.uptoBulk, Rows.uptoBulkAll, hl]
    show a0.size + y3.length + 1 ≤ _
    omega

theorem bulk_parts {H : Type} (D : Nat → DataW H) (y : Nat → PartI) : ∀ (l : List Nat), (∀ i ∈ l, (y i).1.size + (y i).2.2.2.length + 1 ≤ Rows.uptoBulk (D i)) → totP (l.map y) ≤ Rows.uptoBulkAll (l.map D)
  | [], _ => by simp [totP]
  | i :: l, h => by
    have ih := bulk_parts D y l (fun j hj => h j (List.mem_cons_of_mem _ hj))
    have hi := h i List.mem_cons_self
    simp only [totP, List.map_cons, List.sum_cons, Rows.uptoBulkAll] at ih ⊢
    omega

set_option maxRecDepth 100000 in
theorem open_parts {H : Type} {enc : TypeId × Value → H} {W : World} {a : Option Addr} {len cap fuel : Nat} {d : DataW H} {p : List MemPlace}
    (hf : DataW.trod enc Try.prog W 0 (fun _ => true) true fuel 56 (Value.slice a len cap).cells.toList = some (d, p)) :
    ∃ l : List PartI, l.length = len ∧ (IsParts W a cap l ∧ (a = none → cap = 0)) ∧ totP l + 1 ≤ Rows.uptoBulk d := by
  rcases Go.Deep.open_slice Try.underlying56 hf with ⟨hcs, hx⟩ | ⟨x, l, c, m, n, D, Pl, hcs, _, hl, hm, hmm, hx, hcell⟩
  · simp [Value.cells] at hcs
    obtain ⟨rfl, rfl, rfl⟩ := hcs
    simp only [Prod.mk.injEq] at hx
    exact ⟨[], rfl, ⟨⟨by simp, by simp [maxLen], (fun x h => by cases h), .inl rfl⟩, fun _ => rfl⟩, by rw [hx.1]; simp [Rows.uptoBulk, totP]⟩
  · simp [Value.cells] at hcs
    obtain ⟨rfl, rfl, rfl⟩ := hcs
    simp only [if_true] at hmm
    subst hmm
    simp only [Prod.mk.injEq] at hx
    have hc : Try.prog.cellsOf 59 = 4 := by kernel_rfl
    obtain ⟨y, hy⟩ := Deep.choose_lt (α := PartI) (p := fun i y => partFits y ∧ y.1.size + y.2.2.2.length + 1 ≤ Rows.uptoBulk (D i) ∧ ∃ a c, IsBytes W a c y.2.2.2 ∧ (a = none → c = 0) ∧ ∀ k u, [Value.string y.1, .bool y.2.1, .bool y.2.2.1, .slice a y.2.2.2.length c][k]? = some u → W.cell? ((x.add (i * 4)).add k) = some u) (fun i hi => by
      obtain ⟨cs', h1, h2⟩ := hcell i hi
      rw [hc] at h1
      obtain ⟨_, hlen, hce⟩ := World.cells?_some h1
      obtain ⟨y, a, c, rfl, hy1, hy2, hy3, hb⟩ := open_part h2
      exact ⟨y, hy3, hb, a, c, hy1, hy2, fun k u hu => (hce k (by have := (List.getElem?_eq_some_iff.1 hu).1; simpa using this)).trans hu⟩)
    refine ⟨(List.range len).map y, by simp, ⟨⟨by simpa using hl, hm, ?_, ?_⟩, fun h => by cases h⟩, ?_⟩
    · intro z hz
      obtain ⟨i, hi, rfl⟩ := List.mem_map.1 hz
      exact (hy i (by have := List.mem_range.1 hi; omega)).1
    · by_cases h0 : len = 0
      · left; subst h0; simp
      · right
        obtain ⟨b, o, spot⟩ := x
        obtain ⟨_, _, a0, c0, _, _, hk0⟩ := hy 0 (by omega)
        have hc0 := hk0 0 _ rfl
        have hspot : spot = none := by simpa [Addr.add] using World.cell?_spot hc0
        subst hspot
        refine ⟨b, o, rfl, ?_, fun j z hj => ?_⟩
        · have := World.block_lt_of_cell? _ _ hc0
          simpa [Addr.add] using this
        · have hjl : j < len := by have := (List.getElem?_eq_some_iff.1 hj).1; simpa using this
          rw [List.getElem?_map, List.getElem?_range hjl] at hj
          simp only [Option.map_some, Option.some.injEq] at hj
          subst hj
          obtain ⟨_, _, a', c', i1, i2, hk⟩ := hy j (by omega)
          have ea : ∀ k, ((⟨b, o, none⟩ : Addr).add (j * 4)).add k = ⟨b, o + j * 4 + k, none⟩ := fun k => by
            unfold Addr.add
            split <;> split <;> simp_all
          have k0 := hk 0 _ rfl
          have k1 := hk 1 _ rfl
          have k2 := hk 2 _ rfl
          have k3 := hk 3 _ rfl
          rw [ea] at k0 k1 k2 k3
          exact ⟨k0, k1, k2, a', c', k3, i1, i2⟩
    · have := bulk_parts D y (List.range len) (fun i hi => (hy i (by have := List.mem_range.1 hi; omega)).2.1)
      rw [hx.1]
      simp only [Rows.uptoBulk]
      omega

theorem totP_take (l : List PartI) (k : Nat) (x : PartI) (h : l[k]? = some x) : totP (l.take (k + 1)) = totP (l.take k) + (x.1.size + x.2.2.2.length + 1) := by
  unfold totP
  rw [List.take_add_one, h]
  simp
theorem totP_le (l : List PartI) (k : Nat) : totP (l.take k) ≤ totP l := by
  have h : totP l = totP (l.take k) + totP (l.drop k) := by unfold totP; rw [← List.sum_append, ← List.map_append, List.take_append_drop]
  omega
theorem totP_len : ∀ l : List PartI, l.length ≤ totP l
  | [] => Nat.zero_le _
  | x :: r => by
    have ih := totP_len r
    simp only [totP, List.map_cons, List.sum_cons, List.length_cons] at ih ⊢
    omega

set_option maxHeartbeats 1000000 in
set_option maxRecDepth 1000000 in
theorem parts_any (a : Option Addr) (c : Nat) (l : List PartI) (w : World) (h : IsParts w a c l) (ht : totP l ≤ 1048576) :
    Calls Try.prog 22 #[.slice a l.length c] w fun e w' => e = .returned (.bool false) ∧ ∃ n, w' = w.drewN n := by
  obtain ⟨h1, h2, _, h3⟩ := h
  unfold maxLen at h2
  have H3 : Hid (l = [] ∨ ∃ b o, a = some ⟨b, o, none⟩ ∧ b < w.heap.size ∧ ∀ (j : Nat) x, l[j]? = some x → PartAt w b (o + j * 4) x) := h3
  have hll : l.length ≤ 1048576 := by have := totP_len l; omega
  have HT : Hid (totP l ≤ 1048576) := ht
  clear h3 ht
  go_enter Try.func22, Try.ntmps22
  go_wp2
  go_loopg [3, 4] l.length (fun gk n i wr => ∃ (k t : Nat), n = .int .i64 t ∧ i = .int .i64 k ∧ k ≤ l.length ∧ l.length - k ≤ gk ∧ (∃ q, wr = w.drewN q) ∧ Hid (t ≤ l.length + 4 * totP (l.take k)))
  case atStart => exact ⟨0, l.length, rfl, rfl, Nat.zero_le _, Nat.le_refl _, ⟨0, rfl⟩, (show l.length ≤ l.length + 4 * totP (l.take 0) by omega)⟩
  case round =>
    obtain ⟨k, t, rfl, rfl, hk, hgk, ⟨q, rfl⟩, HTT⟩ := hrel
    have htb : t ≤ 5242880 := by have := HTT.out; have := totP_le l k; have := HT.out; omega
    have htb' : (t : Int) ≤ 2147483647 := by omega
    by_cases hp : k < l.length
    · have hpi : (k : Int) < (l.length : Int) := by omega
      obtain ⟨x, hx⟩ : ∃ x, l[k]? = some x := ⟨_, List.getElem?_eq_getElem hp⟩
      rcases H3.out with rfl | ⟨b, o, rfl, hbl, hc⟩
      · simp at hp
      obtain ⟨k0, _, _, a3, c3, k3, _⟩ := hc k x hx
      have hnx := totP_take l k x hx
      have hle := totP_le l (k + 1)
      have hx1 : x.1.size ≤ 1048576 := by have := HT.out; omega
      have hx2 : x.2.2.2.length ≤ 1048576 := by have := HT.out; omega
      have HT2 : Hid (t + (x.1.size + x.2.2.2.length + 4) ≤ l.length + 4 * totP (l.take (k + 1))) := by show _ ≤ _; have := HTT.out; omega
      clear hc hx hnx hle
      go_wp2
      go_region
      all_goals (try go_wp2)
      all_goals go_roundg (l.length - (k + 1))
      case measure => omega
      case rel => exact ⟨k + 1, t + (x.1.size + x.2.2.2.length + 4), by go_num, by go_num, by omega, Nat.le_refl _, ⟨_, rfl⟩, HT2⟩
    · have hpi : ¬ (k : Int) < (l.length : Int) := by omega
      go_wp2
      go_ret
      exact ⟨by first | rfl | (simp; omega), q, rfl⟩
end Go.Proofs.Ytabpicbhhplcgaa
