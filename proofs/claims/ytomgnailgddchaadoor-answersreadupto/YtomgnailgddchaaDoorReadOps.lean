/-
  An argument that is a script of two readers, opened.
-/
import Derived.Test.YtomgnailgddchaaDoorJP
import Derived.Test.YtomgnailgddchaaDoorJA
import Derived.Deep.Slices
import Derived.Deep.Cut
namespace Go.Proofs.YtomgnailgddchaaDoor
open Go.ChangeShapes Go.WideShapes Go.ChangeAt Go.RowKit

/-- A step: whose, its kind, its bytes. -/
abbrev ActI := Bool × Int × List UInt8
/-- The cells of one. -/
def ActAt (w : World) (b o : Nat) (x : ActI) : Prop :=
  w.cell? ⟨b, o, none⟩ = some (.bool x.1) ∧ w.cell? ⟨b, o + 1, none⟩ = some (.int .i64 x.2.1) ∧ ∃ a c, w.cell? ⟨b, o + 2, none⟩ = some (.slice a x.2.2.length c) ∧ IsBytes w a c x.2.2 ∧ (a = none → c = 0)
def actFits (x : ActI) : Prop := (Lit.int .i64 x.2.1).wf = true
/-- The slice at 'a', of capacity c, has the calls l. -/
def IsActs (w : World) (a : Option Addr) (c : Nat) (l : List ActI) : Prop :=
  l.length ≤ c ∧ c ≤ maxLen ∧ (∀ x ∈ l, actFits x) ∧ (l = [] ∨ ∃ b o, a = some ⟨b, o, none⟩ ∧ b < w.heap.size ∧ ∀ (j : Nat) x, l[j]? = some x → ActAt w b (o + j * 3) x)
/-- How many calls and bytes. -/
def tot (l : List ActI) : Nat := (l.map fun x => x.2.2.length + 1).sum

theorem ActAt.below {w w' : World} {b o : Nat} {x : ActI} (h : ActAt w b o x) (hb : b < w.heap.size) (hB : Below w.heap.size w w') : ActAt w' b o x := by
  obtain ⟨h0, h1, a, c, h3, h4, h5⟩ := h
  exact ⟨(hB.cell (p := ⟨b, o, none⟩) hb).trans h0, (hB.cell (p := ⟨b, o + 1, none⟩) hb).trans h1, a, c, (hB.cell (p := ⟨b, o + 2, none⟩) hb).trans h3, h4.below hB, h5⟩

theorem open_bytes1 {H : Type} {enc : TypeId × Value → H} {W : World} {v : Value} {fuel : Nat} {x : DataW H × List MemPlace}
    (hf : DataW.trod enc Tryd.prog W 0 (fun _ => true) true fuel 34 [v] = some x) :
    ∃ y : List UInt8, ∃ a c, v = .slice a y.length c ∧ IsBytes W a c y ∧ (a = none → c = 0) ∧ y.length + 1 ≤ Rows.uptoBulk x.1 := by
  obtain ⟨d, p⟩ := x
  have hv : ∃ a n c, v = .slice a n c := by
    rcases open_ints Tryd.underlying34 Tryd.underlying5 (by kernel_rfl) hf with ⟨hcs, _⟩ | ⟨x, l, c, zs, hcs, _⟩
    · exact ⟨none, 0, 0, by simpa using hcs⟩
    · exact ⟨some x, l, c, by simpa using hcs⟩
  obtain ⟨a, n, c, rfl⟩ := hv
  obtain ⟨l, rfl, h, hb⟩ := open_bytes (a := a) (len := n) (cap := c) hf
  exact ⟨l, a, c, rfl, h.1, h.2, hb⟩

set_option maxRecDepth 100000 in
theorem open_act {H : Type} {enc : TypeId × Value → H} {W : World} {n : Nat} {cs : List Value} {x : DataW H × List MemPlace}
    (h : DataW.trod enc Tryd.prog W 0 (fun _ => true) true n 36 cs = some x) : ∃ (y : ActI) (a : Option Addr) (c : Nat), cs = [.bool y.1, .int .i64 y.2.1, .slice a y.2.2.length c] ∧ IsBytes W a c y.2.2 ∧ (a = none → c = 0) ∧ actFits y ∧ y.2.2.length + 1 ≤ Rows.uptoBulk x.1 := by
  obtain ⟨xs, k, _, hx, hl, hlen, hfs⟩ := DataW.trod_struct Tryd.underlying36 h
  have hc : Tryd.prog.cellsOf 36 = 3 := by kernel_rfl
  rw [hc] at hl
  match cs, hl with
  | [v0, v1, v2], _ =>
    have each : ∀ (i : Nat), i < 3 → ∃ y, xs[i]? = some y := fun i hi => ⟨_, List.getElem?_eq_getElem (by rw [hlen]; exact hi)⟩
    obtain ⟨x0, e0⟩ := each 0 (by decide)
    obtain ⟨x1, e1⟩ := each 1 (by decide)
    obtain ⟨x2, e2⟩ := each 2 (by decide)
    have hci : Tryd.prog.cellsOf 3 = 1 := by kernel_rfl
    have hcz : Tryd.prog.cellsOf 4 = 1 := by kernel_rfl
    have hcb : Tryd.prog.cellsOf 34 = 1 := by kernel_rfl
    have t0 : DataW.trod enc Tryd.prog W 0 (fun _ => true) true k 4 [v0] = some x0 := by simpa [hcb, hci, hcz] using (hfs 0 _ rfl).trans e0
    have t1 : DataW.trod enc Tryd.prog W 0 (fun _ => true) true k 3 [v1] = some x1 := by simpa [hcb, hci, hcz] using (hfs 1 _ rfl).trans e1
    have t2 : DataW.trod enc Tryd.prog W 0 (fun _ => true) true k 34 [v2] = some x2 := by simpa [hcb, hci, hcz] using (hfs 2 _ rfl).trans e2
    obtain ⟨a0, r0, _⟩ := DataW.trod_bool Tryd.underlying4 t0
    obtain ⟨a1, r1, _, f1⟩ := DataW.trod_int Tryd.underlying3 t1
    obtain ⟨y3, a3, c3, r3, i3, n3, b3⟩ := open_bytes1 t2
    simp only [List.cons.injEq, and_true] at r0 r1
    subst r0 r1 r3
    refine ⟨(a0, a1, y3), a3, c3, rfl, i3, n3, f1, ?_⟩
    rw [hx]
    have hmem : x2 ∈ xs := List.mem_of_getElem? e2
    have key : ∀ l : List (DataW H × List MemPlace), x2 ∈ l → Rows.uptoBulk x2.1 ≤ Rows.uptoBulkAll (l.map (·.1)) := by
      intro l
      induction l with
      | nil => intro h; cases h
      | cons q r ih =>
        intro h
        simp only [List.map_cons, Rows.uptoBulkAll]
        rcases List.mem_cons.1 h with h | h
        · subst h; omega
        · have := ih h; omega
    have := key xs hmem
    simp [Rows.uptoBulk]
    omega

theorem bulk_acts {H : Type} (D : Nat → DataW H) (y : Nat → ActI) : ∀ (l : List Nat), (∀ i ∈ l, (y i).2.2.length + 1 ≤ Rows.uptoBulk (D i)) → tot (l.map y) ≤ Rows.uptoBulkAll (l.map D)
  | [], _ => by simp [tot]
  | i :: l, h => by
    have ih := bulk_acts D y l (fun j hj => h j (List.mem_cons_of_mem _ hj))
    have hi := h i List.mem_cons_self
    simp only [tot, List.map_cons, List.sum_cons, Rows.uptoBulkAll] at ih ⊢
    omega

set_option maxRecDepth 100000 in
theorem open_acts {H : Type} {enc : TypeId × Value → H} {W : World} {a : Option Addr} {len cap fuel : Nat} {d : DataW H} {p : List MemPlace}
    (hf : DataW.trod enc Tryd.prog W 0 (fun _ => true) true fuel 22 (Value.slice a len cap).cells.toList = some (d, p)) :
    ∃ l : List ActI, l.length = len ∧ (IsActs W a cap l ∧ (a = none → cap = 0)) ∧ tot l + 1 ≤ Rows.uptoBulk d := by
  rcases Go.Deep.open_slice Tryd.underlying22 hf with ⟨hcs, hx⟩ | ⟨x, l, c, m, n, D, Pl, hcs, _, hl, hm, hmm, hx, hcell⟩
  · simp [Value.cells] at hcs
    obtain ⟨rfl, rfl, rfl⟩ := hcs
    simp only [Prod.mk.injEq] at hx
    exact ⟨[], rfl, ⟨⟨by simp, by simp [maxLen], (fun x h => by cases h), .inl rfl⟩, fun _ => rfl⟩, by rw [hx.1]; simp [Rows.uptoBulk, tot]⟩
  · simp [Value.cells] at hcs
    obtain ⟨rfl, rfl, rfl⟩ := hcs
    simp only [if_true] at hmm
    subst hmm
    simp only [Prod.mk.injEq] at hx
    have hc : Tryd.prog.cellsOf 36 = 3 := by kernel_rfl
    obtain ⟨y, hy⟩ := Deep.choose_lt (α := ActI) (p := fun i y => actFits y ∧ y.2.2.length + 1 ≤ Rows.uptoBulk (D i) ∧ ∃ a c, IsBytes W a c y.2.2 ∧ (a = none → c = 0) ∧ ∀ k u, [Value.bool y.1, .int .i64 y.2.1, .slice a y.2.2.length c][k]? = some u → W.cell? ((x.add (i * 3)).add k) = some u) (fun i hi => by
      obtain ⟨cs', h1, h2⟩ := hcell i hi
      rw [hc] at h1
      obtain ⟨_, hlen, hce⟩ := World.cells?_some h1
      obtain ⟨y, a, c, rfl, hy1, hy2, hy3, hb⟩ := open_act h2
      exact ⟨y, hy3, hb, a, c, hy1, hy2, fun k u hu => (hce k (by have := (List.getElem?_eq_some_iff.1 hu).1; simpa using this)).trans hu⟩)
    refine ⟨(List.range len).map y, by simp, ⟨⟨by simpa using hl, hm, ?_, ?_⟩, fun h => by cases h⟩, ?_⟩
    · intro z hz
      obtain ⟨i, hi, rfl⟩ := List.mem_map.1 hz
      exact (hy i (by have := List.mem_range.1 hi; omega)).1
    · by_cases h0 : len = 0
      · left; subst h0; simp
      · right
        obtain ⟨b, o, spot⟩ := x
        obtain ⟨_, _, a0, c0, _, _, hk0⟩ := hy 0 (by omega)
        have hc0 := hk0 0 _ rfl
        have hspot : spot = none := by simpa [Addr.add] using World.cell?_spot hc0
        subst hspot
        refine ⟨b, o, rfl, ?_, fun j z hj => ?_⟩
        · have := World.block_lt_of_cell? _ _ hc0
          simpa [Addr.add] using this
        · have hjl : j < len := by have := (List.getElem?_eq_some_iff.1 hj).1; simpa using this
          rw [List.getElem?_map, List.getElem?_range hjl] at hj
          simp only [Option.map_some, Option.some.injEq] at hj
          subst hj
          obtain ⟨_, _, a', c', i1, i2, hk⟩ := hy j (by omega)
          have ea : ∀ k, ((⟨b, o, none⟩ : Addr).add (j * 3)).add k = ⟨b, o + j * 3 + k, none⟩ := fun k => by
            unfold Addr.add
            split <;> split <;> simp_all
          have k0 := hk 0 _ rfl
          have k1 := hk 1 _ rfl
          have k2 := hk 2 _ rfl
          rw [ea] at k0 k1 k2
          exact ⟨k0, k1, a', c', k2, i1, i2⟩
    · have := bulk_acts D y (List.range len) (fun i hi => (hy i (by have := List.mem_range.1 hi; omega)).2.1)
      rw [hx.1]
      simp only [Rows.uptoBulk]
      omega

theorem tot_take (l : List ActI) (k : Nat) (x : ActI) (h : l[k]? = some x) : tot (l.take (k + 1)) = tot (l.take k) + (x.2.2.length + 1) := by
  unfold tot
  rw [List.take_add_one, h]
  simp
theorem tot_le (l : List ActI) (k : Nat) : tot (l.take k) ≤ tot l := by
  have h : tot l = tot (l.take k) + tot (l.drop k) := by unfold tot; rw [← List.sum_append, ← List.map_append, List.take_append_drop]
  omega
/-- How many bytes. -/
def bulk (l : List ActI) : Nat := (l.map fun x => x.2.2.length).sum
theorem bulk_take (l : List ActI) (k : Nat) (x : ActI) (h : l[k]? = some x) : bulk (l.take (k + 1)) = bulk (l.take k) + x.2.2.length := by
  unfold bulk
  rw [List.take_add_one, h]
  simp
theorem tot_bulk : ∀ l : List ActI, tot l = bulk l + l.length
  | [] => rfl
  | x :: r => by
    have ih := tot_bulk r
    simp only [tot, bulk, List.map_cons, List.sum_cons, List.length_cons] at ih ⊢
    omega
theorem bulk_le (l : List ActI) (k : Nat) : bulk (l.take k) ≤ bulk l := by
  have h : bulk l = bulk (l.take k) + bulk (l.drop k) := by unfold bulk; rw [← List.sum_append, ← List.map_append, List.take_append_drop]
  omega

set_option maxHeartbeats 1000000 in
set_option maxRecDepth 1000000 in
theorem more_any (n k : Nat) (w : World) (h : n + k ≤ 2147483647) :
    Calls Tryd.prog 15 #[.int .i64 n, .int .i64 k] w fun e w' => e = .returned (.int .i64 ((n + k : Nat) : Int)) ∧ w' = w := by
  have h1 : ¬ (2147483647 : Int) < n := by omega
  have h2 : ¬ (2147483647 : Int) - n < k := by omega
  have h3 : ¬ (n : Int) > 2147483647 := by omega
  have h4 : ¬ (k : Int) > 2147483647 - n := by omega
  go_enter Tryd.func15, Tryd.ntmps15
  go_wp2
  go_ret
  exact ⟨by go_num, rfl⟩

set_option maxHeartbeats 1000000 in
set_option maxRecDepth 1000000 in
theorem beyondScript_any (a : Option Addr) (c : Nat) (l : List ActI) (w : World) (h : IsActs w a c l) (ht : tot l ≤ 1048576) :
    Calls Tryd.prog 4 #[.slice a l.length c] w fun e w' => e = .returned (.bool false) ∧ w' = w := by
  obtain ⟨h1, h2, _, h3⟩ := h
  unfold maxLen at h2
  have hb := tot_bulk l
  have H3 : Hid (l = [] ∨ ∃ b o, a = some ⟨b, o, none⟩ ∧ b < w.heap.size ∧ ∀ (j : Nat) x, l[j]? = some x → ActAt w b (o + j * 3) x) := h3
  have HB : Hid (tot l = bulk l + l.length) := hb
  have hll : l.length ≤ 1048576 := by omega
  clear h3 hb
  go_enter Tryd.func4, Tryd.ntmps4
  go_wp2
  go_loopg [3, 4] l.length (fun gk n i wr => ∃ (k t : Nat), n = .int .i64 t ∧ i = .int .i64 k ∧ k ≤ l.length ∧ l.length - k ≤ gk ∧ wr = w ∧ Hid (t = k + bulk (l.take k)))
  case atStart => exact ⟨0, 0, rfl, rfl, Nat.zero_le _, Nat.le_refl _, rfl, (show 0 = 0 + bulk (l.take 0) by simp [bulk])⟩
  case round =>
    obtain ⟨k, t, rfl, rfl, hk, hgk, hwr, HT⟩ := hrel
    subst hwr
    have htb : t ≤ 400000000 := by have := HT.out; have := bulk_le l k; have := HB.out; omega
    have htb' : (t : Int) ≤ 2147483647 := by omega
    by_cases hp : k < l.length
    · have hpi : (k : Int) < (l.length : Int) := by omega
      obtain ⟨x, hx⟩ : ∃ x, l[k]? = some x := ⟨_, List.getElem?_eq_getElem hp⟩
      rcases H3.out with rfl | ⟨b, o, rfl, hbl, hc⟩
      · simp at hp
      obtain ⟨_, _, a3, c3, k4, _⟩ := hc k x hx
      have HT2 : Hid (t + x.2.2.length = k + bulk (l.take (k + 1))) := by show _ = _; rw [bulk_take l k x hx]; have := HT.out; omega
      have hxl : x.2.2.length ≤ 1048576 := by have := bulk_take l k x hx; have := bulk_le l (k + 1); have := HB.out; omega
      have M1 := hide (more_any t x.2.2.length wr (by omega))
      have M2 := hide (more_any (t + x.2.2.length) 1 wr (by omega))
      clear hc hx
      go_wp2_with fail
      refine M1.out.mono ?_
      rintro e w1 ⟨rfl, rfl⟩
      go_wp2_with fail
      refine M2.out.mono ?_
      rintro e w1 ⟨rfl, rfl⟩
      go_wp2_with fail
      go_roundg (l.length - (k + 1))
      case measure => omega
      case rel => exact ⟨k + 1, t + x.2.2.length + 1, by go_num, by go_num, by omega, Nat.le_refl _, rfl, (show t + x.2.2.length + 1 = _ by have := HT2.out; omega)⟩
    · have hpi : ¬ (k : Int) < (l.length : Int) := by omega
      go_wp2
      go_ret
      exact ⟨by first | rfl | (simp; omega), rfl⟩
end Go.Proofs.YtomgnailgddchaaDoor
