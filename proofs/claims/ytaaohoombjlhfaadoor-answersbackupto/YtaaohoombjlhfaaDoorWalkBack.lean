/-
  Replies, BackKit, WalkBack.
-/
import Derived.Test.YtaaohoombjlhfaaDoorBaseReply
import Derived.Test.YtaaohoombjlhfaaDoorKit
import Derived.Deep.Slices
import Derived.Deep.Cut
import Derived.Test.YtaaohoombjlhfaaDoorCutKit2
import Derived.Test.YtaaohoombjlhfaaDoorPutA
import Derived.Test.YtaaohoombjlhfaaDoorShownA
import Derived.Test.YtaaohoombjlhfaaDoorInts
import Derived.Deep.RegionWith
import Derived.Deep.CutRange
import Derived.Deep.CutBlock
import Derived.Deep.RegionHeld3
namespace Go.Proofs.YtaaohoombjlhfaaDoor
open Go.ChangeShapes Go.WideShapes Go.ChangeAt Go.RowKit

/-- The cells of a reply. -/
def RpCells (w : World) (b o : Nat) (r : Rp) : Prop :=
  w.cell? ⟨b, o, none⟩ = some (.int .i64 r.kind) ∧ w.cell? ⟨b, o + 1, none⟩ = some (.int .i64 r.id) ∧ w.cell? ⟨b, o + 2, none⟩ = some (.int .i64 r.num) ∧ w.cell? ⟨b, o + 3, none⟩ = some (.string ⟨r.tube.toArray⟩) ∧ ∃ a c, w.cell? ⟨b, o + 4, none⟩ = some (.slice a r.body.length c) ∧ IsBytes w a c r.body
/-- The slice at 'a', of capacity c, has the replies l. -/
def IsReps (w : World) (a : Option Addr) (c : Nat) (l : List Rp) : Prop :=
  l.length ≤ c ∧ c ≤ maxLen ∧ (l = [] ∨ ∃ b o, a = some ⟨b, o, none⟩ ∧ b < w.heap.size ∧ ∀ (j : Nat) x, l[j]? = some x → RpCells w b (o + j * 5) x)
/-- How many replies and bytes. -/
def totR (l : List Rp) : Nat := (l.map fun x => x.body.length + 1).sum

theorem RpCells.below {w w' : World} {b o : Nat} {x : Rp} (h : RpCells w b o x) (hb : b < w.heap.size) (hB : Below w.heap.size w w') : RpCells w' b o x := by
  obtain ⟨h0, h1, h2, h3, a, c, h4, h5⟩ := h
  exact ⟨(hB.cell (p := ⟨b, o, none⟩) hb).trans h0, (hB.cell (p := ⟨b, o + 1, none⟩) hb).trans h1, (hB.cell (p := ⟨b, o + 2, none⟩) hb).trans h2, (hB.cell (p := ⟨b, o + 3, none⟩) hb).trans h3, a, c, (hB.cell (p := ⟨b, o + 4, none⟩) hb).trans h4, h5.below hB⟩
theorem IsReps.below {w w' : World} {a : Option Addr} {c : Nat} {l : List Rp} (h : IsReps w a c l) (hB : Below w.heap.size w w') : IsReps w' a c l := by
  obtain ⟨h1, h2, h3⟩ := h
  refine ⟨h1, h2, ?_⟩
  rcases h3 with h3 | ⟨b, o, e, hb, h3⟩
  · exact .inl h3
  · exact .inr ⟨b, o, e, Nat.lt_of_lt_of_le hb hB.size, fun j x hx => (h3 j x hx).below hb hB⟩

set_option maxRecDepth 1000000 in
theorem open_rep {H : Type} {enc : TypeId × Value → H} {W : World} {n : Nat} {cs : List Value} {x : DataW H × List MemPlace}
    (h : DataW.trod enc Tryd.prog W 0 (fun _ => true) true n 24 cs = some x) : ∃ (r : Rp) (a : Option Addr) (c : Nat), cs = [.int .i64 r.kind, .int .i64 r.id, .int .i64 r.num, .string ⟨r.tube.toArray⟩, .slice a r.body.length c] ∧ IsBytes W a c r.body ∧ r.body.length + 1 ≤ Rows.uptoBulk x.1 := by
  obtain ⟨xs, k, _, hx, hl, hlen, hfs⟩ := DataW.trod_struct Tryd.underlying24 h
  rw [cellsReply] at hl
  match cs, hl with
  | [v0, v1, v2, v3, v4], _ =>
    have each : ∀ (i : Nat), i < 5 → ∃ y, xs[i]? = some y := fun i hi => ⟨_, List.getElem?_eq_getElem (by rw [hlen]; exact hi)⟩
    obtain ⟨x0, e0⟩ := each 0 (by decide)
    obtain ⟨x1, e1⟩ := each 1 (by decide)
    obtain ⟨x2, e2⟩ := each 2 (by decide)
    obtain ⟨x3, e3⟩ := each 3 (by decide)
    obtain ⟨x4, e4⟩ := each 4 (by decide)
    have z3 : Tryd.prog.cellsOf 3 = 1 := by kernel_rfl
    have z9 : Tryd.prog.cellsOf 9 = 1 := by kernel_rfl
    have z25 : Tryd.prog.cellsOf 22 = 1 := by kernel_rfl
    have t0 : DataW.trod enc Tryd.prog W 0 (fun _ => true) true k 3 [v0] = some x0 := by simpa [z3] using (hfs 0 _ rfl).trans e0
    have t1 : DataW.trod enc Tryd.prog W 0 (fun _ => true) true k 3 [v1] = some x1 := by simpa [z3] using (hfs 1 _ rfl).trans e1
    have t2 : DataW.trod enc Tryd.prog W 0 (fun _ => true) true k 3 [v2] = some x2 := by simpa [z3] using (hfs 2 _ rfl).trans e2
    have t3 : DataW.trod enc Tryd.prog W 0 (fun _ => true) true k 9 [v3] = some x3 := by simpa [z3, z9] using (hfs 3 _ rfl).trans e3
    have t4 : DataW.trod enc Tryd.prog W 0 (fun _ => true) true k 22 [v4] = some x4 := by simpa [z3, z9, z25] using (hfs 4 _ rfl).trans e4
    obtain ⟨n0, r0, _, _⟩ := DataW.trod_int Tryd.underlying3 t0
    obtain ⟨n1, r1, _, _⟩ := DataW.trod_int Tryd.underlying3 t1
    obtain ⟨n2, r2, _, _⟩ := DataW.trod_int Tryd.underlying3 t2
    obtain ⟨s, r3, _, _⟩ := DataW.trod_string Tryd.underlying9 t3
    obtain ⟨a, len, cap, r4⟩ := Go.Joins.slice_form Tryd.underlying22 t4
    simp only [List.cons.injEq, and_true] at r0 r1 r2 r3 r4
    subst r0 r1 r2 r3 r4
    obtain ⟨l, rfl, his, hb⟩ := open_bytes (d := x4.1) (p := x4.2) t4
    refine ⟨⟨n0, n1, n2, s.data.toList, l⟩, a, cap, rfl, his.1, ?_⟩
    rw [hx]
    have hmem : x4 ∈ xs := List.mem_of_getElem? e4
    have key : ∀ l : List (DataW H × List MemPlace), x4 ∈ l → Rows.uptoBulk x4.1 ≤ Rows.uptoBulkAll (l.map (·.1)) := by
      intro l
      induction l with
      | nil => intro h; cases h
      | cons q r ih =>
        intro h
        simp only [List.map_cons, Rows.uptoBulkAll]
        rcases List.mem_cons.1 h with h | h
        · subst h; omega
        · have := ih h; omega
    have := key xs hmem
    simp [Rows.uptoBulk]
    omega

theorem bulk_reps {H : Type} (D : Nat → DataW H) (y : Nat → Rp) : ∀ (l : List Nat), (∀ i ∈ l, (y i).body.length + 1 ≤ Rows.uptoBulk (D i)) → totR (l.map y) ≤ Rows.uptoBulkAll (l.map D)
  | [], _ => by simp [totR]
  | i :: l, h => by
    have ih := bulk_reps D y l (fun j hj => h j (List.mem_cons_of_mem _ hj))
    have hi := h i List.mem_cons_self
    simp only [totR, List.map_cons, List.sum_cons, Rows.uptoBulkAll] at ih ⊢
    omega

set_option maxRecDepth 100000 in
theorem open_reps {H : Type} {enc : TypeId × Value → H} {W : World} {a : Option Addr} {len cap fuel : Nat} {d : DataW H} {p : List MemPlace}
    (hf : DataW.trod enc Tryd.prog W 0 (fun _ => true) true fuel 52 (Value.slice a len cap).cells.toList = some (d, p)) :
    ∃ l : List Rp, l.length = len ∧ (IsReps W a cap l ∧ (a = none → cap = 0)) ∧ totR l + 1 ≤ Rows.uptoBulk d := by
  rcases Go.Deep.open_slice Tryd.underlying52 hf with ⟨hcs, hx⟩ | ⟨x, l, c, m, n, D, Pl, hcs, _, hl, hm, hmm, hx, hcell⟩
  · simp [Value.cells] at hcs
    obtain ⟨rfl, rfl, rfl⟩ := hcs
    simp only [Prod.mk.injEq] at hx
    exact ⟨[], rfl, ⟨⟨by simp, by simp [maxLen], .inl rfl⟩, fun _ => rfl⟩, by rw [hx.1]; simp [Rows.uptoBulk, totR]⟩
  · simp [Value.cells] at hcs
    obtain ⟨rfl, rfl, rfl⟩ := hcs
    simp only [if_true] at hmm
    subst hmm
    simp only [Prod.mk.injEq] at hx
    have hinh : Inhabited Rp := ⟨rp0⟩
    obtain ⟨y, hy⟩ := Deep.choose_lt (α := Rp) (p := fun i y => y.body.length + 1 ≤ Rows.uptoBulk (D i) ∧ ∃ a c, IsBytes W a c y.body ∧ ∀ k u, [Value.int .i64 y.kind, .int .i64 y.id, .int .i64 y.num, .string ⟨y.tube.toArray⟩, .slice a y.body.length c][k]? = some u → W.cell? ((x.add (i * 5)).add k) = some u) (fun i hi => by
      obtain ⟨cs', h1, h2⟩ := hcell i hi
      rw [cellsReply] at h1
      obtain ⟨_, hlen, hce⟩ := World.cells?_some h1
      obtain ⟨y, a, c, rfl, hy1, hb⟩ := open_rep h2
      exact ⟨y, hb, a, c, hy1, fun k u hu => (hce k (by have := (List.getElem?_eq_some_iff.1 hu).1; simpa using this)).trans hu⟩)
    refine ⟨(List.range len).map y, by simp, ⟨⟨by simpa using hl, hm, ?_⟩, fun h => by cases h⟩, ?_⟩
    · by_cases h0 : len = 0
      · left; subst h0; simp
      · right
        obtain ⟨b, o, spot⟩ := x
        obtain ⟨_, a0, c0, _, hk0⟩ := hy 0 (by omega)
        have hc0 := hk0 0 _ rfl
        have hspot : spot = none := by simpa [Addr.add] using World.cell?_spot hc0
        subst hspot
        refine ⟨b, o, rfl, ?_, fun j z hj => ?_⟩
        · have := World.block_lt_of_cell? _ _ hc0
          simpa [Addr.add] using this
        · have hjl : j < len := by have := (List.getElem?_eq_some_iff.1 hj).1; simpa using this
          rw [List.getElem?_map, List.getElem?_range hjl] at hj
          simp only [Option.map_some, Option.some.injEq] at hj
          subst hj
          obtain ⟨_, a', c', i1, hk⟩ := hy j (by omega)
          have ea : ∀ k, ((⟨b, o, none⟩ : Addr).add (j * 5)).add k = ⟨b, o + j * 5 + k, none⟩ := fun k => by
            unfold Addr.add
            split <;> split <;> simp_all
          have k0 := hk 0 _ rfl
          have k1 := hk 1 _ rfl
          have k2 := hk 2 _ rfl
          have k3 := hk 3 _ rfl
          have k4 := hk 4 _ rfl
          rw [ea] at k0 k1 k2 k3 k4
          exact ⟨k0, k1, k2, k3, a', c', k4, i1⟩
    · have := bulk_reps D y (List.range len) (fun i hi => (hy i (by have := List.mem_range.1 hi; omega)).1)
      rw [hx.1]
      simp only [Rows.uptoBulk]
      omega

/-- How many bytes the bodies of the first k have. -/
def bodR (l : List Rp) : Nat := (l.map fun x => x.body.length).sum
theorem bodR_take (l : List Rp) (k : Nat) (x : Rp) (h : l[k]? = some x) : bodR (l.take (k + 1)) = bodR (l.take k) + x.body.length := by
  unfold bodR
  rw [List.take_add_one, h]
  simp
theorem totR_bod : ∀ l : List Rp, totR l = bodR l + l.length
  | [] => rfl
  | x :: r => by
    have ih := totR_bod r
    simp only [totR, bodR, List.map_cons, List.sum_cons, List.length_cons] at ih ⊢
    omega
theorem bodR_le (l : List Rp) (k : Nat) : bodR (l.take k) ≤ bodR l := by
  have h : bodR l = bodR (l.take k) + bodR (l.drop k) := by unfold bodR; rw [← List.sum_append, ← List.map_append, List.take_append_drop]
  omega

set_option maxHeartbeats 1000000 in
set_option maxRecDepth 1000000 in
theorem more_any (n k : Nat) (w : World) (h : n + k ≤ 2147483647) :
    Calls Tryd.prog 44 #[.int .i64 n, .int .i64 k] w fun e w' => e = .returned (.int .i64 ((n + k : Nat) : Int)) ∧ w' = w := by
  have h1 : ¬ (2147483647 : Int) < n := by omega
  have h2 : ¬ (2147483647 : Int) - n < k := by omega
  have h3 : ¬ (n : Int) > 2147483647 := by omega
  have h4 : ¬ (k : Int) > 2147483647 - n := by omega
  go_enter Tryd.func44, Tryd.ntmps44
  go_wp2
  go_ret
  exact ⟨by go_num, rfl⟩

set_option maxHeartbeats 1000000 in
set_option maxRecDepth 1000000 in
theorem beyondReplies_any (a : Option Addr) (c : Nat) (l : List Rp) (w : World) (h : IsReps w a c l) (ht : totR l ≤ 1048576) :
    Calls Tryd.prog 28 #[.slice a l.length c] w fun e w' => e = .returned (.bool false) ∧ w' = w := by
  obtain ⟨h1, h2, h3⟩ := h
  unfold maxLen at h2
  have hb := totR_bod l
  have H3 : Hid (l = [] ∨ ∃ b o, a = some ⟨b, o, none⟩ ∧ b < w.heap.size ∧ ∀ (j : Nat) x, l[j]? = some x → RpCells w b (o + j * 5) x) := h3
  have HB : Hid (totR l = bodR l + l.length) := hb
  have hll : l.length ≤ 1048576 := by omega
  clear h3 hb
  go_enter Tryd.func28, Tryd.ntmps28
  go_wp2
  go_loopg [3, 4] l.length (fun gk n i wr => ∃ (k t : Nat), n = .int .i64 t ∧ i = .int .i64 k ∧ k ≤ l.length ∧ l.length - k ≤ gk ∧ wr = w ∧ Hid (t = 300 * k + bodR (l.take k)))
  case atStart => exact ⟨0, 0, rfl, rfl, Nat.zero_le _, Nat.le_refl _, rfl, (show 0 = 300 * 0 + bodR (l.take 0) by simp [bodR])⟩
  case round =>
    obtain ⟨k, t, rfl, rfl, hk, hgk, hwr, HT⟩ := hrel
    subst hwr
    have htb : t ≤ 400000000 := by have := HT.out; have := bodR_le l k; have := HB.out; omega
    have htb' : (t : Int) ≤ 2147483647 := by omega
    by_cases hp : k < l.length
    · have hpi : (k : Int) < (l.length : Int) := by omega
      obtain ⟨x, hx⟩ : ∃ x, l[k]? = some x := ⟨_, List.getElem?_eq_getElem hp⟩
      rcases H3.out with rfl | ⟨b, o, rfl, hbl, hc⟩
      · simp at hp
      obtain ⟨_, _, _, _, a3, c3, k4, _⟩ := hc k x hx
      have HT2 : Hid (t + x.body.length = 300 * k + bodR (l.take (k + 1))) := by show _ = _; rw [bodR_take l k x hx]; have := HT.out; omega
      have hxl : x.body.length ≤ 1048576 := by have := bodR_take l k x hx; have := bodR_le l (k + 1); have := HB.out; omega
      have M1 := hide (more_any t x.body.length wr (by omega))
      have M2 := hide (more_any (t + x.body.length) 300 wr (by omega))
      clear hc hx
      go_wp2_with fail
      refine M1.out.mono ?_
      rintro e w1 ⟨rfl, rfl⟩
      go_wp2_with fail
      refine M2.out.mono ?_
      rintro e w1 ⟨rfl, rfl⟩
      go_wp2_with fail
      go_roundg (l.length - (k + 1))
      case measure => omega
      case rel => exact ⟨k + 1, t + x.body.length + 300, by go_num, by go_num, by omega, Nat.le_refl _, rfl, (show t + x.body.length + 300 = _ by have := HT2.out; omega)⟩
    · have hpi : ¬ (k : Int) < (l.length : Int) := by omega
      go_wp2
      go_ret
      exact ⟨by first | rfl | (simp; omega), rfl⟩
end Go.Proofs.YtaaohoombjlhfaaDoor

namespace Go.Proofs.YtaaohoombjlhfaaDoor
open Go.RowKit

/-- One reader, bytes of our own, a list of replies whose bodies are the caller's. -/
structure Bench (w0 w : World) (rb : Nat) (rv : Value) (A : List UInt8) (g : Nat) (av : Value) (L : List UInt8) (v : Value) (P : List (Rp × Value)) : Prop where
  below : Below w0.heap.size w0 w
  rd : RdAt w rb rv A g
  all : Own w w0.heap.size av L
  row : w.ownsRow w0.heap.size 24 5 v P.length (flatR P)
  body : ∀ p ∈ P, ∃ a c, p.2 = .slice a p.1.body.length c ∧ IsBytes w0 a c p.1.body
  ap : ∀ k, Mine rb rv k → ¬ av.ownBlock = some k
  low : ∀ k, Mine rb rv k → w0.heap.size ≤ k

section
variable {w0 w w' : World} {rb : Nat} {rv : Value} {A : List UInt8} {g : Nat} {av : Value} {L : List UInt8} {v : Value} {P : List (Rp × Value)}
theorem Bench.block (h : Bench w0 w rb rv A g av L v P) {k : Nat} (hk : v.ownBlock = some k) : ∃ cur, w.heap[k]? = some (.cells cur 24 (0, 0)) ∧ w0.heap.size ≤ k := by
  rcases h.row.2 with ⟨rfl, _⟩ | ⟨g, cap, cur, rfl, hB, hg, _⟩
  · cases hk
  · simp only [Value.ownBlock, Option.some.injEq] at hk
    subst hk
    exact ⟨cur, hg, hB⟩
theorem row_kept {K : Nat → Prop} {lo n : Nat} {xs : List Value} (h : w.ownsRow lo 24 5 v n xs) (hk : Kept K w w') (h1 : ∀ k, v.ownBlock = some k → ¬ K k) : w'.ownsRow lo 24 5 v n xs := by
  refine ⟨h.1, ?_⟩
  rcases h.2 with h0 | ⟨g, cap, cur, rfl, hB, hg, rest⟩
  · exact .inl h0
  · exact .inr ⟨g, cap, cur, rfl, hB, (hk.block g (Array.getElem?_eq_some_iff.1 hg).1 (h1 g rfl)).trans hg, rest⟩
theorem Bench.later (h : Bench w0 w rb rv A g av L v P) (hb : Below w.heap.size w w') : Bench w0 w' rb rv A g av L v P :=
  ⟨h.below.trans (hb.mono h.below.size), h.rd.below hb, h.all.below hb, row_kept (K := fun _ => False) h.row (Kept.ofBelow hb) (fun _ _ => id), h.body, h.ap, h.low⟩
theorem Bench.read (h : Bench w0 w rb rv A g av L v P) {A' : List UInt8} {g' : Nat} {rv' : Value} (h1 : RdAt w' rb rv' A' g') (h2 : Kept (Mine rb rv) w w') (h3 : ∀ k, Mine rb rv' k → Mine rb rv k ∨ w.heap.size ≤ k) : Bench w0 w' rb rv' A' g' av L v P := by
  have hs := h.below.size
  refine ⟨h.below.trans (h2.below hs (fun k hk e => ?_)), h1, h.all.kept h2 (fun k e hm => h.ap k hm e), row_kept h.row h2 (fun k e => ?_), h.body, fun k hk e => ?_, fun k hk => ?_⟩
  · have := h.low k e
    omega
  · obtain ⟨cur, hc, _⟩ := h.block e
    exact h.rd.notRow hc
  · rcases h3 k hk with hm | hm
    · exact h.ap k hm e
    · have := (h.all.old k e).2
      omega
  · rcases h3 k hk with hm | hm
    · exact h.low k hm
    · omega
theorem Bench.grow (h : Bench w0 w rb rv A g av L v P) {m : List UInt8} {av' : Value} (h1 : Own w' w0.heap.size av' (L ++ m)) (h2 : w.grownBy w' av.ownBlock) (h3 : av'.ownBlock = av.ownBlock ∨ av'.ownBlock = some w.heap.size) : Bench w0 w' rb rv A g av' (L ++ m) v P := by
  have K1 : Kept (fun k => av.ownBlock = some k) w w' := Kept.ofGrown h2 (fun _ e => e)
  have hs := h.below.size
  refine ⟨h.below.trans (K1.below hs (fun k hk e => ?_)), h.rd.kept K1 (fun k hm e => h.ap k hm e), h1, row_kept h.row K1 (fun k e e2 => ?_), h.body, fun k hk e => ?_, h.low⟩
  · have := (h.all.old k e).1
    omega
  · obtain ⟨cur, hc, _⟩ := h.block e
    exact h.all.notRow hc e2
  · rcases h3 with h3 | h3
    · rw [h3] at e
      exact h.ap k hk e
    · rw [h3] at e
      have := h.rd.lt hk
      cases e
      omega
theorem Bench.push (h : Bench w0 w rb rv A g av L v P) {v' : Value} (p : Rp × Value) (hp : ∃ a c, p.2 = .slice a p.1.body.length c ∧ IsBytes w0 a c p.1.body)
    (hr : w'.ownsRow w0.heap.size 24 5 v' (P.length + 1) (flatR P ++ cellR p)) (hg : w.grownBy w' v.ownBlock) : Bench w0 w' rb rv A g av L v' (P ++ [p]) := by
  have K1 : Kept (fun k => v.ownBlock = some k) w w' := Kept.ofGrown hg (fun _ e => e)
  have hs := h.below.size
  refine ⟨h.below.trans (K1.below hs (fun k hk e => ?_)), h.rd.kept K1 (fun k hm e => ?_), h.all.kept K1 (fun k e1 e => ?_), ?_, fun q hq => ?_, h.ap, h.low⟩
  · obtain ⟨cur, hc, h1⟩ := h.block e
    omega
  · obtain ⟨cur, hc, h1⟩ := h.block e
    exact h.rd.notRow hc hm
  · obtain ⟨cur, hc, h1⟩ := h.block e
    exact h.all.notRow hc e1
  · rw [flatR_snoc, List.length_append]
    exact hr
  · rcases List.mem_append.1 hq with e | e
    · exact h.body q e
    · rw [List.mem_singleton.1 e]
      exact hp
end
/-- What is written behind what was written is told behind it. -/
theorem Told.put {L : List UInt8} {l : List Rp} {r : Rp} (h : Told L 0 l L.length) (hr : rightB r = true) : Told (L ++ putL r) 0 (l ++ [r]) (L ++ putL r).length := by
  have e : readP ((L ++ putL r).drop L.length) = (r, (putL r).length, 0) := by
    rw [List.drop_left]
    have := put_read hr []
    rw [List.append_nil] at this
    exact this
  have h2 := Told.snoc l 0 L.length (Told.app (x := putL r) l 0 L.length h) (by rw [e])
  rw [e] at h2
  rw [List.length_append]
  exact h2
theorem told_scan {b : List UInt8} : ∀ (l : List Rp) (g : Nat), Told b g l b.length → scan (b.drop g) = (b.length - g, 0)
  | [], g, h => by
    have e : b.length = g := h
    rw [← e, List.drop_length, scan_nil, Nat.sub_self]
  | x :: l, g, h => by
    have ih := told_scan l _ h.2.2
    have h1 := Told.len l _ _ h.2.2
    have h2 := (good_pos h.1).1
    rw [scan_good h.1, List.drop_drop, ih]
    simp only [Prod.mk.injEq, and_true]
    omega
theorem told_whole {b : List UInt8} {l : List Rp} (h : Told b 0 l b.length) : scan b = (b.length, 0) := by
  have := told_scan l 0 h
  simpa using this
theorem scan_part {b : List UInt8} (h : (scan b).2 = 0) (n : Nat) : (scan (b.take n)).2 = 0 := by
  have := scan_app (b.take n) (b.drop n)
  rw [List.take_append_drop] at this
  by_cases h0 : (scan (b.take n)).2 = 0
  · exact h0
  · rw [if_neg h0] at this
    rw [this] at h
    exact h
theorem put_short {r : Rp} (h : rightB r = true) : (putL r).length ≤ 2004 + r.body.length := by
  have h1 := line_short h
  unfold putL
  split <;> simp only [List.length_append, List.length_cons, List.length_nil] at h1 ⊢ <;> omega
end Go.Proofs.YtaaohoombjlhfaaDoor

namespace Go.Proofs.YtaaohoombjlhfaaDoor.answersBack
open Go.RowKit

theorem own_bytes {w : World} {B : Nat} {a : Option Addr} {n c : Nat} {l : List UInt8} (h : Own w B (.slice a n c) l) : IsBytes w a c l := by
  obtain ⟨a', c', e, h⟩ := h.shape
  cases e
  exact h
set_option maxHeartbeats 4000000 in
set_option maxRecDepth 1000000 in
theorem walk (a : Option Addr) (c : Nat) (rs : List Rp) (ca : Option Addr) (cc : Nat) (cuts : List Int) (w : World) (hr : IsReps w a c rs) (hc : IsInts w ca cc cuts) (T : Tabs w ∧ 5 ≤ w.heap.size) (hrl : totR rs ≤ 1048576) (hcl : cuts.length ≤ 1048576) :
    Calls Tryd.prog 5 #[.slice a rs.length c, .slice ca cuts.length cc] w fun e w' => e = .returned (.bool true) ∧ Below w.heap.size w w' := by
  have HH : Hid (IsReps w a c rs ∧ IsInts w ca cc cuts ∧ Tabs w ∧ 5 ≤ w.heap.size ∧ totR rs ≤ 1048576 ∧ totR rs = bodR rs + rs.length) := ⟨hr, hc, T.1, T.2, hrl, totR_bod rs⟩
  have hrn : rs.length ≤ 1048576 := by have := totR_bod rs; omega
  clear hr hc T hrl
  go_enter Tryd.func5, Tryd.ntmps5
  go_wp2_with fail
  refine (beyondReplies_any a c rs w HH.out.1 HH.out.2.2.2.2.1).mono ?_
  rintro e w0 ⟨rfl, hW⟩
  have hW := hW.symm
  subst hW
  go_wp2_with fail
  refine (shown_any w HH.out.2.2.1 HH.out.2.2.2.1).mono ?_
  rintro e w1 ⟨rfl, B1⟩
  have H1 : Hid (Below w.heap.size w w1 ∧ 5 ≤ w1.heap.size) := ⟨B1, Nat.le_trans HH.out.2.2.2.1 B1.size⟩
  clear B1
  go_wp2_with fail
  refine (new_rd w1 H1.out.2).mono ?_
  rintro x w2 ⟨rfl, r2, B2⟩
  obtain ⟨rb, hrb⟩ : ∃ rb, rb = w1.heap.size := ⟨_, rfl⟩
  rw [← hrb] at r2 ⊢
  have H2 : Hid (RdAt w2 rb (.slice none 0 0) [] 0 ∧ Below w.heap.size w w2 ∧ w.heap.size ≤ rb) := ⟨r2, H1.out.1.trans (B2.mono H1.out.1.size), by rw [hrb]; exact H1.out.1.size⟩
  clear r2 B2 hrb
  obtain ⟨w3, hw3⟩ : ∃ w3, w3 = (w2.alloc (.cells #[] 5)).alloc (.cells #[] 24) := ⟨_, rfl⟩
  obtain ⟨ab, hab⟩ : ∃ ab, ab = w2.heap.size := ⟨_, rfl⟩
  obtain ⟨gb, hgb⟩ : ∃ gb, gb = w2.heap.size + 1 := ⟨_, rfl⟩
  have hmr : ∀ k, Mine rb (.slice none 0 0) k → k = rb := by
    rintro k (e | e)
    · exact e
    · cases e
  have D3 : Hid (Bench w w3 rb (.slice none 0 0) [] 0 (.slice (some ⟨ab, 0, none⟩) 0 0) [] (.slice (some ⟨gb, 0, none⟩) 0 0) []) := by
    have hs := H2.out.2.1.size
    have Ba : Below w2.heap.size w2 (w2.alloc (.cells #[] 5)) := (Below.refl _ w2).alloc (Nat.le_refl _) _
    have Bb : Below w2.heap.size w2 w3 := by rw [hw3]; exact Ba.alloc (by simp) _
    refine ⟨H2.out.2.1.trans (Bb.mono hs), H2.out.1.below Bb, ?_, ?_, (fun p hp => by cases hp), fun k hk e => ?_, fun k hk => ?_⟩
    · have h0 : Own (w2.alloc (.cells #[] 5)) w.heap.size (.slice (some ⟨w2.heap.size, 0, none⟩) 0 0) [] := World.ownsRow_made w2 #[] 0 hs (by unfold maxLen; omega) (by simp)
      rw [hw3, hab]
      exact h0.below ((Below.refl _ _).alloc (Nat.le_refl _) _)
    · have := (reps_nil (w2.alloc (.cells #[] 5)) w.heap.size (by rw [World.size_alloc]; omega)).row
      rw [World.size_alloc] at this
      rw [hw3, hgb]
      exact this
    · have h1 := hmr k hk
      have h2 := H2.out.1.lt (.inl rfl)
      simp only [Value.ownBlock, Option.some.injEq] at e
      omega
    · have h1 := hmr k hk
      have := H2.out.2.2
      omega
  go_upto_block 0 with fail
  rw [← hw3, ← hgb, ← hab]
  clear hw3 hgb hab hmr
  go_cut [6, 7, 8, 9, 10, 11] from 28 to 70 (fun av v _ _ _ _ wx => ∃ (L : List UInt8) (P : List (Rp × Value)), Hid (Bench w wx rb (.slice none 0 0) [] 0 av L v P ∧ Told L 0 (P.map (·.1)) L.length ∧ L.length ≤ 2147483648 ∧ P.length ≤ 1048576))
  case first =>
    go_wp2_with fail
    go_loopg [6, 7, 8] rs.length (fun gk av v i wr => ∃ (k : Nat) (L : List UInt8) (P : List (Rp × Value)), i = .int .i64 k ∧ k ≤ rs.length ∧ rs.length - k ≤ gk ∧ Hid (Bench w wr rb (.slice none 0 0) [] 0 av L v P ∧ Told L 0 (P.map (·.1)) L.length ∧ L.length ≤ 2004 * k + bodR (rs.take k) ∧ P.length ≤ k))
    case atStart => exact ⟨0, [], [], rfl, Nat.zero_le _, Nat.le_refl _, D3.out, rfl, Nat.zero_le _, Nat.le_refl _⟩
    case round =>
      obtain ⟨k, L, P, rfl, hk, hgk, HI⟩ := hrel
      by_cases hp : k < rs.length
      · have hpi : (k : Int) < (rs.length : Int) := by omega
        obtain ⟨r, hx⟩ : ∃ x, rs[k]? = some x := ⟨_, List.getElem?_eq_getElem hp⟩
        rcases HH.out.1.2.2 with rfl | ⟨b, o, rfl, hbl, hcell⟩
        · simp at hp
        obtain ⟨y0, y1, y2, y3, ra, rc, y4, yb⟩ := hcell k r hx
        have HC : Hid (∀ W : World, Below w.heap.size w W → W.cell? ⟨b, o + k * 5, none⟩ = some (.int .i64 r.kind) ∧ W.cell? ⟨b, o + k * 5 + 1, none⟩ = some (.int .i64 r.id) ∧ W.cell? ⟨b, o + k * 5 + 2, none⟩ = some (.int .i64 r.num) ∧ W.cell? ⟨b, o + k * 5 + 3, none⟩ = some (.string ⟨r.tube.toArray⟩) ∧ W.cell? ⟨b, o + k * 5 + 4, none⟩ = some (.slice ra r.body.length rc)) := fun W hB =>
          ⟨(hB.cell (p := ⟨b, o + k * 5, none⟩) hbl).trans y0, (hB.cell (p := ⟨b, o + k * 5 + 1, none⟩) hbl).trans y1, (hB.cell (p := ⟨b, o + k * 5 + 2, none⟩) hbl).trans y2, (hB.cell (p := ⟨b, o + k * 5 + 3, none⟩) hbl).trans y3, (hB.cell (p := ⟨b, o + k * 5 + 4, none⟩) hbl).trans y4⟩
        have HY : Hid (IsBytes w ra rc r.body ∧ rs[k]? = some r) := ⟨yb, hx⟩
        clear y0 y1 y2 y3 y4 yb hx hcell
        obtain ⟨x0, x1, x2, x3, x4⟩ := HC.out wr HI.out.1.below
        have CA := check_any wr r ra rc (HH.out.2.2.1.below HI.out.1.below)
        unfold rpV at CA
        have HCA := hide CA
        clear CA
        go_wp2_with fail
        refine HCA.out.mono ?_
        rintro e w5 ⟨rfl, B5⟩
        have D5 := hide (HI.out.1.later B5)
        clear x0 x1 x2 x3 x4 B5 HCA
        obtain ⟨x0, x1, x2, x3, x4⟩ := HC.out w5 D5.out.below
        have PA := put_any w5 r ra rc (HY.out.1.below D5.out.below) (HH.out.2.2.1.below D5.out.below)
        unfold rpV at PA
        have HPA := hide PA
        clear PA
        go_wp2_with fail
        refine HPA.out.mono ?_
        rintro e w6 ⟨B6, h6⟩
        have D6 := hide (D5.out.later B6)
        clear B6 HPA x0 x1 x2 x3 x4
        rcases h6 with ⟨hne, rfl⟩ | ⟨h0, v, rfl, hov⟩
        · have hzb : (checkE r == 0) = false := by simpa using hne
          generalize checkE r = z at hzb hne ⊢
          go_wp2_with fail
          go_roundg (rs.length - (k + 1))
          case measure => omega
          case rel =>
            refine ⟨k + 1, L, P, by go_num, by omega, Nat.le_refl _, D6.out, HI.out.2.1, ?_, by have := HI.out.2.2.2; omega⟩
            rw [bodR_take rs k r HY.out.2]
            have := HI.out.2.2.1
            omega
        · rw [h0]
          obtain ⟨a7, c7, rfl, hI7, _⟩ := hov.is
          have hrt := check_right h0
          have HR : Hid (rightB r = true ∧ (putL r).length ≤ 2004 + r.body.length) := ⟨hrt, put_short hrt⟩
          have HI7 := hide hI7
          have hLb : L.length + (putL r).length ≤ 140737488355328 := by
            have h1 := HI.out.2.2.1
            have h2 := bodR_le rs k
            have h3 := HH.out.2.2.2.2
            have h4 := put_short hrt
            have h5 := bodR_take rs k r HY.out.2
            have h6 := bodR_le rs (k + 1)
            omega
          have hPk : P.length ≤ 1048576 := by have := HI.out.2.2.2; omega
          clear hov hI7 hrt h0
          go_upto_region 18 with fail
          go_wp2_with (first
            | (refine wpList_append8 rfl (.tmp 61) (.tmp 62) rfl w.heap.size u6 L (by rfl) D6.out.all a7 c7 (putL r) (by rfl) HI7.out hLb D6.out.below.size ?_
               intro v7 w7 o7 g7 p7 l7 n7
               have D7 := hide (D6.out.grow o7 g7 l7)
               clear o7 g7 p7 l7 n7
               obtain ⟨x0, x1, x2, x3, x4⟩ := HC.out w7 D7.out.below)
            | (refine wpList_reps rfl (.tmp 64) (.tmp 69) rfl w7 w.heap.size D7.out.below.size u7 P (r, .slice ra r.body.length rc) [.int .i64 r.kind, .int .i64 r.id, .int .i64 r.num, .string ⟨r.tube.toArray⟩, .slice ra r.body.length rc] rfl D7.out.row (by omega) rfl (by rfl) (by rfl) ?_
               intro v8 w8 r8 g8
               have D8 := hide (D7.out.push (r, .slice ra r.body.length rc) ⟨ra, rc, rfl, HY.out.1⟩ r8 g8)
               clear r8 g8))
          go_roundg (rs.length - (k + 1))
          case measure => omega
          case rel =>
            refine ⟨k + 1, L ++ putL r, P ++ [(r, .slice ra r.body.length rc)], by go_num, by omega, Nat.le_refl _, D8.out, ?_, ?_, ?_⟩
            · rw [List.map_append]
              exact HI.out.2.1.put HR.out.1
            · rw [bodR_take rs k r HY.out.2, List.length_append]
              have h1 := HI.out.2.2.1
              have h2 := HR.out.2
              omega
            · rw [List.length_append]
              have := HI.out.2.2.2
              simp
              omega
      · have hpi : ¬ (k : Int) < (rs.length : Int) := by omega
        go_wp2_with fail
        go_meet
        refine ⟨L, P, HI.out.1, HI.out.2.1, ?_, ?_⟩
        · have h1 := HI.out.2.2.1
          have h2 := bodR_le rs k
          have h3 := HH.out.2.2.2.2
          omega
        · have := HI.out.2.2.2
          omega
  case rest =>
    obtain ⟨L, P, HI0⟩ := hcut
    clear D3
    have HW : Hid (scan L = (L.length, 0)) := told_whole HI0.out.2.1
    have hLm := HI0.out.2.2.1
    have hPm := HI0.out.2.2.2
    obtain ⟨aa, cap, rfl, hIa, _⟩ := HI0.out.1.all.slice
    have HV : Hid (∃ av cv, u7 = .slice av P.length cv) := by
      rcases HI0.out.1.row.2 with ⟨e, h⟩ | ⟨g', cap, cur, e, _⟩
      · exact ⟨none, 0, by rw [e, h]⟩
      · exact ⟨_, _, e⟩
    obtain ⟨av, cv, rfl⟩ := HV.out
    have hcap : L.length ≤ cap ∧ cap ≤ 9223372036854775807 := by have h1 := hIa.1; have h2 := hIa.2.1; unfold maxLen at h2; omega
    obtain ⟨hcap1, hcap2⟩ := hcap
    clear hIa HV
    go_wp2_with fail
    go_loopg [12, 13, 14] (cuts.length + 1) (fun gk told at_ i wr => ∃ (k n g t : Nat) (rv : Value), told = .int .i64 t ∧ at_ = .int .i64 n ∧ i = .int .i64 k ∧ k ≤ cuts.length + 1 ∧ cuts.length + 1 - k ≤ gk ∧ n ≤ L.length ∧ t ≤ P.length ∧ Hid (Bench w wr rb rv (L.take n) g (.slice aa L.length cap) L (.slice av P.length cv) P ∧ Told L g ((P.drop t).map (·.1)) L.length ∧ (k = cuts.length + 1 → n = L.length ∧ g = (scan L).1)))
    case atStart => exact ⟨0, 0, 0, 0, _, rfl, rfl, rfl, Nat.zero_le _, Nat.le_refl _, Nat.zero_le _, Nat.zero_le _, by rw [List.take_zero]; exact HI0.out.1, HI0.out.2.1, fun h => by omega⟩
    case round =>
      obtain ⟨k, n, g, t, rv, rfl, rfl, rfl, hk, hgk, hn, ht, HI⟩ := hrel
      by_cases hp : k ≤ cuts.length
      · have hpi : (k : Int) ≤ (cuts.length : Int) := by omega
        go_upto_region 26 with fail
        go_cut [99] from 81 to 98 (fun y wx => ∃ q : Bool, y = .bool q ∧ wx = wr ∧ Hid (q = true → ∃ x : Nat, cuts[k]? = some (x : Int) ∧ n + x ≤ L.length))
        case first =>
          by_cases hk2 : k < cuts.length
          · have hki : (k : Int) < (cuts.length : Int) := by omega
            obtain ⟨x, hx⟩ : ∃ x, cuts[k]? = some x := ⟨_, List.getElem?_eq_getElem hk2⟩
            obtain ⟨b1, o1, rfl, hcx⟩ := (HH.out.2.1.below HI.out.1.below).cell hx
            have HX := hide hx
            clear hx
            by_cases h0 : x < 0
            · have h0' : ¬ 0 ≤ x := by omega
              go_wp2_with fail
              go_meet
              exact ⟨false, rfl, rfl, fun h => by cases h⟩
            · have h0' : 0 ≤ x := by omega
              by_cases h1 : x < (L.length : Int) - n
              · go_wp2_with fail
                go_meet
                exact ⟨true, rfl, rfl, fun _ => ⟨x.toNat, by rw [HX.out]; congr 1; omega, by omega⟩⟩
              · go_wp2_with fail
                go_meet
                exact ⟨false, rfl, rfl, fun h => by cases h⟩
          · have hki : ¬ (k : Int) < (cuts.length : Int) := by omega
            go_wp2_with fail
            go_meet
            exact ⟨false, rfl, rfl, fun h => by cases h⟩
        case rest =>
          obtain ⟨q, rfl, rfl, HQ⟩ := hcut
          go_upto_if 99 with fail
          go_cut [15] from 100 to 103 (fun y wx => ∃ m : Nat, y = .int .i64 m ∧ wx = wc ∧ n + m ≤ L.length ∧ Hid (k = cuts.length → n + m = L.length))
          case first =>
            cases q
            · go_wp2_with fail
              go_meet
              exact ⟨L.length - n, by congr 1; omega, rfl, by omega, (show k = cuts.length → n + (L.length - n) = L.length by omega)⟩
            · obtain ⟨x, hx, hxl⟩ := HQ.out rfl
              have hk2 := (List.getElem?_eq_some_iff.1 hx).1
              have hki : (k : Int) < (cuts.length : Int) := by omega
              obtain ⟨b1, o1, rfl, hcx⟩ := (HH.out.2.1.below HI.out.1.below).cell hx
              clear hx
              go_wp2_with fail
              go_meet
              exact ⟨x, rfl, rfl, hxl, (show k = cuts.length → n + x = L.length by omega)⟩
          case rest =>
            obtain ⟨m, rfl, rfl, hnm, HM⟩ := hcut
            clear HQ
            go_upto_region 28 with fail
            have HS : Hid (∀ a' c', IsBytes wc a' c' ((L.drop n).take m) → Calls Tryd.prog 29 #[.pointer (some ⟨rb, 0, none⟩), .slice a' m c'] wc fun e w' => e = .returned (.tuple #[]) ∧ ∃ rv', Bench w w' rb rv' (L.take (n + m)) g (.slice aa L.length cap) L (.slice av P.length cv) P) := by
              intro a' c' hx'
              have h := feed_any wc rb rv (L.take n) ((L.drop n).take m) g a' c' HI.out.1.rd hx' (by simp; omega) (HH.out.2.2.1.below HI.out.1.below)
              rw [show ((L.drop n).take m).length = m by simp; omega, take_to] at h
              refine h.mono ?_
              rintro e w' ⟨rfl, rv', h1, h2, h3⟩
              exact ⟨rfl, rv', HI.out.1.read h1 h2 h3⟩
            have HB := hide (own_bytes HI.out.1.all)
            have HTo := hide HI.out.2
            go_cut [111] from 104 to 110 (fun _ wx => ∃ rv', Hid (Bench w wx rb rv' (L.take (n + m)) g (.slice aa L.length cap) L (.slice av P.length cv) P))
            case first =>
              go_wp2_with fail
              case inl =>
                have E0 : Hid ((L.drop n).take m = [] ∧ m = 0) := by
                  have hm0 : m = 0 := by omega
                  exact ⟨by rw [hm0, List.take_zero], hm0⟩
                have HC := hide h
                clear h
                refine (HS.out _ _ (by rw [E0.out.1]; exact IsBytes.empty _ _ (Nat.zero_le _))).mono ?_
                rintro e w' ⟨rfl, rv', D'⟩
                have D' := hide D'
                go_wp2_with fail
                have h := HC.out
                subst h
                go_meet
                exact ⟨rv', D'⟩
              case inr =>
                refine (HS.out _ _ ((HB.out.map n (by omega)).take m)).mono ?_
                rintro e w' ⟨rfl, rv', D'⟩
                have D' := hide D'
                go_wp2_with fail
                go_meet
                exact ⟨rv', D'⟩
            case rest =>
              obtain ⟨rv', HD⟩ := hcut
              clear HS HI HB
              have hAl : (L.take (n + m)).length ≤ 4294967296 := by simp; omega
              have HZ : Hid ((scan (L.take (n + m))).2 = 0) := scan_part (by rw [HW.out]) _
              go_wp2_with fail
              go_loopg [12] (L.length + 1) (fun gk told wr => ∃ (g t : Nat) (rv : Value), told = .int .i64 t ∧ t ≤ P.length ∧ L.length - g + 1 ≤ gk ∧ Hid (Bench w wr rb rv (L.take (n + m)) g (.slice aa L.length cap) L (.slice av P.length cv) P ∧ Told L g ((P.drop t).map (·.1)) L.length))
              case atStart => exact ⟨g, t, rv', rfl, ht, by omega, HD.out, HTo.out.1⟩
              case round =>
                clear HD HTo
                obtain ⟨g, t, rv, rfl, ht, hgk2, HI⟩ := hrel
                go_wp2_with fail
                refine (next_any wr rb rv (L.take (n + m)) g HI.out.1.rd hAl (HH.out.2.2.1.below HI.out.1.below)).mono ?_
                rintro e w6 hN
                rcases hN with ⟨hlt, ab, cb, rfl, ho, rv2, r2, K2, m2, ap2⟩ | ⟨hge, rfl, rv2, r2, K2, m2⟩
                · have h0 := rd_next HI.out.1.rd hlt
                  have hrt := read_take h0
                  rw [← hrt] at h0 ho r2 ⊢
                  have hgl : g < L.length := good_lt h0
                  have htP : t < P.length := by
                    rcases Nat.lt_or_ge t P.length with h | h
                    · exact h
                    · have := Told.over HI.out.2 h
                      omega
                  obtain ⟨q, hq⟩ : ∃ q, P[t]? = some q := ⟨_, List.getElem?_eq_getElem htP⟩
                  have hT := Told.head HI.out.2 hq
                  have hpos := (good_pos h0).1
                  obtain ⟨r, hr⟩ : ∃ r, r = (readP (L.drop g)).1 := ⟨_, rfl⟩
                  obtain ⟨p, hp'⟩ : ∃ p, p = (readP (L.drop g)).2.1 := ⟨_, rfl⟩
                  rw [← hr, ← hp'] at hT
                  rw [← hp'] at r2 hpos
                  rw [← hr] at ho ⊢
                  have HQ := hide (And.intro hq hT.2.1)
                  have HT := hide hT.2.2
                  have D6 := hide (HI.out.1.read r2 K2 m2)
                  have HO := hide (own_bytes ho)
                  clear h0 hrt hlt hq hT r2 K2 m2 ap2 ho hr hp'
                  obtain ⟨q1, q2⟩ := q
                  obtain rfl : r = q1 := HQ.out.2
                  obtain ⟨ay, cy, hq2, hIy⟩ := D6.out.body _ (List.mem_of_getElem? HQ.out.1)
                  simp only at hq2 hIy
                  subst hq2
                  have HY := hide hIy
                  clear hIy
                  obtain ⟨w7, hw7⟩ : ∃ w7, w7 = w6.alloc (.cells #[.int .i64 r.kind, .int .i64 r.id, .int .i64 r.num, .string ⟨r.tube.toArray⟩, .slice ab r.body.length cb] 24) := ⟨_, rfl⟩
                  obtain ⟨xb, hxb⟩ : ∃ xb, xb = w6.heap.size := ⟨_, rfl⟩
                  have hbx : w7.heap[xb]? = some (.cells #[.int .i64 r.kind, .int .i64 r.id, .int .i64 r.num, .string ⟨r.tube.toArray⟩, .slice ab r.body.length cb] 24 (0, 0)) := by rw [hw7, hxb]; exact heap_alloc_new _ _
                  have B7 : Below w6.heap.size w6 w7 := by rw [hw7]; exact (Below.refl _ w6).alloc (Nat.le_refl _) _
                  have D7 := hide (D6.out.later B7)
                  have HSR : Hid (∀ W, Below w7.heap.size w7 W → Calls Tryd.prog 31 #[.agg #[.int .i64 r.kind, .int .i64 r.id, .int .i64 r.num, .string ⟨r.tube.toArray⟩, .slice ab r.body.length cb], .agg #[.int .i64 r.kind, .int .i64 r.id, .int .i64 r.num, .string ⟨r.tube.toArray⟩, .slice ay r.body.length cy]] W fun e w' => e = .returned (.bool true) ∧ Below W.heap.size W w') := by
                    intro W hW
                    have h := sameReply_any r r ab ay cb cy W ((HO.out.below B7).below hW) ((HY.out.below D7.out.below).below hW)
                    rw [(alike_iff r r).2 rfl] at h
                    unfold rpV at h
                    exact h
                  have x0 : w7.cell? ⟨xb, 0, none⟩ = some (.int .i64 r.kind) := by simp [World.cell?, hbx]
                  have x1 : w7.cell? ⟨xb, 1, none⟩ = some (.int .i64 r.id) := by simp [World.cell?, hbx]
                  have x2 : w7.cell? ⟨xb, 2, none⟩ = some (.int .i64 r.num) := by simp [World.cell?, hbx]
                  have x3 : w7.cell? ⟨xb, 3, none⟩ = some (.string ⟨r.tube.toArray⟩) := by simp [World.cell?, hbx]
                  have x4 : w7.cell? ⟨xb, 4, none⟩ = some (.slice ab r.body.length cb) := by simp [World.cell?, hbx]
                  obtain ⟨gq, cap', e, hgB, hglt⟩ := D7.out.row.form (by omega)
                  obtain ⟨rfl, rfl⟩ : av = some ⟨gq, 0, none⟩ ∧ cv = cap' := by simpa using e
                  have hc : ∀ j, j < 5 → w7.cell? ⟨gq, t * 5 + j, none⟩ = (cellR (r, .slice ay r.body.length cy))[j]? := fun j hj => by
                    rw [D7.out.row.cellAt (t * 5 + j) (by omega)]
                    exact flatR_get P t _ HQ.out.1 j hj
                  have q0 : w7.cell? ⟨gq, t * 5, none⟩ = some (.int .i64 r.kind) := hc 0 (by decide)
                  have q1 : w7.cell? ⟨gq, t * 5 + 1, none⟩ = some (.int .i64 r.id) := hc 1 (by decide)
                  have q2 : w7.cell? ⟨gq, t * 5 + 2, none⟩ = some (.int .i64 r.num) := hc 2 (by decide)
                  have q3 : w7.cell? ⟨gq, t * 5 + 3, none⟩ = some (.string ⟨r.tube.toArray⟩) := hc 3 (by decide)
                  have q4 : w7.cell? ⟨gq, t * 5 + 4, none⟩ = some (.slice ay r.body.length cy) := hc 4 (by decide)
                  have hti : (t : Int) < (P.length : Int) := by omega
                  have hd1 : decide ((P.length : Int) ≤ (t : Int)) = false := decide_eq_false (by omega)
                  have hd2 : decide (P.length ≤ t) = false := decide_eq_false (by omega)
                  have hxl : xb < w7.heap.size := (Array.getElem?_eq_some_iff.1 hbx).1
                  have HW7 := hide (And.intro hw7 hxb)
                  clear hw7 hxb hbx B7 hc e HO HY D6
                  unfold rpV
                  go_upto_region 34 with fail
                  rw [← HW7.out.2, ← HW7.out.1]
                  go_region_held3 (fun w' => w'.cell? ⟨xb, 0, none⟩ = some (.int .i64 r.kind) ∧ w'.cell? ⟨xb, 1, none⟩ = some (.int .i64 r.id) ∧ w'.cell? ⟨xb, 2, none⟩ = some (.int .i64 r.num) ∧ w'.cell? ⟨xb, 3, none⟩ = some (.string ⟨r.tube.toArray⟩) ∧ w'.cell? ⟨xb, 4, none⟩ = some (.slice ab r.body.length cb) ∧ w'.cell? ⟨gq, t * 5, none⟩ = some (.int .i64 r.kind) ∧ w'.cell? ⟨gq, t * 5 + 1, none⟩ = some (.int .i64 r.id) ∧ w'.cell? ⟨gq, t * 5 + 2, none⟩ = some (.int .i64 r.num) ∧ w'.cell? ⟨gq, t * 5 + 3, none⟩ = some (.string ⟨r.tube.toArray⟩) ∧ w'.cell? ⟨gq, t * 5 + 4, none⟩ = some (.slice ay r.body.length cy))
                    (first | exact ⟨x0, x1, x2, x3, x4, q0, q1, q2, q3, q4⟩ | assumption)
                    (first | (go_at_call 31
                              refine (HSR.out _ (Below.refl _ _).drew).mono ?_
                              rintro e w8 ⟨rfl, B8⟩
                              have B8' : Below w7.heap.size w7 w8 := (Below.refl _ w7).drew.trans B8
                              have D8 := hide (D7.out.later B8')
                              have y01 : w8.cell? ⟨xb, 0, none⟩ = some (.int .i64 r.kind) ∧ w8.cell? ⟨xb, 1, none⟩ = some (.int .i64 r.id) ∧ w8.cell? ⟨xb, 2, none⟩ = some (.int .i64 r.num) ∧ w8.cell? ⟨xb, 3, none⟩ = some (.string ⟨r.tube.toArray⟩) ∧ w8.cell? ⟨xb, 4, none⟩ = some (.slice ab r.body.length cb) ∧ w8.cell? ⟨gq, t * 5, none⟩ = some (.int .i64 r.kind) ∧ w8.cell? ⟨gq, t * 5 + 1, none⟩ = some (.int .i64 r.id) ∧ w8.cell? ⟨gq, t * 5 + 2, none⟩ = some (.int .i64 r.num) ∧ w8.cell? ⟨gq, t * 5 + 3, none⟩ = some (.string ⟨r.tube.toArray⟩) ∧ w8.cell? ⟨gq, t * 5 + 4, none⟩ = some (.slice ay r.body.length cy) :=
                                ⟨(B8'.cell (p := ⟨xb, 0, none⟩) hxl).trans x0, (B8'.cell (p := ⟨xb, 1, none⟩) hxl).trans x1, (B8'.cell (p := ⟨xb, 2, none⟩) hxl).trans x2, (B8'.cell (p := ⟨xb, 3, none⟩) hxl).trans x3, (B8'.cell (p := ⟨xb, 4, none⟩) hxl).trans x4, (B8'.cell (p := ⟨gq, t * 5, none⟩) hglt).trans q0, (B8'.cell (p := ⟨gq, t * 5 + 1, none⟩) hglt).trans q1, (B8'.cell (p := ⟨gq, t * 5 + 2, none⟩) hglt).trans q2, (B8'.cell (p := ⟨gq, t * 5 + 3, none⟩) hglt).trans q3, (B8'.cell (p := ⟨gq, t * 5 + 4, none⟩) hglt).trans q4⟩
                              clear B8 B8'))
                  go_wp2_with fail
                  go_roundg (L.length - (g + p) + 1)
                  case measure => omega
                  case rel => exact ⟨g + p, t + 1, rv2, by go_num, by omega, Nat.le_refl _, D8.out, HT.out⟩
                · have D6 := hide (HI.out.1.read r2 K2 m2)
                  have HG := hide hge
                  clear r2 K2 m2 hge
                  rw [HZ.out, show rpV rp0 (.slice none 0 0) = .agg #[.int .i64 0, .int .i64 0, .int .i64 0, .string ⟨#[]⟩, .slice none 0 0] from rfl]
                  go_wp2_with fail
                  go_roundg (cuts.length + 1 - (k + 1))
                  case measure => omega
                  case rel =>
                    refine ⟨k + 1, n + m, g, t, rv2, rfl, by go_num, by go_num, by omega, Nat.le_refl _, hnm, ht, D6.out.later ((Below.refl _ w6).alloc (Nat.le_refl _) _), HI.out.2, fun h => ?_⟩
                    have h1 := HM.out (by omega)
                    refine ⟨h1, ?_⟩
                    have h2 := HG.out
                    rw [h1, List.take_length] at h2
                    exact h2
      · have hpi : ¬ (k : Int) ≤ (cuts.length : Int) := by omega
        obtain ⟨rfl, hge⟩ := HI.out.2.2 (by omega)
        have hgL : g = L.length := by rw [hge, HW.out]
        have htP : t = P.length := by
          have := Told.len _ _ _ HI.out.2.1
          simp at this
          omega
        have hH : heldN (L.take L.length) g = 0 := by
          rw [List.take_length, end_held hge, HW.out]
          simp
          omega
        have HHd := held_rd wr rb rv (L.take L.length) g HI.out.1.rd (by simp; omega)
        rw [hH] at HHd
        have HHE := hide HHd
        have hti : (t : Int) = (P.length : Int) := by omega
        have HB := hide HI.out.1.below
        clear HHd hge hH
        go_wp2_with (go_at_call 32; refine HHE.out.mono ?_; rintro e w7 ⟨rfl, q7, rfl⟩)
        go_ret
        exact ⟨by first | rfl | simp, ⟨HB.out.os, HB.out.tape, HB.out.output, HB.out.size, HB.out.block⟩⟩
end Go.Proofs.YtaaohoombjlhfaaDoor.answersBack
