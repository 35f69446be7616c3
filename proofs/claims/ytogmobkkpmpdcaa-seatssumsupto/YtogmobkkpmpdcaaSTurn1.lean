/-
  More that SeatsTurns goes by: what is told of connections.
-/
import Derived.Test.YtogmobkkpmpdcaaSTurn0
import Derived.Test.YtogmobkkpmpdcaaPick
import Derived.Maps.AppendAt
namespace Go.Proofs.Ytogmobkkpmpdcaa
open Go.RowKit
def ints (l : List Int) : List Value := l.map (Value.int .i64)
theorem ints_length (l : List Int) : (ints l).length = l.length := by simp [ints]
theorem ints_append (a b : List Int) : ints (a ++ b) = ints a ++ ints b := by simp [ints]
abbrev Nums (W : World) (B : Nat) (v : Value) (l : List Int) : Prop := W.ownsRow B 3 1 v l.length (ints l)
theorem Nums.form {W : World} {B : Nat} {v : Value} {l : List Int} (h : Nums W B v l) : ∃ a c, v = .slice a l.length c := by
  rcases h.2 with ⟨rfl, h0⟩ | ⟨g, cap, cur, rfl, _⟩
  · exact ⟨none, 0, by rw [h0]⟩
  · exact ⟨_, _, rfl⟩
theorem Nums.cell {W : World} {B : Nat} {a : Option Addr} {n c : Nat} {l : List Int} (h : Nums W B (.slice a n c) l) {i : Nat} {x : Int} (hx : l[i]? = some x) : ∃ g, a = some ⟨g, 0, none⟩ ∧ W.cell? ⟨g, i, none⟩ = some (.int .i64 x) := by
  have hil := (List.getElem?_eq_some_iff.1 hx).1
  rcases h.2 with ⟨_, h0⟩ | ⟨g, cap, cur, hv, _, hg, h1, h2, h3, h4⟩
  · omega
  · simp only [Value.slice.injEq] at hv
    refine ⟨g, hv.1, ?_⟩
    have h5 : (ints l)[i]? = some (.int .i64 x) := by simp [ints, hx]
    rw [← h4, List.getElem?_take_of_lt (by omega)] at h5
    simpa [World.cell?, hg] using h5
theorem Nums.block {W : World} {B : Nat} {v : Value} {l : List Int} (h : Nums W B v l) {g : Nat} (hg : v.ownBlock = some g) : ∃ cur, W.heap[g]? = some (.cells cur 3 (0, 0)) ∧ B ≤ g := by
  rcases h.2 with ⟨rfl, _⟩ | ⟨g', cap, cur, rfl, hB, hc, _⟩
  · cases hg
  · cases hg; exact ⟨cur, hc, hB⟩

theorem Nums.below {W W' : World} {B : Nat} {v : Value} {l : List Int} (h : Nums W B v l) (hb : Below W.heap.size W W') : Nums W' B v l := (Kept.ofBelow (P := fun _ => False) hb).own h (fun _ _ h => h)
theorem filter_step {l : List Int} {i : Nat} {x n : Int} (hx : l[i]? = some x) : (l.take (i + 1)).filter (fun t => t != n) = (l.take i).filter (fun t => t != n) ++ (if x = n then [] else [x]) := by
  rw [List.take_add_one, hx, List.filter_append]
  congr 1
  by_cases h : x = n
  · simp [h]
  · simp [h]

set_option maxHeartbeats 4000000 in
set_option maxRecDepth 1000000 in
theorem numbers_any (B B' : Nat) (v v' : Value) (l : List Int) (w : World) (h : Nums w B v l) (h' : Nums w B' v' l) (hl : l.length ≤ 1073741823) :
    Calls Try.prog 22 #[v, v'] w fun e w' => e = .returned (.bool true) ∧ Below w.heap.size w w' := by
  obtain ⟨a, c, rfl⟩ := h.form
  obtain ⟨a', c', rfl⟩ := h'.form
  have HR : Hid (Nums w B (.slice a l.length c) l) := h
  have HR' : Hid (Nums w B' (.slice a' l.length c') l) := h'
  clear h h'
  go_enter Try.func22, Try.ntmps22
  go_wp2_with fail
  go_loopg [5] l.length (fun gk s5 wr => ∃ i : Nat, s5 = .int .i64 (i : Int) ∧ i ≤ l.length ∧ l.length - i ≤ gk ∧ Hid (Below w.heap.size w wr))
  case atStart => exact ⟨0, rfl, Nat.zero_le _, Nat.le_refl _, Below.refl _ _⟩
  case round =>
    obtain ⟨i, rfl, hil, hgk, HB⟩ := hrel
    by_cases hlt : i < l.length
    · have t1 : (i : Int) < (l.length : Int) := by omega
      obtain ⟨x, hx⟩ : ∃ x, l[i]? = some x := ⟨_, List.getElem?_eq_getElem hlt⟩
      obtain ⟨g, rfl, cx⟩ := HR.out.cell hx
      obtain ⟨g', rfl, cx'⟩ := HR'.out.cell hx
      have cx2 : wr.cell? ⟨g, i, none⟩ = some (.int .i64 x) := (HB.out.cell (p := ⟨g, i, none⟩) (cell_lt cx)).trans cx
      have cx3 : wr.cell? ⟨g', i, none⟩ = some (.int .i64 x) := (HB.out.cell (p := ⟨g', i, none⟩) (cell_lt cx')).trans cx'
      clear cx cx' hx
      go_wp2_with fail
      go_quiet (fail)
      generalize hWd : wr.drewN _ = Wd
      have HB2 : Hid (Below w.heap.size w Wd) := HB.out.trans (by rw [← hWd]; exact ⟨rfl, rfl, rfl, Nat.le_refl _, fun _ _ => rfl⟩)
      clear hWd
      go_wp2_with fail
      go_roundg (l.length - (i + 1))
      case measure => omega
      case rel => exact ⟨i + 1, by go_num, by omega, Nat.le_refl _, HB2⟩
    · have t1 : ¬ (i : Int) < (l.length : Int) := by omega
      go_wp2_with fail
      go_ret
      exact ⟨rfl, HB.out⟩

/-- Does a connection watch a tube? -/
def seesN (S : Sx) (t : List UInt8) (n : Int) : Bool := match S.F n with | some x => decide (0 < held x.g t) | none => false
def firstL (p : Int → Bool) (L : List Int) : Int := match L.find? p with | some n => n | none => -1
theorem Tn.first {B : Nat} {W : World} {sb : Nat} {S : Sx} {L : List Int} {N : Nat} (h : Tn B W sb S L N) (t : List UInt8) : firstW S t = firstL (seesN S t) L := by
  unfold firstW firstL
  rw [h.list, List.find?_map, show (seesN S t ∘ fun r : que.Stand => whoV r.v) = seesB S t from rfl]
  cases S.R.find? (seesB S t) with
  | none => rfl
  | some r => rfl
theorem Tn.firstDef {B : Nat} {W : World} {sb : Nat} {S : Sx} {L : List Int} {N : Nat} (h : Tn B W sb S L N) {n : Int} (hn : L[0]? = some n) : firstW S defT = n := by
  rw [h.first]
  obtain ⟨x, hx, _⟩ := (h.mem n).1 (List.mem_of_getElem? hn)
  have hs : seesN S defT n = true := by unfold seesN; rw [hx]; exact decide_eq_true (h.dfl n x hx)
  cases L with
  | nil => cases hn
  | cons a r =>
    simp only [List.getElem?_cons_zero, Option.some.injEq] at hn
    subst hn
    unfold firstL
    rw [List.find?_cons, hs]
theorem tFirst {B : Nat} {W : World} {sb : Nat} {S : Sx} {L : List Int} {N : Nat} (h : Tn B W sb S L N) (hN : N ≤ 900000000) (t : ByteArray) (ht : t.size ≤ maxLen) :
    Calls Try.prog 15 #[ptrV sb, .string t] W fun e w' => e = .returned (.int .i64 (firstW S t.data.toList)) ∧ Below W.heap.size W w' := by
  obtain ⟨lab, hs⟩ := h.seat
  exact first_any t B W lab sb S hs h.lin ht (by have := h.few.rl; omega)
theorem tWaiters {B : Nat} {W : World} {sb : Nat} {S : Sx} {L : List Int} {N : Nat} (h : Tn B W sb S L N) (hN : N ≤ 900000000) :
    Calls Try.prog 23 #[ptrV sb] W fun e w' => ∃ v, e = .returned v ∧ Nums w' W.heap.size v L ∧ Below W.heap.size W w' := by
  obtain ⟨lab, hs⟩ := h.seat
  refine (waiters_any B W lab sb S hs h.lin (by have := h.few.rl; omega)).mono ?_
  rintro e w' ⟨v, rfl, h1, h2⟩
  rw [h.eqv, ← h.len] at h1
  exact ⟨v, rfl, h1, h2⟩
theorem tWaiting {B : Nat} {W : World} {sb : Nat} {S : Sx} {L : List Int} {N : Nat} (h : Tn B W sb S L N) (hN : N ≤ 900000000) :
    Calls Try.prog 14 #[ptrV sb, .string defB] W fun e w' => e = .returned (.int .i64 (L.length : Int)) ∧ Below W.heap.size W w' := by
  obtain ⟨lab, hs⟩ := h.seat
  refine (waiting_any defB B W lab sb S hs (by decide) (by have := h.few.nn; omega)).mono ?_
  rintro e w' ⟨ss, rfl, ⟨h1, h2⟩, h3⟩
  refine ⟨?_, h3⟩
  have hp : (ss.filter (fun i => (S.F i).any (fun x => waitsB x defB.data.toList))).Perm L := by
    refine (List.perm_ext_iff_of_nodup (h1.filter _) h.nodup).2 (fun i => ?_)
    rw [List.mem_filter, h2, h.mem i]
    constructor
    · rintro ⟨a1, a2⟩
      obtain ⟨x, hx⟩ := Option.isSome_iff_exists.1 a1
      rw [hx] at a2
      simp only [Option.any_some, waitsB, Bool.and_eq_true, bne_iff_ne] at a2
      exact ⟨x, hx, a2.1⟩
    · rintro ⟨x, hx, h0⟩
      refine ⟨by rw [hx]; rfl, ?_⟩
      rw [hx]
      simp only [Option.any_some, waitsB, Bool.and_eq_true, bne_iff_ne]
      exact ⟨h0, decide_eq_true (h.dfl i x hx)⟩
  unfold cntB
  rw [hp.length_eq]
theorem tGet {B : Nat} {W : World} {sb : Nat} {S : Sx} {L : List Int} {N : Nat} (h : Tn B W sb S L N) (hN : N ≤ 900000000) {n : Int} (hn : n ∈ L) (t : List UInt8) :
    Calls Try.prog 10 #[ptrV sb, .int .i64 n] W fun e w' => ∃ (us : ByteArray) (bw : Bool) (un : Int) (pu ta : Bool) (Ls : List Text) (gb cap : Nat), e = .returned (.tuple #[.agg #[.int .i64 n, .string us, .slice (some ⟨gb, 0, none⟩) Ls.length cap, .bool bw, .int .i64 un, .bool pu, .bool ta], .bool true]) ∧
      (Ls.length ≤ 900000000 ∧ Ls.length ≤ cap) ∧ (∀ (k : Nat) (x : Text), Ls[k]? = some x → w'.cell? ⟨gb, k, none⟩ = some (.string ⟨x.toArray⟩)) ∧ gb < w'.heap.size ∧ (t ∈ Ls ↔ seesN S t n = true) ∧ Below W.heap.size W w' := by
  obtain ⟨lab, hs⟩ := h.seat
  obtain ⟨x, hx, _⟩ := (h.mem n).1 hn
  have hb := (hs.each n x hx).book
  obtain ⟨M, hM, hlen, _⟩ := hb.listed
  have hf := h.few.n n x hx
  refine (get_any n B W lab sb S x M hs hx hM (int_wf (h.rng n hn)) (by omega)).mono ?_
  rintro e w' ⟨gb, cap, rfl, h1, h2⟩
  refine ⟨x.us, x.tk != 0, x.un, x.pu, x.ta, M.map (·.1), gb, cap, ?_, ⟨?_, ?_⟩, ?_, (World.ownsRow.lt h1 gb rfl).2, ?_, h2⟩
  · rw [List.length_map]
    rfl
  · rw [List.length_map]; omega
  · rw [List.length_map]
    rcases h1.2 with ⟨h0, _⟩ | ⟨g, c, cur, hv, _, _, hle, _⟩
    · cases h0
    · cases hv
      exact hle
  · intro k y hy
    rcases h1.2 with ⟨h0, _⟩ | ⟨g, c, cur, hv, _, hg, _, _, _, ht⟩
    · cases h0
    · cases hv
      have hk : k < M.length := by have := (List.getElem?_eq_some_iff.1 hy).1; rwa [List.length_map] at this
      have h5 : (M.map fun r => encStr r.1)[k]? = some (.string ⟨y.toArray⟩) := by
        rw [List.getElem?_map] at hy ⊢
        cases hm : M[k]? with
        | none => rw [hm] at hy; cases hy
        | some r => rw [hm] at hy; cases hy; rfl
      rw [← ht, List.getElem?_take_of_lt (by omega)] at h5
      simpa [World.cell?, hg] using h5
  · unfold seesN
    rw [hx]
    simp only [decide_eq_true_eq]
    constructor
    · intro hm
      obtain ⟨⟨t', v⟩, hr, rfl⟩ := List.mem_map.1 hm
      have hg := (hM.mem t' v).1 hr
      have := hb.pos t' v hg
      unfold held
      rw [hg]
      exact Int.lt_of_lt_of_le (by decide) this
    · intro hp
      unfold held at hp
      cases hg : x.g t with
      | none => rw [hg] at hp; exact absurd hp (by decide)
      | some v => exact List.mem_map.2 ⟨(t, v), (hM.mem t v).2 hg, rfl⟩
end Go.Proofs.Ytogmobkkpmpdcaa
