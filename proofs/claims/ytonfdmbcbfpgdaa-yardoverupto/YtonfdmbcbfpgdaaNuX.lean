/-
  YNumL, YPull.
-/
import Derived.Test.YtonfdmbcbfpgdaaKeepsG
import Derived.Test.YtonfdmbcbfpgdaaJoX
import Derived.Test.YtonfdmbcbfpgdaaAmX
import Derived.Maps.AppendAt
import Derived.Test.YtonfdmbcbfpgdaaHeX
import Derived.Test.YtonfdmbcbfpgdaaOrderM
import Derived.Deep.RegionWith
namespace Go.Proofs.Ytonfdmbcbfpgdaa
open Go.RowKit

theorem info_int : (Try.prog.info? 3).map (fun i => (i.zero, i.size, i.bytes)) = some (some (.int .i64 0), 1, 8) := by kernel_rfl
def ints (l : List Int) : List Value := l.map (Value.int .i64)
theorem ints_length (l : List Int) : (ints l).length = l.length := by simp [ints]
theorem ints_append (a b : List Int) : ints (a ++ b) = ints a ++ ints b := by simp [ints]
abbrev Nums (W : World) (B : Nat) (v : Value) (l : List Int) : Prop := W.ownsRow B 3 1 v l.length (ints l)
theorem Nums.form {W : World} {B : Nat} {v : Value} {l : List Int} (h : Nums W B v l) : ∃ a c, v = .slice a l.length c := by
  rcases h.2 with ⟨rfl, h0⟩ | ⟨g, cap, cur, rfl, _⟩
  · exact ⟨none, 0, by rw [h0]⟩
  · exact ⟨_, _, rfl⟩
theorem Nums.cell {W : World} {B : Nat} {a : Option Addr} {n c : Nat} {l : List Int} (h : Nums W B (.slice a n c) l) {i : Nat} {x : Int} (hx : l[i]? = some x) : ∃ g, a = some ⟨g, 0, none⟩ ∧ W.cell? ⟨g, i, none⟩ = some (.int .i64 x) := by
  have hil := (List.getElem?_eq_some_iff.1 hx).1
  rcases h.2 with ⟨_, h0⟩ | ⟨g, cap, cur, hv, _, hg, h1, h2, h3, h4⟩
  · omega
  · simp only [Value.slice.injEq] at hv
    refine ⟨g, hv.1, ?_⟩
    have h5 : (ints l)[i]? = some (.int .i64 x) := by simp [ints, hx]
    rw [← h4, List.getElem?_take_of_lt (by omega)] at h5
    simpa [World.cell?, hg] using h5
theorem Nums.block {W : World} {B : Nat} {v : Value} {l : List Int} (h : Nums W B v l) {g : Nat} (hg : v.ownBlock = some g) : ∃ cur, W.heap[g]? = some (.cells cur 3 (0, 0)) ∧ B ≤ g := by
  rcases h.2 with ⟨rfl, _⟩ | ⟨g', cap, cur, rfl, hB, hc, _⟩
  · cases hg
  · cases hg; exact ⟨cur, hc, hB⟩

theorem Nums.below {W W' : World} {B : Nat} {v : Value} {l : List Int} (h : Nums W B v l) (hb : Below W.heap.size W W') : Nums W' B v l := (Kept.ofBelow (P := fun _ => False) hb).own h (fun _ _ h => h)
set_option maxHeartbeats 4000000 in

/-- One thing is put behind others, of any size. -/
theorem wpList_appendG {w : World} {ops : Array Oper} {rest : List Oper} {o : Oper} {a : Act} {Q : Exit → Act → World → Prop} (hgd : o.guard = none) (s x : Operand) (t e : TypeId) (size : Nat) (i : TypeInfo) (z : Value) (ht : Try.prog.underlying t = some (.slice e)) (hi : Try.prog.info? e = some i) (hz : i.zero = some z)
    (hsize : i.size = size) (hzs : z.cells.size = size) (hby : i.bytes ≤ 1000) (ho : o.op = .call { callee := .builtin .append, args := #[s, x], argTypes := #[t, t] })
    (B : Nat) (v : Value) (n : Nat) (xs cs : List Value) (hs : a.eval s = v) (g : Nat) (hx : a.eval x = .slice (some ⟨g, 0, none⟩) 1 1) (hcs : cs.length = size) (h1 : ∀ u ∈ cs, u.oneCell' = true) (h : w.ownsRow B e size v n xs) (hg : w.heap[g]? = some (.cells cs.toArray e (0, 0))) (hl : n ≤ 100000000) (hB : B ≤ w.heap.size)
    (k : ∀ v' w', w'.ownsRow B e size v' (n + 1) (xs ++ cs) → w.grownBy w' v.ownBlock → (v'.ownBlock = v.ownBlock ∨ v'.ownBlock = some w.heap.size) → wpList Try.prog ops Q rest (a.put o.dst v') w') : wpList Try.prog ops Q (o :: rest) a w := by
  refine wpList_plain hgd fun K hK => ?_
  obtain ⟨v', w', hr, h2, h3, _, h5, _⟩ := run_append_keepsG (P := Try.prog) w size B t o.type e i z ht hi hz hsize hzs v n xs h (some ⟨g, 0, none⟩) 1 1 cs (by rw [hcs, Nat.one_mul]) (.inr ⟨_, rfl, fun q u hu => by
    rw [Go.WideShapes.add_plain, Nat.zero_add]
    simpa [World.cell?, hg] using hu⟩) h1 (by unfold maxLen; omega) (by
      have : (n + 1) * i.bytes ≤ 100000001 * 1000 := Nat.mul_le_mul (by omega) hby
      omega) hB
  unfold Oper.wp execOp
  simp only [ho, resolve, invoke, builtin, Sem.run_bind, Sem.run_pure, Result.andThen_ok, List.map_toArray, List.map_cons, List.map_nil, hs, hx, hr]
  exact hK _ _ (k v' w' h2 h3 h5)
theorem info_mark : (Try.prog.info? 76).map (fun i => (i.zero, i.size, i.bytes)) = some (some (.agg #[.int .i64 0, .int .i64 0, .int .i64 0, .int .i64 0]), 4, 32) := by kernel_rfl
/-- A mark's cells. -/
def cells4 (m : Mk) : List Value := [.int .i64 m.id, .int .i64 m.pri, .int .i64 m.due, .int .i64 m.ord]
def flat4 (P : List Mk) : List Value := P.flatMap cells4
theorem flat4_snoc (P : List Mk) (m : Mk) : flat4 (P ++ [m]) = flat4 P ++ cells4 m := by simp [flat4]
theorem cells4_one (m : Mk) : ∀ u ∈ cells4 m, u.oneCell' = true := by
  intro u hu
  simp only [cells4, List.mem_cons, List.not_mem_nil, or_false] at hu
  rcases hu with rfl | rfl | rfl | rfl <;> rfl
theorem flat4_get : ∀ (P : List Mk) (i : Nat) (m : Mk), P[i]? = some m → ∀ k, k < 4 → (flat4 P)[i * 4 + k]? = (cells4 m)[k]?
  | [], i, m, h, k, hk => by simp at h
  | q :: P, i, m, h, k, hk => by
    have hc : (cells4 q).length = 4 := rfl
    cases i with
    | zero =>
      obtain rfl : q = m := by simpa using h
      simp only [flat4, List.flatMap_cons]
      rw [List.getElem?_append_left (by omega), show 0 * 4 + k = k by omega]
    | succ i =>
      simp only [flat4, List.flatMap_cons]
      rw [List.getElem?_append_right (by omega), hc, show (i + 1) * 4 + k - 4 = i * 4 + k by omega]
      exact flat4_get P i m (by simpa using h) k hk
/-- Marks in a row of the call's own. -/
abbrev Marks (w : World) (B : Nat) (v : Value) (P : List Mk) : Prop := w.ownsRow B 76 4 v P.length (flat4 P)
theorem Marks.form {w : World} {B : Nat} {v : Value} {P : List Mk} (h : Marks w B v P) : ∃ a c, v = .slice a P.length c := by
  rcases h.2 with ⟨rfl, h0⟩ | ⟨g, cap, cur, rfl, _⟩
  · exact ⟨none, 0, by rw [h0]⟩
  · exact ⟨_, _, rfl⟩
theorem Marks.at {w : World} {B : Nat} {a : Option Addr} {n c : Nat} {P : List Mk} (h : Marks w B (.slice a n c) P) {i : Nat} {m : Mk} (hx : P[i]? = some m) : ∃ g, a = some ⟨g, 0, none⟩ ∧ B ≤ g ∧ w.rangeAt g (i * 4) (cells4 m) := by
  have hil := (List.getElem?_eq_some_iff.1 hx).1
  rcases h.2 with ⟨_, h0⟩ | ⟨g, cap, cur, hv, hB, hg, h1, h2, h3, h4⟩
  · omega
  · simp only [Value.slice.injEq] at hv
    refine ⟨g, hv.1, hB, fun k u hu => ?_⟩
    have hk : k < 4 := by have := (List.getElem?_eq_some_iff.1 hu).1; simpa [cells4] using this
    have h5 := flat4_get P i m hx k hk
    rw [hu, ← h4, List.getElem?_take_of_lt (by omega)] at h5
    simpa [World.cell?, hg] using h5
end Go.Proofs.Ytonfdmbcbfpgdaa

namespace Go.Proofs.Ytonfdmbcbfpgdaa
open Go.RowKit
abbrev bfF : FuncId := 32
/-- Is a mark due? -/
def dueB (now : Int) (m : Mk) : Bool := decide (m.due ≤ now)
/-- The function that pull is handed. -/
abbrev hasV (nb : Nat) : Value := .func (.func 47) #[] #[.pointer (some ⟨nb, 0, none⟩)]
set_option maxHeartbeats 1000000 in
set_option maxRecDepth 1000000 in
theorem has_any (m : Mk) (nb : Nat) (now : Int) (w : World) (hc : w.cell? ⟨nb, 0, none⟩ = some (.int .i64 now)) :
    Calls Try.prog 47 #[valM m, .pointer (some ⟨nb, 0, none⟩)] w fun e w' => e = .returned (.bool (dueB now m)) ∧ Below w.heap.size w w' := by
  have hlt := cell_lt hc
  simp only [] at hlt
  obtain ⟨id, pri, due, ord⟩ := m
  unfold valM dueB
  by_cases h : due ≤ now
  · go_enter Try.func47, Try.ntmps47
    go_wp2_with fail
    go_ret
    exact ⟨by simp [h], (Below.refl _ w).alloc (Nat.le_refl _) _⟩
  · go_enter Try.func47, Try.ntmps47
    go_wp2_with fail
    go_ret
    exact ⟨by simp [h], (Below.refl _ w).alloc (Nat.le_refl _) _⟩
theorem has_enters : Enters Try.prog 47 := enters_of Try.func47 (by kernel_rfl) rfl
theorem mine_own {hb mb k : Nat} {v v2 : Value} (e : v2.ownBlock = v.ownBlock) (h : Mine hb v2 mb k) : Mine hb v mb k := by
  unfold Mine at *
  rw [← e]
  exact h
theorem wpList_wantedV {P : Program} {ops : Array Oper} {rest : List Oper} {o : Oper} {a : Act} {w : World} {v : Value} {Q : Exit → Act → World → Prop} (hw : Region.wanted o (yielded ops a.tmps) = true) (hx : (execOp a.eval o).run P w = .ok (.value v) w) (h : wpList P ops Q rest (a.put o.dst v) w) : wpList P ops Q (o :: rest) a w := by
  unfold wpList
  rw [if_pos hw]
  refine .inl ?_
  unfold Oper.wp
  rw [hx]
  exact h
/-- In the midst of pull: what was taken out, what is left. -/
structure Pl (w : World) (g : HM) (now : Int) (nb : Nat) (P : List Mk) (v v2 : Value) (R : List (Int × Mk)) (wr : World) : Prop where
  heap : HeapAtM wr g.hb v2 g.mb bfF 1 g.last R
  own2 : v2.ownBlock = g.v.ownBlock
  out : Marks wr w.heap.size v P
  hp : Hp 1 R
  cel : wr.cell? ⟨nb, 0, none⟩ = some (.int .i64 now)
  mem : ∀ r, r ∈ R ↔ r ∈ g.R ∧ r.2 ∉ P
  due : ∀ m ∈ P, m.due ≤ now ∧ ∃ r ∈ g.R, r.2 = m
  ahead : ∀ m ∈ P, ∀ r ∈ R, m.due < r.2.due ∨ (m.due = r.2.due ∧ m.id < r.2.id)
  rise : P.Pairwise (fun a b => a.due < b.due ∨ (a.due = b.due ∧ a.id < b.id))
  len : P.length + R.length = g.R.length
  kept : Kept (Mine g.hb g.v g.mb) w wr
theorem mark_one (m : Mk) : (cells4 m).toArray.all (·.oneCell') = true := Array.all_eq_true_iff_forall_mem.2 (fun u hu => cells4_one m u (by simpa using hu))
theorem Pl.below {w : World} {g : HM} {now : Int} {nb : Nat} {P : List Mk} {v v2 : Value} {R : List (Int × Mk)} {wr w' : World} (h : Pl w g now nb P v v2 R wr) (hb : Below wr.heap.size wr w') (hn : nb < w.heap.size) : Pl w g now nb P v v2 R w' := by
  obtain ⟨h1, h2, h3, h4, h5, h6, h7, h8, h9, h10, h11⟩ := h
  exact ⟨h1.kept (Kept.ofBelow (P := fun _ => False) hb) (fun _ _ h => h), h2, row_below h3 hb, h4, (hb.cell (p := ⟨nb, 0, none⟩) (Nat.lt_of_lt_of_le hn h11.size)).trans h5, h6, h7, h8, h9, h10, h11.trans (Kept.ofBelow hb)⟩
theorem build_mark (w : World) (m : Mk) : (Instr.buildSlice 94 1 #[(0, .agg (cells4 m).toArray)]).run Try.prog w = .ok (.slice (some ⟨w.heap.size, 0, none⟩) 1 1) (w.alloc (.cells (cells4 m).toArray 76)) := by kernel_rfl
theorem run_buildM {o : Oper} {a : Act} {w : World} {x : Operand} {m : Mk} {C : Array Value} (hC : C = (cells4 m).toArray) (ho : o.op = .buildSlice 94 1 #[(0, x)]) (hx : a.eval x = .agg C) : (execOp a.eval o).run Try.prog w = .ok (.value (.slice (some ⟨w.heap.size, 0, none⟩) 1 1)) (w.alloc (.cells C 76)) := by
  subst hC
  unfold execOp
  simp only [ho, hx, List.map_toArray, List.map_cons, List.map_nil, Sem.run_bind, build_mark, Sem.run_pure, Result.andThen_ok]
/-- The mark at the top. -/
def topMk (R : List (Int × Mk)) : Mk := match R[0]? with | some r => r.2 | none => ⟨0, 0, 0, 0⟩
theorem top_form (R : List (Int × Mk)) : ∃ t, topOfM R = .tuple #[.int .i64 t, .agg (cells4 (topMk R)).toArray, .bool (decide (0 < R.length))] := by
  cases R with
  | nil => exact ⟨0, rfl⟩
  | cons r R => exact ⟨r.1, by simp [topOfM, topMk, valM, cells4]⟩
theorem key1 (m : Mk) : keyK 1 m = m.due := rfl
theorem first_due {R : List (Int × Mk)} (h : Hp 1 R) (hu : ∀ r ∈ R, ∀ s ∈ R, r.2.id = s.2.id → r = s) {z r : Int × Mk} (hz : R[0]? = some z) (hr : r ∈ R) : z.2.due < r.2.due ∨ (z.2.due = r.2.due ∧ z.2.id < r.2.id) ∨ r = z := by
  obtain ⟨i, hi⟩ := List.mem_iff_getElem?.1 hr
  have := hp_first h hz i r hi
  unfold LtM at this
  rw [key1, key1] at this
  by_cases e : r.2.id = z.2.id
  · exact .inr (.inr (hu r hr z (List.mem_of_getElem? hz) e))
  · omega
theorem Pl.popped {w : World} {g : HM} {now : Int} {nb : Nat} {P : List Mk} {v v2 : Value} {R : List (Int × Mk)} {wr : World} (h : Pl w g now nb P v v2 R wr) (hu : ∀ r ∈ g.R, ∀ s ∈ g.R, r.2.id = s.2.id → r = s) (hm : ∀ k, Mine g.hb g.v g.mb k → k < w.heap.size) (hnb : nb < w.heap.size ∧ ¬ Mine g.hb g.v g.mb nb)
    {z : Int × Mk} (hz : R[0]? = some z) (hd : z.2.due ≤ now) {w3 w6 : World} {v3 v6 : Value} (h3 : HeapAtM w3 g.hb v3 g.mb bfF 1 g.last (popL (ltK 1) R 0).1) (k3 : Kept (Mine g.hb v2 g.mb) wr w3) (o3 : v3.ownBlock = v2.ownBlock)
    (k6 : Kept (fun k => w.heap.size ≤ k) w3 w6) (o6 : Marks w6 w.heap.size v6 (P ++ [z.2])) : Pl w g now nb (P ++ [z.2]) v6 v3 (popL (ltK 1) R 0).1 w6 := by
  have hl : R.length ≠ 0 := by have := (List.getElem?_eq_some_iff.1 hz).1; omega
  have hR : (popL (ltK 1) R 0).1 = (dropL (ltK 1) R 0 0).1 := by unfold popL; rw [if_neg hl]
  rw [hR] at h3 ⊢
  have on : Once R := by
    obtain ⟨_, _, hs⟩ := h.heap.tab
    exact hs.once
  have hzm := List.mem_of_getElem? hz
  have huR : ∀ r ∈ R, ∀ s ∈ R, r.2.id = s.2.id → r = s := fun r hr s hs => hu r ((h.mem r).1 hr).1 s ((h.mem s).1 hs).1
  have own3 : v3.ownBlock = g.v.ownBlock := o3.trans h.own2
  have hmem : ∀ r, r ∈ (dropL (ltK 1) R 0 0).1 ↔ r ∈ g.R ∧ r.2 ∉ P ++ [z.2] := fun r => by
    rw [mem_drop on hz, h.mem r, List.mem_append, List.mem_singleton]
    constructor
    · rintro ⟨⟨h1, h2⟩, h4⟩
      refine ⟨h1, fun h5 => ?_⟩
      rcases h5 with h5 | h5
      · exact h2 h5
      · exact h4 (by rw [hu r h1 z ((h.mem z).1 hzm).1 (by rw [h5])])
    · rintro ⟨h1, h2⟩
      have hr : r ∈ R := (h.mem r).2 ⟨h1, fun h5 => h2 (.inl h5)⟩
      exact ⟨⟨h1, fun h5 => h2 (.inl h5)⟩, fun h5 => h2 (.inr (by rw [on.same hr hzm h5]))⟩
  refine ⟨h3.kept k6 (fun k hk h6 => ?_), own3, o6, drop_hp rfl h.hp (by omega) 0, ?_, hmem, fun m hmP => ?_, fun m hmP r hr => ?_, ?_, ?_, ?_⟩
  · have := hm k (mine_own own3 hk)
    omega
  · refine k6.cell (fun h6 => ?_) (k3.cell (fun h6 => hnb.2 (mine_own h.own2 h6)) h.cel)
    have h6 : w.heap.size ≤ nb := h6
    omega
  · rcases List.mem_append.1 hmP with h1 | h1
    · exact h.due m h1
    · obtain rfl := List.mem_singleton.1 h1
      exact ⟨hd, z, ((h.mem z).1 hzm).1, rfl⟩
  · have hr2 := (mem_drop on hz).1 hr
    rcases List.mem_append.1 hmP with h1 | h1
    · exact h.ahead m h1 r hr2.1
    · obtain rfl := List.mem_singleton.1 h1
      rcases first_due h.hp huR hz hr2.1 with h5 | h5 | h5
      · exact .inl h5
      · exact .inr h5
      · exact absurd (by rw [h5]) hr2.2
  · rw [List.pairwise_append]
    refine ⟨h.rise, List.pairwise_singleton _ _, fun a ha b hb => ?_⟩
    obtain rfl := List.mem_singleton.1 hb
    exact h.ahead a ha z hzm
  · have h1 := h.len
    have h2 := drop_length (lt := ltK 1) (R := R) (p := 0) (n := 0)
    rw [List.length_append, h2]
    simp only [List.length_cons, List.length_nil]
    omega
  · exact (h.kept.step k3 (fun k _ h5 => mine_own h.own2 h5)).step k6 (fun k hk h6 => by have h6 : w.heap.size ≤ k := h6; omega)
set_option maxHeartbeats 4000000 in
set_option maxRecDepth 1000000 in
theorem pull_any (w : World) (g : HM) (now : Int) (nb : Nat) (h : HeapAtM w g.hb g.v g.mb bfF 1 g.last g.R) (hp : Hp 1 g.R) (hu : ∀ r ∈ g.R, ∀ s ∈ g.R, r.2.id = s.2.id → r = s) (hc : w.cell? ⟨nb, 0, none⟩ = some (.int .i64 now)) (hnb : ¬ Mine g.hb g.v g.mb nb) (hR : g.R.length ≤ 100000000) :
    Calls Try.prog 46 #[ptrV g.hb, hasV nb] w fun e w' => ∃ v, e = .returned v ∧ ∃ P v2 R, Pl w g now nb P v v2 R w' ∧ ∀ r ∈ R, now < r.2.due := by
  have nlt : nb < w.heap.size := cell_lt hc
  have hm : ∀ k, Mine g.hb g.v g.mb k → k < w.heap.size := fun k hk => h.lt k hk
  have e0 : ∀ (args : Array Value) (w : World), (callFunc 47 args).run Try.prog w = .ok (.enter 47 args) w := has_enters
  obtain ⟨i4, hi4, hz0, hz1, hz2⟩ := info_parts info_mark
  have P0 : Hid (Pl w g now nb [] (.slice none 0 0) g.v g.R w) := ⟨h, rfl, World.ownsRow_nil w _ _ 4, hp, hc, fun r => by simp, by simp, by simp, List.Pairwise.nil, by simp, Kept.refl _ _⟩
  obtain ⟨t0, ht0⟩ := top_form g.R
  obtain ⟨C0, hC0⟩ : ∃ C, C = (cells4 (topMk g.R)).toArray := ⟨_, rfl⟩
  have HT : Hid (Calls Try.prog 66 #[ptrV g.hb] w fun e w' => e = .returned (.tuple #[.int .i64 t0, .agg C0, .bool (decide (0 < g.R.length))]) ∧ Below w.heap.size w w') := by
    have := topM w g.hb g.mb g.v bfF 1 g.last g.R h
    rw [ht0, ← hC0] at this
    exact this
  have HC0 : Hid (C0 = (cells4 (topMk g.R)).toArray) := hC0
  have hs0 : Hid ((Try.prog.info? 76).map (·.size) = some C0.size ∧ (4 : Nat) = C0.size ∧ C0.all (·.oneCell') = true) := by rw [hC0]; exact ⟨mark_row, rfl, mark_one _⟩
  have HH : Hid ((∀ r ∈ g.R, ∀ s ∈ g.R, r.2.id = s.2.id → r = s) ∧ (∀ k, Mine g.hb g.v g.mb k → k < w.heap.size) ∧ nb < w.heap.size ∧ ¬ Mine g.hb g.v g.mb nb ∧ g.R.length ≤ 100000000) := ⟨hu, hm, nlt, hnb, hR⟩
  clear h hp hu hc hnb hR hm ht0 hC0
  go_enter Try.func46, Try.ntmps46
  go_wp2_with (first
    | (go_at_call 66; refine HT.out.mono ?_; rintro e w1 ⟨rfl, b1⟩; have B1 : Hid (Below w.heap.size w w1) := b1; clear b1)
    | (refine wpList_store_new rfl 76 (.tmp 7) (.tmp 13) rfl C0 rfl rfl 76 _ hs0.out.1 hs0.out.2.1 hs0.out.2.2 ?_))
  obtain ⟨w2, hw2⟩ : ∃ w2, w2 = w1.alloc (.cells C0 76) := ⟨_, rfl⟩
  obtain ⟨xb0, hxb0⟩ : ∃ xb, xb = w1.heap.size := ⟨_, rfl⟩
  have X0 : Hid (w2.heap[xb0]? = some (.cells (cells4 (topMk g.R)).toArray 76 (0, 0)) ∧ w.heap.size ≤ xb0 ∧ (Value.slice none 0 0).ownBlock ≠ some xb0) := by
    rw [hw2, hxb0, ← HC0.out]
    exact ⟨heap_alloc_new w1 _, B1.out.size, by simp [Value.ownBlock]⟩
  have P2 : Hid (Pl w g now nb [] (.slice none 0 0) g.v g.R w2) := P0.out.below (by rw [hw2]; exact B1.out.alloc B1.out.size _) HH.out.2.2.1
  rw [← hw2, ← hxb0]
  clear hw2 hxb0 HT B1 P0 hs0 HC0
  go_loopg [5, 7, 8] g.R.length (fun gk s5 s7 s8 wr => ∃ (P : List Mk) (v v2 : Value) (R : List (Int × Mk)) (xb : Nat), s5 = v ∧ s7 = ptrV xb ∧ s8 = .bool (decide (0 < R.length)) ∧ R.length ≤ gk ∧ Hid (Pl w g now nb P v v2 R wr) ∧ Hid (wr.heap[xb]? = some (.cells (cells4 (topMk R)).toArray 76 (0, 0)) ∧ w.heap.size ≤ xb ∧ v.ownBlock ≠ some xb))
  case atStart => exact ⟨[], .slice none 0 0, g.v, g.R, xb0, rfl, rfl, rfl, Nat.le_refl _, P2, X0⟩
  case round =>
    obtain ⟨P, v, v2, R, xb, rfl, rfl, rfl, hgk, HP, HX⟩ := hrel
    clear P2 X0
    by_cases hR0 : R.length = 0
    · rw [show decide (0 < R.length) = false from decide_eq_false (by omega)]
      have HR0 : Hid (R = []) := List.eq_nil_of_length_eq_zero hR0
      clear hR0
      go_wp2_with fail
      go_ret
      exact ⟨_, rfl, P, v2, R, HP.out, fun r hr => by rw [HR0.out] at hr; cases hr⟩
    · rw [show decide (0 < R.length) = true from decide_eq_true (by omega)]
      obtain ⟨z, hz⟩ : ∃ z, R[0]? = some z := ⟨_, List.getElem?_eq_getElem (by omega)⟩
      have htop : topMk R = z.2 := by unfold topMk; rw [hz]
      obtain ⟨C, hC⟩ : ∃ C, C = (cells4 z.2).toArray := ⟨_, rfl⟩
      have HX2 : Hid (wr.heap[xb]? = some (.cells C 76 (0, 0))) := by rw [hC, ← htop]; exact HX.out.1
      have HS : Hid ((Try.prog.info? 76).map (·.size) = some C.size ∧ (4 : Nat) = C.size ∧ C.all (·.oneCell') = true) := by rw [hC]; exact ⟨mark_row, rfl, mark_one _⟩
      have CH : Hid (Calls Try.prog 47 #[.agg C, .pointer (some ⟨nb, 0, none⟩)] wr fun e w' => e = .returned (.bool (dueB now z.2)) ∧ Below wr.heap.size wr w') := by rw [hC]; exact has_any z.2 nb now wr HP.out.cel
      have HZ : Hid (R[0]? = some z ∧ C = (cells4 z.2).toArray) := ⟨hz, hC⟩
      have xlt := (Array.getElem?_eq_some_iff.1 HX2.out).1
      have HRL : Hid (R.length ≠ 0) := hR0
      clear hz htop hC hR0
      go_wp2_with (first
        | (refine wpList_wantedV rfl (run_loadRow rfl rfl HX2.out Try.underlying76 rfl HS.out.1) ?_))
      refine CH.out.mono ?_
      rintro e w3 ⟨rfl, b3⟩
      have B3 : Hid (Below wr.heap.size wr w3) := b3
      clear b3
      cases hdue : dueB now z.2 with
      | false =>
        have hno : now < z.2.due := by unfold dueB at hdue; have := of_decide_eq_false hdue; omega
        go_wp2_with fail
        go_ret
        have Q : ∀ r ∈ R, now < r.2.due := fun r hr => by
          rcases first_due HP.out.hp (fun r hr s hs => HH.out.1 r ((HP.out.mem r).1 hr).1 s ((HP.out.mem s).1 hs).1) HZ.out.1 hr with h | h | h
          · omega
          · omega
          · rw [h]; exact hno
        exact ⟨_, rfl, P, v2, R, HP.out.below B3.out HH.out.2.2.1, Q⟩
      | true =>
        have HD : Hid (z.2.due ≤ now) := (show z.2.due ≤ now by unfold dueB at hdue; exact of_decide_eq_true hdue)
        have P3 : Hid (Pl w g now nb P u5 v2 R w3) := HP.out.below B3.out HH.out.2.2.1
        have X3 : Hid (w3.heap[xb]? = some (.cells C 76 (0, 0))) := (B3.out.block xb xlt).trans HX2.out
        obtain ⟨R1, hR1⟩ : ∃ R1, R1 = (popL (ltK 1) R 0).1 := ⟨_, rfl⟩
        obtain ⟨tp, htp⟩ : ∃ tp, tp = topOfM R := ⟨_, rfl⟩
        have CP : Hid (Calls Try.prog 68 #[ptrV g.hb] w3 fun e w' => e = .returned tp ∧ ∃ v3, HeapAtM w' g.hb v3 g.mb bfF 1 g.last R1 ∧ Kept (Mine g.hb v2 g.mb) w3 w' ∧ v3.ownBlock = v2.ownBlock) := by
          rw [htp, hR1]
          refine (popM (rank_asks 1) w3 g.hb g.mb v2 g.last R 0 P3.out.heap trivial (fun _ _ => trivial) (fun _ _ h => h) (by have := P3.out.len; have := HH.out.2.2.2.2; omega)).mono ?_
          rintro e w' ⟨rfl, v3, h1, _, h3, h4⟩
          exact ⟨rfl, v3, h1, h3.mono (fun k _ h => h.resolve_right (fun h => h)), h4⟩
        have HR1 : Hid (R1 = (popL (ltK 1) R 0).1) := hR1
        clear hR1 htp CH hdue xlt
        go_upto_region 6 with (first
          | (go_at_call 68; refine CP.out.mono ?_; rintro e w4 ⟨rfl, v3, h4, k4, o4⟩; have H4 : Hid (HeapAtM w4 g.hb v3 g.mb bfF 1 g.last R1 ∧ Kept (Mine g.hb v2 g.mb) w3 w4 ∧ v3.ownBlock = v2.ownBlock) := ⟨h4, k4, o4⟩; clear h4 k4 o4))
        have hmn : ∀ k, Mine g.hb v2 g.mb k → k < w.heap.size := fun k hk => HH.out.2.1 k (mine_own P3.out.own2 hk)
        have X4 : Hid (w4.heap[xb]? = some (.cells C 76 (0, 0))) := (H4.out.2.1.block xb (Array.getElem?_eq_some_iff.1 X3.out).1 (fun h => by have := hmn xb h; have := HX.out.2.1; omega)).trans X3.out
        have M4 : Hid (Marks w4 w.heap.size u5 P ∧ P.length ≤ 100000000 ∧ w.heap.size ≤ w4.heap.size) := by
          refine ⟨?_, by have := P3.out.len; have := HH.out.2.2.2.2; omega, Nat.le_trans P3.out.kept.size H4.out.2.1.size⟩
          have := P3.out.out
          refine ⟨this.1, ?_⟩
          rcases this.2 with h0 | ⟨q, cap, cur, rfl, hB, hg, rest⟩
          · exact .inl h0
          · exact .inr ⟨q, cap, cur, rfl, hB, (H4.out.2.1.block q (Array.getElem?_eq_some_iff.1 hg).1 (fun h => by have := hmn q h; omega)).trans hg, rest⟩
        clear CP hmn
        go_upto_region 7 with (first
          | (refine wpList_load_row rfl 76 (.tmp 7) rfl xb rfl 76 C (0, 0) _ X4.out Try.underlying76 rfl HS.out.1 ?_)
          | (refine wpList_made rfl (run_buildM HZ.out.2 rfl rfl) ?_)
          | (at_builtin; refine wpList_appendG rfl (.tmp 29) (.tmp 31) 94 76 4 i4 _ Try.underlying94 hi4 hz0 hz1 rfl (by rw [hz2]; omega) rfl w.heap.size u5 P.length (flat4 P) (cells4 z.2) rfl w4.heap.size rfl rfl (cells4_one z.2) (row_below M4.out.1 ((Below.refl _ w4).alloc (Nat.le_refl _) _)) (by rw [← HZ.out.2]; exact heap_alloc_new w4 _) M4.out.2.1 (by have := M4.out.2.2; simp; omega) ?_; intro v5 w5 o5 g5 l5))
        have O5 : Hid (Marks w5 w.heap.size v5 (P ++ [z.2])) := by
          have o5' := o5
          rw [← flat4_snoc] at o5'
          show w5.ownsRow _ _ _ _ _ _
          rw [List.length_append]
          exact o5'
        have q4 : w.heap.size ≤ w4.heap.size := M4.out.2.2
        have k5 : Hid (Kept (fun k => w.heap.size ≤ k) w4 w5 ∧ w4.heap.size ≤ w5.heap.size) := by
          have kk : Kept (fun k => w.heap.size ≤ k) (w4.alloc (.cells C 76)) w5 := Kept.ofGrown g5 (fun q hq => (World.ownsRow.lt M4.out.1 q hq).1)
          have b4 := (Below.refl _ w4).alloc (Nat.le_refl _) (.cells C 76)
          exact ⟨(Kept.ofBelow b4).trans kk, Nat.le_trans b4.size kk.size⟩
        have X5 : Hid (w5.heap[xb]? = some (.cells C 76 (0, 0))) := by
          have b4 := (Below.refl _ w4).alloc (Nat.le_refl _) (.cells C 76)
          have lt4 := (Array.getElem?_eq_some_iff.1 X4.out).1
          have := g5.block xb (Nat.lt_of_lt_of_le lt4 b4.size) (fun h => HX.out.2.2 h.symm)
          exact this.trans ((b4.block xb lt4).trans X4.out)
        have L5 : Hid (∀ q, v5.ownBlock = some q → q < w5.heap.size) := fun q hq => (World.ownsRow.lt O5.out q hq).2
        obtain ⟨w6, hw6⟩ : ∃ w6, w6 = w5.alloc (.cells C 76) := ⟨_, rfl⟩
        obtain ⟨xc, hxc⟩ : ∃ xc, xc = w5.heap.size := ⟨_, rfl⟩
        have B6 : Hid (Below w5.heap.size w5 w6) := by rw [hw6]; exact (Below.refl _ w5).alloc (Nat.le_refl _) _
        have X6 : Hid (w6.heap[xc]? = some (.cells C 76 (0, 0))) := by rw [hw6, hxc]; exact heap_alloc_new w5 _
        obtain ⟨t1, ht1⟩ := top_form R1
        obtain ⟨C1, hC1⟩ : ∃ C1, C1 = (cells4 (topMk R1)).toArray := ⟨_, rfl⟩
        have HT1 : Hid (Calls Try.prog 66 #[ptrV g.hb] w6 fun e w' => e = .returned (.tuple #[.int .i64 t1, .agg C1, .bool (decide (0 < R1.length))]) ∧ Below w6.heap.size w6 w') := by
          have own3 : v3.ownBlock = g.v.ownBlock := H4.out.2.2.trans P3.out.own2
          have k46 : Kept (fun k => w.heap.size ≤ k) w4 w6 := k5.out.1.trans (Kept.ofBelow B6.out)
          have h6 : HeapAtM w6 g.hb v3 g.mb bfF 1 g.last R1 := H4.out.1.kept k46 (fun k hk h => by
            have := HH.out.2.1 k (mine_own own3 hk)
            have h : w.heap.size ≤ k := h
            omega)
          have := topM w6 g.hb g.mb v3 bfF 1 g.last R1 h6
          rw [ht1, ← hC1] at this
          exact this
        have HS1 : Hid ((Try.prog.info? 76).map (·.size) = some C1.size ∧ C.size = C1.size ∧ C1.all (·.oneCell') = true) := by rw [hC1, HZ.out.2]; exact ⟨mark_row, rfl, mark_one _⟩
        have HC1 : Hid (C1 = (cells4 (topMk R1)).toArray) := hC1
        have HW6 : Hid (w5.alloc (.cells C 76) = w6 ∧ w5.heap.size = xc) := ⟨hw6.symm, hxc.symm⟩
        clear o5 g5 l5 hw6 hxc ht1 hC1 q4
        go_wp2_with (first
          | (go_at_call 66; refine HT1.out.mono ?_; rintro e w7 ⟨rfl, b7⟩; have B7 : Hid (Below w6.heap.size w6 w7) := b7; clear b7)
          | (refine wpList_load_row rfl 76 (.tmp 7) rfl xb rfl 76 C (0, 0) _ X5.out Try.underlying76 rfl HS.out.1 ?_)
          | (refine wpList_store_new rfl 76 (.tmp 7) (.tmp 33) rfl C rfl rfl 76 _ HS.out.1 HS.out.2.1 HS.out.2.2 ?_; rw [HW6.out.1, HW6.out.2])
          | (refine wpList_store_row rfl 76 (.tmp 7) (.tmp 25) rfl xc C1 rfl rfl 76 C ((B7.out.block xc (Array.getElem?_eq_some_iff.1 X6.out).1).trans X6.out) HS1.out.1 HS1.out.2.1 HS1.out.2.2 ?_))
        have X7 := (B7.out.block xc (Array.getElem?_eq_some_iff.1 X6.out).1).trans X6.out
        have k8 : Kept (fun k => w.heap.size ≤ k) w7 (w7.setRow xc C1) := ⟨rfl, rfl, rfl, by simp [World.setRow], fun k _ hk => setRow_other w7 xc k C1 (fun e => hk (by rw [e, ← HW6.out.2]; exact Nat.le_trans M4.out.2.2 k5.out.2))⟩
        go_roundg R1.length
        case measure =>
          have := drop_length (lt := ltK 1) (R := R) (p := 0) (n := 0)
          have h2 := HRL.out
          rw [HR1.out]
          unfold popL
          rw [if_neg h2]
          omega
        case rel =>
          refine ⟨P ++ [z.2], v5, v3, R1, xc, rfl, rfl, rfl, Nat.le_refl _, ?_, ?_⟩
          · rw [HR1.out]
            refine Pl.popped P3.out HH.out.1 HH.out.2.1 ⟨HH.out.2.2.1, HH.out.2.2.2.1⟩ HZ.out.1 HD.out (w3 := w4) (by rw [← HR1.out]; exact H4.out.1) H4.out.2.1 H4.out.2.2 ?_ ?_
            · exact (k5.out.1.trans (Kept.ofBelow (B6.out.trans (B7.out.mono B6.out.size)))).trans k8
            · have b57 := row_below (row_below O5.out B6.out) B7.out
              refine ⟨b57.1, ?_⟩
              rcases b57.2 with h0 | ⟨q, cap, cur, hv, hB, hg, rest⟩
              · exact .inl h0
              · refine .inr ⟨q, cap, cur, hv, hB, (setRow_other w7 xc q C1 (fun e => ?_)).trans hg, rest⟩
                have := L5.out q (by rw [hv]; rfl)
                have := HW6.out.2
                omega
          · refine ⟨?_, ?_, fun h => ?_⟩
            · rw [← HC1.out]
              exact setRow_heap w7 xc _ _ _ _ X7
            · rw [← HW6.out.2]
              exact Nat.le_trans M4.out.2.2 k5.out.2
            · have := L5.out xc h
              have := HW6.out.2
              omega
end Go.Proofs.Ytonfdmbcbfpgdaa
