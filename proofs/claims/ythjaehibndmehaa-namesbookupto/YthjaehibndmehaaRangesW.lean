/-
  The walk of 'ranges'.
-/
import Derived.Test.YthjaehibndmehaaRangesKit
import Derived.Test.YthjaehibndmehaaRefRest
import Derived.Test.YthjaehibndmehaaRound
import Derived.Deep.Cut
import Derived.Deep.RegionHeld3
import Derived.Laws.EntriesVeiled
namespace Go.Proofs.Ythjaehibndmehaa
open Go.RowKit

theorem tmod3 (x : Int) : -3 < Int.tmod x 3 ∧ Int.tmod x 3 < 3 := by
  rcases Int.le_total 0 x with h | h
  · rw [Int.tmod_eq_emod_of_nonneg h]
    omega
  · obtain ⟨y, rfl⟩ : ∃ y, x = -y := ⟨-x, by omega⟩
    rw [Int.neg_tmod, Int.tmod_eq_emod_of_nonneg (by omega)]
    omega
theorem rem3 (x : Int) (h1 : -9223372036854775808 ≤ x) (h2 : x ≤ 9223372036854775807) : Int.tmod (Int.tmod x 3 + 3) 3 = 0 ∨ Int.tmod (Int.tmod x 3 + 3) 3 = 1 ∨ Int.tmod (Int.tmod x 3 + 3) 3 = 2 := by
  have h3 : -3 < Int.tmod x 3 ∧ Int.tmod x 3 < 3 := by
    rcases Int.le_total 0 x with h | h
    · rw [Int.tmod_eq_emod_of_nonneg h]
      omega
    · obtain ⟨y, rfl⟩ : ∃ y, x = -y := ⟨-x, by omega⟩
      rw [Int.neg_tmod, Int.tmod_eq_emod_of_nonneg (by omega)]
      omega
  rw [Int.tmod_eq_emod_of_nonneg (by omega)]
  omega
theorem keepsFrom_turn {V V2 : World} {mb db lo : Nat} {lv : Value} {S : List RowT} (B : Nat) (hmb : mb < B) (hd : RefB V lo db lv S) (hk : Kept (fun j => j = mb ∨ MineR db lv j) V V2) : KeepsFrom B V V2 :=
  ⟨hk.size, fun i o hB hi ho => (hk.block i (Array.getElem?_eq_some_iff.1 hi).1 (fun e => by
    rcases e with rfl | rfl | e
    · omega
    · rw [hd.box] at hi
      cases hi
      cases ho
    · obtain ⟨cur, hc, _⟩ := hd.block e
      rw [hc] at hi
      cases hi
      cases ho)).trans hi⟩
theorem Pair.keptU {w0 w w' : World} {b mb n db k : Nat} {lv : Value} {S : List RowT} {g : Text → Option Int} {P : Nat → Prop} (h : Pair w0 w b mb n db lv S g k) (K : Kept P w w') (hP : ∀ j, P j → w0.heap.size ≤ j ∧ j ≠ b ∧ j ≠ mb ∧ ¬ MineR db lv j) : Pair w0 w' b mb n db lv S g k :=
  ⟨⟨h.q.q.kept K (fun e => (hP _ e).2.1 rfl) (fun e => (hP _ e).2.2.1 rfl), h.q.below.trans (K.below h.q.below.size (fun j hj e => by have := (hP j e).1; omega)), h.q.hb, h.q.hm⟩, h.d.kept K (fun j hj e => (hP j e).2.2.2 hj), h.l, h.ap, h.low, h.few, h.most⟩
theorem Pair.weak {w0 w : World} {b mb n db k k' : Nat} {lv : Value} {S : List RowT} {g : Text → Option Int} (h : Pair w0 w b mb n db lv S g k) (hk : k ≤ k') : Pair w0 w b mb n db lv S g k' :=
  ⟨h.q, h.d, h.l, h.ap, h.low, Nat.le_trans h.few hk, fun t => by have := h.most t; omega⟩
theorem Pair.own {w0 W W' : World} {b mb n db k : Nat} {lv : Value} {S : List RowT} {g : Text → Option Int} (h : Pair w0 W b mb n db lv S g k) {B : Nat} {row : Option Nat} (hmb : mb < B) (h0 : w0.heap.size ≤ B) (hg : W.grownBy W' row) (hr : ∀ r, row = some r → B ≤ r ∧ ∃ o : Obj, W.heap[r]? = some o ∧ o.isCells = false) : Pair w0 W' b mb n db lv S g k := by
  have K : Kept (fun j => row = some j) W W' := Kept.ofGrown hg (fun _ e => e)
  have cell : ∀ (j : Nat) (c : Array Value) (t : TypeId), W.heap[j]? = some (.cells c t (0, 0)) → row ≠ some j := by
    rintro j c t hj e
    obtain ⟨_, o, ho, hn⟩ := hr j e
    rw [hj] at ho
    obtain rfl := Option.some.inj ho
    cases hn
  refine h.keptU K (fun j e => ⟨Nat.le_trans h0 (hr j e).1, ?_, fun e2 => by have := (hr j e).1; omega, ?_⟩)
  · rintro rfl
    have h1 := h.q.q.cell
    obtain ⟨_, o, ho, hn⟩ := hr j e
    unfold World.cell? at h1
    rw [ho] at h1
    cases o <;> simp at h1 <;> cases hn
  · rintro (rfl | e2)
    · exact cell _ _ _ h.d.box e
    · obtain ⟨cur, hc, _⟩ := h.d.block e2
      exact cell _ _ _ hc e
/-- What stays through the second range, as it lay in W2. -/
structure R2 (w0 : World) (b mb db n : Nat) (lv : Value) (S : List RowT) (g : Text → Option Int) (kk b6 b7 b8 b9 cb : Nat) (v : Value) (W2 : World) : Prop where
  pr : Pair w0 W2 b mb n db lv S g kk
  h6 : W2.heap[b6]? = some (.cells #[.bool false] 4 (0, 0))
  h7 : W2.heap[b7]? = some (.cells #[allV cb] 41 (0, 0))
  h8 : W2.heap[b8]? = some (.cells #[v] 43 (0, 0))
  hc : boxed W2 cb b
  row : W2.ownsRow 0 46 2 v S.length (flatS S)
theorem R2.at {w0 W2 X : World} {b mb db n : Nat} {lv : Value} {S : List RowT} {g : Text → Option Int} {kk b6 b7 b8 b9 cb : Nat} {v : Value} {q : Int} (h : R2 w0 b mb db n lv S g kk b6 b7 b8 b9 cb v W2) (h9 : W2.heap[b9]? = some (.cells #[.int .i64 q] 3 (0, 0))) (hz : w0.heap.size ≤ b9) (hk : Kept (fun j => j = b9) W2 X) : R2 w0 b mb db n lv S g kk b6 b7 b8 b9 cb v X := by
  have ne : ∀ (j : Nat) (c : Array Value) (t : TypeId), W2.heap[j]? = some (.cells c t (0, 0)) → t ≠ 3 → j ≠ b9 := by
    rintro j c t hj ht rfl
    rw [h9] at hj
    simp at hj
    exact ht hj.2.symm
  have st : ∀ (j : Nat) (c : Array Value) (t : TypeId), W2.heap[j]? = some (.cells c t (0, 0)) → t ≠ 3 → X.heap[j]? = some (.cells c t (0, 0)) := fun j c t hj ht => (hk.block j (Array.getElem?_eq_some_iff.1 hj).1 (ne j c t hj ht)).trans hj
  refine ⟨h.pr.keptU hk (fun j e => ?_), st _ _ _ h.h6 (by decide), st _ _ _ h.h7 (by decide), st _ _ _ h.h8 (by decide), st _ _ _ h.hc (by decide), row_at h.row (fun j hj => ?_)⟩
  · subst e
    refine ⟨hz, ?_, ?_, ?_⟩
    · rintro rfl
      have h1 := h.pr.q.q.cell
      simp [World.cell?, h9] at h1
    · rintro rfl
      obtain ⟨es, cl, hm⟩ := h.pr.q.q.tab.map
      rw [hm] at h9
      simp at h9
    · rintro (rfl | e2)
      · rw [h.pr.d.box] at h9
        simp at h9
      · obtain ⟨cur, hc, _⟩ := h.pr.d.block e2
        rw [hc] at h9
        simp at h9
  · rcases h.row.2 with ⟨rfl, _⟩ | ⟨gg, cap, cur, rfl, hB, hg2, rest⟩
    · cases hj
    · simp only [Value.ownBlock, Option.some.injEq] at hj
      subst hj
      exact hk.block gg (Array.getElem?_eq_some_iff.1 hg2).1 (ne _ _ _ hg2 (by decide))
theorem R2.below {w0 W2 X : World} {b mb db n : Nat} {lv : Value} {S : List RowT} {g : Text → Option Int} {kk b6 b7 b8 b9 cb : Nat} {v : Value} (h : R2 w0 b mb db n lv S g kk b6 b7 b8 b9 cb v W2) (hb : Below W2.heap.size W2 X) : R2 w0 b mb db n lv S g kk b6 b7 b8 b9 cb v X := by
  have st : ∀ (j : Nat) (o : Obj), W2.heap[j]? = some o → X.heap[j]? = some o := fun j o hj => (hb.block j (Array.getElem?_eq_some_iff.1 hj).1).trans hj
  refine ⟨h.pr.later hb, st _ _ h.h6, st _ _ h.h7, st _ _ h.h8, st _ _ h.hc, row_at h.row (fun j hj => ?_)⟩
  rcases h.row.2 with ⟨rfl, _⟩ | ⟨gg, cap, cur, rfl, hB, hg2, rest⟩
  · cases hj
  · simp only [Value.ownBlock, Option.some.injEq] at hj
    subst hj
    exact hb.block gg (Array.getElem?_eq_some_iff.1 hg2).1
theorem grownR {A W : World} (h : Below A.heap.size A W) : A.grownBy W none := ⟨h.os, h.tape, h.output, h.size, fun k hk _ => h.block k hk⟩
/-- Behind p rounds of the first range. -/
def Rn (w0 w : World) (b mb db : Nat) (lv0 : Value) (s : ByteArray) (x : Int) (b3 b4 b5 b6 b7 b8 b9 cb : Nat) (k : Nat) (v : Value) (T : List RowT) (p : Nat) (W : World) : Prop :=
  ∃ kk n' lv' S' g', RSt w0 w b mb db lv0 s x b3 b4 b5 b6 b7 b8 b9 cb kk v T (p : Int) n' lv' S' g' W ∧ kk ≤ k + 1 ∧ (p = 0 → kk ≤ k)
attribute [local go_sem] Oper.semAt_some wide_fn
set_option maxHeartbeats 4000000 in
set_option maxRecDepth 1000000 in
theorem ranges_any (w0 w : World) (b mb n db : Nat) (lv : Value) (S : List RowT) (g : Text → Option Int) (k : Nat) (s : ByteArray) (x : Int) (h : Pair w0 w b mb n db lv S g k) (hk : k ≤ 1073741820) (hs : s.size ≤ maxLen) (hx : -9223372036854775808 ≤ x ∧ x ≤ 9223372036854775807) (hw0 : w0.heap.size ≤ w.heap.size) :
    Calls Try.prog 17 #[.agg #[.pointer (some ⟨b, 0, none⟩), .pointer (some ⟨db, 0, none⟩)], .string s, .int .i64 x] w fun e w' => e = .returned (.bool true) ∧ (∃ n' lv' S' g', Pair w0 w' b mb n' db lv' S' g' (k + 1) ∧ ∀ j, MineR db lv' j → MineR db lv j ∨ w.heap.size ≤ j) ∧ Kept (fun j => j = mb ∨ MineR db lv j) w w' := by
  have H := hide h
  have hnl := seq_nil
  clear h
  obtain ⟨W1, hW1⟩ : ∃ W1, W1 = (((w.alloc (.cells #[.pointer (some ⟨b, 0, none⟩), .pointer (some ⟨db, 0, none⟩)] 30)).alloc (.cells #[.string s] 9)).alloc (.cells #[.int .i64 x] 3)).alloc (.cells #[.bool false] 4) := ⟨_, rfl⟩
  obtain ⟨b3, hb3⟩ : ∃ b3, b3 = w.heap.size := ⟨_, rfl⟩
  obtain ⟨b4, hb4⟩ : ∃ b4, b4 = w.heap.size + 1 := ⟨_, rfl⟩
  obtain ⟨b5, hb5⟩ : ∃ b5, b5 = w.heap.size + 1 + 1 := ⟨_, rfl⟩
  obtain ⟨b6, hb6⟩ : ∃ b6, b6 = w.heap.size + 1 + 1 + 1 := ⟨_, rfl⟩
  have B1 : Below w.heap.size w W1 := by rw [hW1]; exact ((((Below.refl _ w).alloc (Nat.le_refl _) _).alloc (by simp) _).alloc (by simp; omega) _).alloc (by simp; omega) _
  have q3 : W1.heap[b3]? = some (.cells #[.pointer (some ⟨b, 0, none⟩), .pointer (some ⟨db, 0, none⟩)] 30 (0, 0)) := by
    rw [hW1, hb3, heap_alloc_old _ _ (by simp; omega), heap_alloc_old _ _ (by simp; omega), heap_alloc_old _ _ (by simp)]
    exact heap_alloc_new _ _
  have q4 : W1.heap[b4]? = some (.cells #[.string s] 9 (0, 0)) := by
    rw [hW1, hb4, heap_alloc_old _ _ (by simp), heap_alloc_old _ _ (by simp)]
    have := heap_alloc_new (w.alloc (.cells #[.pointer (some ⟨b, 0, none⟩), .pointer (some ⟨db, 0, none⟩)] 30)) (.cells #[.string s] 9)
    rwa [World.size_alloc] at this
  have q5 : W1.heap[b5]? = some (.cells #[.int .i64 x] 3 (0, 0)) := by
    rw [hW1, hb5, heap_alloc_old _ _ (by simp)]
    have := heap_alloc_new ((w.alloc (.cells #[.pointer (some ⟨b, 0, none⟩), .pointer (some ⟨db, 0, none⟩)] 30)).alloc (.cells #[.string s] 9)) (.cells #[.int .i64 x] 3)
    rwa [World.size_alloc, World.size_alloc] at this
  have q6 : W1.heap[b6]? = some (.cells #[.bool false] 4 (0, 0)) := by
    have := heap_alloc_new (((w.alloc (.cells #[.pointer (some ⟨b, 0, none⟩), .pointer (some ⟨db, 0, none⟩)] 30)).alloc (.cells #[.string s] 9)).alloc (.cells #[.int .i64 x] 3)) (.cells #[.bool false] 4)
    rw [World.size_alloc, World.size_alloc, World.size_alloc, ← hW1] at this
    rw [hb6]
    exact this
  have Q1 := hide (And.intro B1 (And.intro q3 (And.intro q4 (And.intro q5 q6))))
  have HB := hide (And.intro hb3 (And.intro hb4 (And.intro hb5 hb6)))
  have x0 : W1.cell? ⟨b3, 0, none⟩ = some (.pointer (some ⟨b, 0, none⟩)) := by simp [World.cell?, q3]
  have HW1 := hide hW1
  clear hW1 hb3 hb4 hb5 hb6 B1 q3 q4 q5 q6
  refine (callsIn_wide (n := 5)).1 ?_
  refine callsIn_of_wp_marks Try.func17 rfl trivial ?_ rfl
  simp only [Try.ntmps17, List.size_toArray, List.length_cons, List.length_nil, Nat.reduceAdd, Nat.reduceSub, Array.replicate_succ, Array.replicate_zero, List.push_toArray, List.append_toArray, List.nil_append, List.cons_append]
  refine wpIn_wide.2 ?_
  go_upto_region 1 with fail
  rw [← HB.out.2.2.2, ← HB.out.2.2.1, ← HB.out.2.1, ← HB.out.1, ← HW1.out]
  go_wp2_with fail
  refine (all_any W1 b).mono ?_
  rintro e w2 ⟨rfl, bx, B2⟩
  obtain ⟨cb, hcb⟩ : ∃ cb, cb = W1.heap.size := ⟨_, rfl⟩
  rw [← hcb] at bx ⊢
  unfold allV
  obtain ⟨w3, hw3⟩ : ∃ w3, w3 = w2.alloc (.cells #[.func (.func 38) #[] #[.pointer (some ⟨cb, 0, none⟩)]] 41) := ⟨_, rfl⟩
  obtain ⟨b7, hb7⟩ : ∃ b7, b7 = w2.heap.size := ⟨_, rfl⟩
  have B13 : Below W1.heap.size W1 w3 := by rw [hw3]; exact B2.alloc B2.size _
  have P3 := H.out.later (Q1.out.1.trans (B13.mono Q1.out.1.size))
  have st : ∀ (j : Nat) (o : Obj), W1.heap[j]? = some o → w3.heap[j]? = some o := fun j o hj => (B13.block j (Array.getElem?_eq_some_iff.1 hj).1).trans hj
  have x1 : w3.cell? ⟨b3, 1, none⟩ = some (.pointer (some ⟨db, 0, none⟩)) := by simp [World.cell?, st _ _ Q1.out.2.1]
  have H3 : Hid (Pair w0 w3 b mb n db lv S g k ∧ Below w.heap.size w w3 ∧ w3.heap[b3]? = some (.cells #[.pointer (some ⟨b, 0, none⟩), .pointer (some ⟨db, 0, none⟩)] 30 (0, 0)) ∧ w3.heap[b4]? = some (.cells #[.string s] 9 (0, 0)) ∧ w3.heap[b5]? = some (.cells #[.int .i64 x] 3 (0, 0)) ∧ w3.heap[b6]? = some (.cells #[.bool false] 4 (0, 0)) ∧ w3.heap[b7]? = some (.cells #[allV cb] 41 (0, 0)) ∧ boxed w3 cb b) := by
    refine ⟨P3, Q1.out.1.trans (B13.mono Q1.out.1.size), st _ _ Q1.out.2.1, st _ _ Q1.out.2.2.1, st _ _ Q1.out.2.2.2.1, st _ _ Q1.out.2.2.2.2, ?_, ?_⟩
    · rw [hw3, hb7]
      exact heap_alloc_new _ _
    · rw [hw3]
      exact (heap_alloc_old _ _ (Array.getElem?_eq_some_iff.1 bx).1).trans bx
  have HW3 := hide (And.intro hw3 hb7)
  clear hw3 hb7 B13 P3 st bx B2 hcb x0
  go_upto_region 4 with fail
  rw [← HW3.out.2, ← HW3.out.1]
  go_wp2_with fail
  have hSl : S.length ≤ 1073741820 := by have := H.out.len; omega
  refine (refAll_any w3 w0.heap.size db lv S H3.out.1.d (by omega)).mono ?_
  rintro e w4 ⟨v, rfl, rv, B4⟩
  obtain ⟨av, cv, rfl⟩ := row_of rv
  obtain ⟨w5, hw5⟩ : ∃ w5, w5 = (w4.alloc (.cells #[.slice av S.length cv] 43)).alloc (.cells #[.int .i64 0] 3) := ⟨_, rfl⟩
  obtain ⟨b8, hb8⟩ : ∃ b8, b8 = w4.heap.size := ⟨_, rfl⟩
  obtain ⟨b9, hb9⟩ : ∃ b9, b9 = w4.heap.size + 1 := ⟨_, rfl⟩
  have ST : Hid (RSt w0 w b mb db lv s x b3 b4 b5 b6 b7 b8 b9 cb k (.slice av S.length cv) S 0 n lv S g w5 ∧ mb < w5.heap.size) := by
    have hs1 := H3.out.2.1.size
    have B45 : Below w4.heap.size w4 w5 := by rw [hw5]; exact ((Below.refl _ w4).alloc (Nat.le_refl _) _).alloc (by simp) _
    have B35 : Below w3.heap.size w3 w5 := B4.trans (B45.mono B4.size)
    have st : ∀ (j : Nat) (o : Obj), w3.heap[j]? = some o → w5.heap[j]? = some o := fun j o hj => (B35.block j (Array.getElem?_eq_some_iff.1 hj).1).trans hj
    have hb := HB.out
    have h3l := (Array.getElem?_eq_some_iff.1 H3.out.2.2.2.2.2.1).1
    have h4s := B4.size
    have hml := H.out.q.q.tab.lt
    have h5s := B35.size
    refine ⟨⟨H3.out.1.later B35, fun j hj => .inl hj, fun j hj e => ?_, Kept.ofBelow (H3.out.2.1.trans (B35.mono hs1)), st _ _ H3.out.2.2.1, st _ _ H3.out.2.2.2.1, st _ _ H3.out.2.2.2.2.1, st _ _ H3.out.2.2.2.2.2.1, st _ _ H3.out.2.2.2.2.2.2.1, ?_, ?_, st _ _ H3.out.2.2.2.2.2.2.2, ?_, ?_⟩, by omega⟩
    · have h1 := (World.ownsRow.lt rv j hj).1
      have h2 : j < w3.heap.size := by
        rcases e with rfl | e
        · exact (Array.getElem?_eq_some_iff.1 H3.out.1.d.box).1
        · obtain ⟨cur, hc, _⟩ := H3.out.1.d.block e
          exact (Array.getElem?_eq_some_iff.1 hc).1
      omega
    · rw [hw5, hb8]
      exact (((Below.refl _ (w4.alloc (.cells #[.slice av S.length cv] 43))).alloc (Nat.le_refl _) _).block w4.heap.size (by simp)).trans (heap_alloc_new _ _)
    · have := heap_alloc_new (w4.alloc (.cells #[.slice av S.length cv] 43)) (.cells #[.int .i64 0] 3)
      rw [World.size_alloc] at this
      rw [hw5, hb9]
      exact this
    · have r2 : w4.ownsRow w.heap.size 46 2 (.slice av S.length cv) S.length (flatS S) := by
        refine ⟨rv.1, ?_⟩
        rcases rv.2 with h0 | ⟨g, cap, cur, e, hB, rest⟩
        · exact .inl h0
        · exact .inr ⟨g, cap, cur, e, Nat.le_trans hs1 hB, rest⟩
      rw [hw5]
      exact (r2.alloc _).alloc _
    · exact ⟨by omega, by omega, by omega, by omega, hw0⟩
  have HW5 := hide (And.intro hw5 (And.intro hb8 hb9))
  have hws : w.heap.size ≤ w5.heap.size := ST.out.1.kept.size
  clear hw5 hb8 hb9 rv B4 x1
  have y7 : w5.cell? ⟨b7, 0, none⟩ = some (.func (.func 38) #[] #[.pointer (some ⟨cb, 0, none⟩)]) := by simp [World.cell?, ST.out.1.h7, allV]
  go_upto_region 6 with fail
  rw [← HW5.out.2.2, ← HW5.out.2.1, ← HW5.out.1]
  go_wp2_with fail
  rename_i K hK
  generalize hA0 : Act.mk _ _ = A0
  have REST : Hid (∀ (D p kk n' : Nat) (lv' : Value) (S' : List RowT) (g' : Text → Option Int) (W : World), w5.heap.size ≤ D → W.heap[D]? = some (.deferred (some [])) → RSt w0 w b mb db lv s x b3 b4 b5 b6 b7 b8 b9 cb kk (.slice av S.length cv) S (p : Int) n' lv' S' g' W → kk ≤ k + 1 → p ≤ S.length → ((p : Int) = x ∨ p = S.length) → K { A0 with defers := { target := .collected D, args := #[] } :: A0.defers } W) := by
    intro D p kk n' lv' S' g' W hD hK0 hst hkk hp hpx
    refine hK _ _ ?_
    rw [← hA0]
    dsimp only
    clear hK y7 hA0
    have hST := hide hst
    have HK0 := hide hK0
    have c9 : W.cell? ⟨b9, 0, none⟩ = some (.int .i64 (p : Int)) := by simp [World.cell?, hst.h9]
    have c5 : W.cell? ⟨b5, 0, none⟩ = some (.int .i64 x) := by simp [World.cell?, hst.h5]
    have c8 : W.cell? ⟨b8, 0, none⟩ = some (.slice av S.length cv) := by simp [World.cell?, hst.h8]
    have c3 : W.cell? ⟨b3, 1, none⟩ = some (.pointer (some ⟨db, 0, none⟩)) := by simp [World.cell?, hst.h3]
    have HPX := hide hpx
    clear hst hK0 hpx
    go_upto_region 15 with fail
    go_cut [75] from 67 to 74 (fun y wx => y = .bool false ∧ wx = W)
    case first =>
      cases hxb : ((p : Int) != x) with
      | false =>
        go_wp2_with fail
        go_meet
        exact ⟨rfl, rfl⟩
      | true =>
        have hb2 : ((p : Int) != (S.length : Int)) = false := by
          rcases HPX.out with h | h
          · exfalso
            simp at hxb
            exact hxb h
          · rw [h]
            simp
        go_wp2_with fail
        go_meet
        exact ⟨rfl, rfl⟩
    case rest =>
      obtain ⟨rfl, hwc⟩ := hcut
      rw [hwc]
      clear hwc wc c9 c5 c8
      have hSl' : S'.length ≤ 1073741821 := by have := hST.out.pr.len; omega
      have CA := hide (refAll_any W w0.heap.size db lv' S' hST.out.pr.d (by omega))
      go_upto_region 18 with (go_at_call 21; refine CA.out.mono ?_; rintro e w6 ⟨v2, rfl, rv, b6'⟩; obtain ⟨av2, cv2, hv2⟩ := row_of rv; subst hv2; have RV := hide (And.intro rv b6'); have q8 := (b6'.block b8 (Array.getElem?_eq_some_iff.1 hST.out.h8).1).trans hST.out.h8; have c8' : w6.cell? ⟨b8, 0, none⟩ = some (.slice av S.length cv) := (by simp [World.cell?, q8]); have f8' : w6.frozen? ⟨b8, 0, none⟩ = false := (by simp [World.frozen?, q8]); have hl8' := (Array.getElem?_eq_some_iff.1 q8).1; clear rv b6' q8)
      obtain ⟨W7, hW7⟩ : ∃ W7, W7 = w6.setCell ⟨b8, 0, none⟩ (.slice av2 S'.length cv2) := ⟨_, rfl⟩
      rw [← hW7]
      have k67 : Kept (fun j => j = b8) w6 W7 := by rw [hW7]; exact Kept.setCell _ _ _ _ _ rfl
      have st6 : ∀ (j : Nat) (o : Obj), W.heap[j]? = some o → w6.heap[j]? = some o := fun j o hj => (RV.out.2.block j (Array.getElem?_eq_some_iff.1 hj).1).trans hj
      have n89 : b9 ≠ b8 := by
        rintro rfl
        have h1 := hST.out.h8
        rw [hST.out.h9] at h1
        simp at h1
      have g9 := (k67.block b9 (Array.getElem?_eq_some_iff.1 (st6 _ _ hST.out.h9)).1 n89).trans (st6 _ _ hST.out.h9)
      have c9 : W7.cell? ⟨b9, 0, none⟩ = some (.int .i64 (p : Int)) := by simp [World.cell?, g9]
      have f9 : W7.frozen? ⟨b9, 0, none⟩ = false := by simp [World.frozen?, g9]
      have hl9 := (Array.getElem?_eq_some_iff.1 g9).1
      have HW7 := hide (And.intro hW7 (And.intro k67 g9))
      clear hW7 k67 g9 c8' f8' hl8' c3 CA
      go_upto_region 19 with fail
      obtain ⟨W2, hW2⟩ : ∃ W2, W2 = W7.setCell ⟨b9, 0, none⟩ (.int .i64 0) := ⟨_, rfl⟩
      rw [← hW2]
      have k72 : Kept (fun j => j = b9) W7 W2 := by rw [hW2]; exact Kept.setCell _ _ _ _ _ rfl
      have h92 : W2.heap[b9]? = some (.cells #[.int .i64 ((0 : Nat) : Int)] 3 (0, 0)) := by
        rw [hW2]
        exact (set_cells HW7.out.2.2 0 (.int .i64 0)).1
      have h88 : W7.heap[b8]? = some (.cells #[.slice av2 S'.length cv2] 43 (0, 0)) := by
        rw [HW7.out.1]
        exact (set_cells (st6 _ _ hST.out.h8) 0 _).1
      have k62 : Kept (fun j => j = b8 ∨ j = b9) w6 W2 := (HW7.out.2.1.mono (fun k _ e => .inl e)).step k72 (fun j _ e => .inr e)
      have hlow := hST.out.low
      have st : ∀ (j : Nat) (c : Array Value) (t : TypeId), W.heap[j]? = some (.cells c t (0, 0)) → t ≠ 3 → t ≠ 43 → W2.heap[j]? = some (.cells c t (0, 0)) := fun j c t hj h1 h2 => by
        refine (k62.block j (Array.getElem?_eq_some_iff.1 (st6 _ _ hj)).1 ?_).trans (st6 _ _ hj)
        rintro (rfl | rfl)
        · rw [hST.out.h8] at hj
          simp at hj
          exact h2 hj.2.symm
        · rw [hST.out.h9] at hj
          simp at hj
          exact h1 hj.2.symm
      have nb : ∀ j, j = b8 ∨ j = b9 → j ≠ b ∧ j ≠ mb ∧ ¬ MineR db lv' j := by
        rintro j (rfl | rfl)
        · obtain ⟨a1, a2⟩ := hST.out.block hST.out.h8 (by decide) (by decide)
          refine ⟨?_, a1, a2⟩
          rintro rfl
          have h1 := hST.out.pr.q.q.cell
          simp [World.cell?, hST.out.h8] at h1
        · obtain ⟨a1, a2⟩ := hST.out.block hST.out.h9 (by decide) (by decide)
          refine ⟨?_, a1, a2⟩
          rintro rfl
          have h1 := hST.out.pr.q.q.cell
          simp [World.cell?, hST.out.h9] at h1
      have RR : Hid (R2 w0 b mb db n' lv' S' g' kk b6 b7 b8 b9 cb (.slice av2 S'.length cv2) W2) := by
        refine ⟨(hST.out.pr.later RV.out.2).keptU k62 (fun j e => ⟨by rcases e with rfl | rfl <;> omega, nb j e⟩), st _ _ _ hST.out.h6 (by decide) (by decide), st _ _ _ hST.out.h7 (by decide) (by decide), (k72.block b8 (Array.getElem?_eq_some_iff.1 h88).1 (fun e => n89 e.symm)).trans h88, st _ _ _ hST.out.hc (by decide) (by decide), row_at (W := w6) ⟨RV.out.1.1, ?_⟩ (fun j hj => ?_)⟩
        · rcases RV.out.1.2 with h0 | ⟨g, cap, cur, e, hB, rest⟩
          · exact .inl h0
          · exact .inr ⟨g, cap, cur, e, Nat.zero_le _, rest⟩
        · have h1 := (World.ownsRow.lt RV.out.1 j hj).1
          have h2 := (World.ownsRow.lt RV.out.1 j hj).2
          have h8l := (Array.getElem?_eq_some_iff.1 hST.out.h8).1
          have h9l := (Array.getElem?_eq_some_iff.1 hST.out.h9).1
          exact k62.block j h2 (by omega)
      have KW2 : Hid (Kept (fun j => j = mb ∨ MineR db lv j) w W2) := (hST.out.kept.step (Kept.ofBelow (P := fun _ => False) RV.out.2) (fun j _ h => h.elim)).step k62 (fun j hj e => by rcases e with rfl | rfl <;> omega)
      have HD2 : Hid (W2.heap[D]? = some (.deferred (some []))) := by
        have h1 := st6 _ _ HK0.out
        refine (k62.block D (Array.getElem?_eq_some_iff.1 h1).1 ?_).trans h1
        rintro (rfl | rfl)
        · rw [hST.out.h8] at HK0; have := HK0.out; simp at this
        · rw [hST.out.h9] at HK0; have := HK0.out; simp at this
      have hzb9 : w0.heap.size ≤ b9 := by omega
      have hzb6 : w0.heap.size ≤ b6 ∧ w.heap.size ≤ b6 := by omega
      have hzw9 : w.heap.size ≤ b9 := by omega
      have hz52 : w5.heap.size ≤ W2.heap.size := by have := (Array.getElem?_eq_some_iff.1 HD2.out).1; have := hST.out; have h1 := (Array.getElem?_eq_some_iff.1 HK0.out).1; have h2 := RV.out.2.size; have h3 := k62.size; omega
      have H92 := hide h92
      have y7 : W2.cell? ⟨b7, 0, none⟩ = some (.func (.func 38) #[] #[.pointer (some ⟨cb, 0, none⟩)]) := by simp [World.cell?, RR.out.h7, allV]
      clear hW2 k72 h92 h88 k62 st nb st6 c9 f9 hl9 HK0 HW7 RV
      go_wp2_with fail
      rename_i K2 hK2
      generalize hA2 : Act.mk _ _ = A2
      have RESTF : Hid (∀ (D2 : Nat) (X : World), W2.heap.size ≤ D2 → X.heap[D2]? = some (.deferred (some [])) → X.heap[D]? = some (.deferred (some [])) → X.heap[b9]? = some (.cells #[.int .i64 (S'.length : Int)] 3 (0, 0)) → Kept (fun j => j = b9) W2 X → K2 { A2 with defers := { target := .collected D2, args := #[] } :: A2.defers } X) := by
        intro D2 X hD2 hKb hKa hX9 hKX
        refine hK2 _ _ ?_
        rw [← hA2]
        dsimp only
        clear hK2 hA2 y7
        have RX := hide (RR.out.at H92.out hzb9 hKX)
        have c8 : X.cell? ⟨b8, 0, none⟩ = some (.slice av2 S'.length cv2) := by simp [World.cell?, RX.out.h8]
        have c9 : X.cell? ⟨b9, 0, none⟩ = some (.int .i64 (S'.length : Int)) := by simp [World.cell?, hX9]
        have c6 : X.cell? ⟨b6, 0, none⟩ = some (.bool false) := by simp [World.cell?, RX.out.h6]
        have f6 : X.frozen? ⟨b6, 0, none⟩ = false := by simp [World.frozen?, RX.out.h6]
        have hl6 := (Array.getElem?_eq_some_iff.1 RX.out.h6).1
        have HKA := hide (And.intro hKa (And.intro hKb (And.intro hKX hX9)))
        clear hKa hKb hX9 hKX
        go_wp2_with fail
        have hDl := (Array.getElem?_eq_some_iff.1 HD2.out).1
        have hne1 : D ≠ D2 := by omega
        have hK2' := (KeepsOthers.setCell X ⟨b6, 0, none⟩ (.bool true)).same D2 _ HKA.out.2.1 rfl
        have hK1' := (KeepsOthers.setCell X ⟨b6, 0, none⟩ (.bool true)).same D _ HKA.out.1 rfl
        have hK1'' := (World.putObj_heap_other (o := .deferred none) hne1).trans hK1'
        refine ⟨by simp, .inl ⟨_, _, rfl, run_takeDeferred hK2', ?_⟩⟩
        refine ⟨by simp, .inl ⟨_, _, rfl, run_takeDeferred hK1'', ?_⟩⟩
        have g1 := grownBy_putObj' (X.setCell ⟨b6, 0, none⟩ (.bool true)) D2 (.deferred none)
        have g2 := grownBy_putObj' ((X.setCell ⟨b6, 0, none⟩ (.bool true)).putObj D2 (.deferred none)) D (.deferred none)
        have h6s := (set_cells RX.out.h6 0 (.bool true)).1
        have n61 : b6 ≠ D2 := by rintro rfl; rw [RX.out.h6] at HKA; have := HKA.out.2.1; simp at this
        have n62 : b6 ≠ D := by rintro rfl; rw [RX.out.h6] at HKA; have := HKA.out.1; simp at this
        have h6f := (World.putObj_heap_other (w := (X.setCell ⟨b6, 0, none⟩ (.bool true)).putObj D2 (.deferred none)) (o := .deferred none) n62).trans ((World.putObj_heap_other (w := X.setCell ⟨b6, 0, none⟩ (.bool true)) (o := .deferred none) n61).trans h6s)
        have hc5 : (((X.setCell ⟨b6, 0, none⟩ (.bool true)).putObj D2 (.deferred none)).putObj D (.deferred none)).cell? ⟨b6, 0, none⟩ = some (.bool true) := by simp [World.cell?, h6f]
        have ks : Kept (fun j => j = b6) X (X.setCell ⟨b6, 0, none⟩ (.bool true)) := Kept.setCell _ _ _ _ _ rfl
        have nb6 : ∀ j, j = b6 → w0.heap.size ≤ j ∧ j ≠ b ∧ j ≠ mb ∧ ¬ MineR db lv' j := by
          rintro j rfl
          refine ⟨hzb6.1, ?_, ?_, ?_⟩
          · rintro rfl
            have h1 := RX.out.pr.q.q.cell
            simp [World.cell?, RX.out.h6] at h1
          · rintro rfl
            obtain ⟨es, cl, hm⟩ := RX.out.pr.q.q.tab.map
            have h1 := RX.out.h6
            rw [hm] at h1
            simp at h1
          · rintro (rfl | e2)
            · have h1 := RX.out.h6
              rw [RX.out.pr.d.box] at h1
              simp at h1
            · obtain ⟨cur, hc, _⟩ := RX.out.pr.d.block e2
              have h1 := RX.out.h6
              rw [hc] at h1
              simp at h1
        have P1 := RX.out.pr.keptU ks nb6
        have hmb5 := ST.out.2
        have P2 := P1.own (B := w5.heap.size) hmb5 (Nat.le_trans hw0 hws) g1 (fun r e => by cases e; exact ⟨by omega, _, hK2', rfl⟩)
        have P3 := P2.own (B := w5.heap.size) hmb5 (Nat.le_trans hw0 hws) g2 (fun r e => by cases e; exact ⟨by omega, _, hK1'', rfl⟩)
        refine ⟨.bool true, by simp [results, Try.f17, go_sem, hc5], rfl, ⟨n', lv', S', g', P3.weak hkk, hST.out.mine⟩, ?_⟩
        have kX := KW2.out.step HKA.out.2.2.1 (fun j hj e => by omega)
        have k1 := kX.step ks (fun j hj e => by omega)
        have k2 := k1.step (Kept.ofGrown (P := fun j => w5.heap.size ≤ j) g1 (fun q e => by cases e; omega)) (fun j hj h => by omega)
        exact k2.step (Kept.ofGrown (P := fun j => w5.heap.size ≤ j) g2 (fun q e => by cases e; omega)) (fun j hj h => by omega)
      subst hA2
      clear hK2 y7
      refine (wpIn_wide (n := 5)).1 ?_
      refine wpIn_told rfl (by omega) (gf := 38) (lb := #[.pointer (some ⟨cb, 0, none⟩)]) rfl trivial (enters_of Try.func38 (by kernel_rfl) rfl)
        (all_told 4 cb b mb n' g' S' W2 RR.out.pr.q.q RR.out.hc (by have := RR.out.pr.few; omega) RR.out.pr.l) (fun h k => h.trans k) (fun W l o o' _ hl ho _ => Kp.put W l o o' hl ho) (Below.refl _ _) (fun _ => rfl)
        (fun pre X => (X.heap[b9]? = some (.cells #[.int .i64 (pre.length : Int)] 3 (0, 0)) ∧ X.heap[D]? = some (.deferred (some []))) ∧ Kept (fun j => j = b9) W2 X)
        (fun _ _ _ => False)
        (fun pre A C row hs hg hr => ⟨⟨cells_own hs.1.1 hg hr, (hg.block D (Array.getElem?_eq_some_iff.1 hs.1.2).1 (fun e => by have := (hr D e.symm).1; have := (Array.getElem?_eq_some_iff.1 HD2.out).1; omega)).trans hs.1.2⟩, hs.2.step (Kept.ofGrown (P := fun j => W2.heap.size ≤ j) hg (fun q e => (hr q e).1)) (fun j hj h => by omega)⟩)
        (fun _ _ _ _ _ h _ _ => h.elim)
        (fun pre x A _ _ _ _ h _ _ => h)
        ⟨⟨H92.out, HD2.out⟩, Kept.refl _ _⟩
        ?a2 ?assign2 ?body2 ?done2 ?stop2
      case assign2 =>
        intro l x W K hK
        gi_wp2
        exact hK
      case body2 =>
        rintro id pre ⟨xt, xc⟩ A V hid _ ⟨rl, hrl⟩ _ _ ⟨⟨h9, hD0⟩, hKV⟩ hq hlt
        obtain ⟨p2, hp2⟩ : ∃ p2, p2 = pre.length := ⟨_, rfl⟩
        have HP2 : Hid ((pre ++ [((xt, xc) : RowT)]).length = p2 + 1) := by rw [List.length_append, ← hp2]; rfl
        rw [← hp2] at h9 hq hlt
        have RV := hide (RR.out.at H92.out hzb9 hKV)
        obtain ⟨gr, hgr, r0, r1⟩ := row_cell RV.out.row hq
        subst hgr
        replace r0 : V.cell? ⟨gr, p2 * 2, none⟩ = some (.string ⟨xt.toArray⟩) := r0
        have k8 : V.cell? ⟨b8, 0, none⟩ = some (.slice (some ⟨gr, 0, none⟩) S'.length cv2) := by simp [World.cell?, RV.out.h8]
        have k9 : V.cell? ⟨b9, 0, none⟩ = some (.int .i64 (p2 : Int)) := by simp [World.cell?, h9]
        have k7 : V.cell? ⟨b7, 0, none⟩ = some (.func (.func 38) #[] #[.pointer (some ⟨cb, 0, none⟩)]) := by simp [World.cell?, RV.out.h7, allV]
        have hl7 := (Array.getElem?_eq_some_iff.1 RV.out.h7).1
        have hl8 := (Array.getElem?_eq_some_iff.1 RV.out.h8).1
        have hl9 := (Array.getElem?_eq_some_iff.1 h9).1
        have hlti : (p2 : Int) < (S'.length : Int) := by omega
        have HV := hide (And.intro h9 (And.intro hD0 (And.intro hKV hrl)))
        clear h9 hD0 hKV hrl hq hp2
        gi_wp2
        obtain ⟨Wn, hWn⟩ : ∃ Wn, Wn = V.alloc (.cells #[.int .i64 0] 3) := ⟨_, rfl⟩
        obtain ⟨B14, hB14⟩ : ∃ B14, B14 = V.heap.size := ⟨_, rfl⟩
        rw [← hWn, ← hB14]
        have q14 : Wn.heap[B14]? = some (.cells #[.int .i64 ((0 : Nat) : Int)] 3 (0, 0)) := by rw [hWn, hB14]; exact heap_alloc_new _ _
        have BN : Below V.heap.size V Wn := by rw [hWn]; exact (Below.refl _ V).alloc (Nat.le_refl _) _
        have hzn : B14 < Wn.heap.size := (Array.getElem?_eq_some_iff.1 q14).1
        have hzB : V.heap.size ≤ B14 := by omega
        have RN := hide (RV.out.below BN)
        clear hWn hB14
        rename_i K3 hK3
        generalize hA3 : Act.mk _ _ = A3
        have REST3 : Hid (∀ (m : Nat) (Wm : World), Below V.heap.size V Wm → Wm.heap[B14]? = some (.cells #[.int .i64 (m : Int)] 3 (0, 0)) → (m = 3 ∨ m = S'.length) → K3 A3 Wm) := by
          intro m Wm hBm hm14 hm3
          refine hK3 _ _ ?_
          rw [← hA3]
          clear hK3 hA3
          have HBM := hide (And.intro hBm hm14)
          have m14 : Wm.cell? ⟨B14, 0, none⟩ = some (.int .i64 (m : Int)) := by simp [World.cell?, hm14]
          have m8 := (hBm.cell (p := ⟨b8, 0, none⟩) hl8).trans k8
          have m9 := (hBm.cell (p := ⟨b9, 0, none⟩) hl9).trans k9
          have g9 := (hBm.block b9 hl9).trans HV.out.1
          have mf9 : Wm.frozen? ⟨b9, 0, none⟩ = false := by simp [World.frozen?, g9]
          have hl9' := Nat.lt_of_lt_of_le hl9 hBm.size
          have hl14 := (Array.getElem?_eq_some_iff.1 hm14).1
          have HM3 := hide hm3
          clear hBm hm14 hm3 g9
          have fin : ∀ X, X = Wm.setCell ⟨b9, 0, none⟩ (.int .i64 ((p2 : Int) + 1)) → KeepsFrom W2.heap.size V X ∧ Kp V X ∧ ((X.heap[b9]? = some (.cells #[.int .i64 (((pre ++ [((xt, xc) : RowT)]).length : Nat) : Int)] 3 (0, 0)) ∧ X.heap[D]? = some (.deferred (some []))) ∧ Kept (fun j => j = b9) W2 X) := by
            rintro X rfl
            have g9 := (HBM.out.1.block b9 hl9).trans HV.out.1
            have ks : Kept (fun j => j = b9) Wm (Wm.setCell ⟨b9, 0, none⟩ (.int .i64 ((p2 : Int) + 1))) := Kept.setCell _ _ _ _ _ rfl
            have kV : Kept (fun j => j = b9) V (Wm.setCell ⟨b9, 0, none⟩ (.int .i64 ((p2 : Int) + 1))) := (Kept.ofBelow HBM.out.1).trans ks
            have gD := (HBM.out.1.block D (Array.getElem?_eq_some_iff.1 HV.out.2.1).1).trans HV.out.2.1
            refine ⟨(KeepsFrom.of_grownBy (grownR HBM.out.1) (fun j e => by cases e)).trans ((KeepsOthers.setCell _ _ _).from _), Kp.ofKept kV (fun j c hj e => ?_), ⟨?_, (KeepsOthers.setCell _ _ _).same D _ gD rfl⟩, HV.out.2.2.1.trans kV⟩
            · rw [e, HV.out.1] at hj
              simp at hj
            · rw [HP2.out, show ((p2 + 1 : Nat) : Int) = (p2 : Int) + 1 by omega]
              exact (set_cells g9 0 (.int .i64 ((p2 : Int) + 1))).1
          have FIN := hide fin
          clear fin
          by_cases hm3 : m = 3
          · have hmb : ((m : Int) != 3) = false := by rw [hm3]; rfl
            clear hm3
            gi_wp2
            exact FIN.out _ rfl
          · have hmb : ((m : Int) != 3) = true := by simp; omega
            have hmc : ((m : Int) != (S'.length : Int)) = false := by
              rcases HM3.out with h | h
              · exact absurd h hm3
              · rw [h]; simp
            gi_wp2
            exact FIN.out _ rfl
        subst hA3
        clear hK3
        refine wpIn_told_in (l₀ := id) (r₀ := rl) rfl ((BN.block id (Array.getElem?_eq_some_iff.1 HV.out.2.2.2).1).trans HV.out.2.2.2) (by omega) (gf := 38) (lb := #[.pointer (some ⟨cb, 0, none⟩)]) rfl trivial (enters_of Try.func38 (by kernel_rfl) rfl)
          (SeqTold.inRound id (all_told 2 cb b mb n' g' S' Wn RN.out.pr.q.q RN.out.hc (by have := RN.out.pr.few; omega) RN.out.pr.l)) (fun h k => h.trans k) (fun W l o o' _ hl ho _ => Kp.put W l o o' hl ho) (Below.refl _ _) (fun _ => rfl)
          (fun pre X => (X.heap[B14]? = some (.cells #[.int .i64 (pre.length : Int)] 3 (0, 0)) ∧ Below V.heap.size V X) ∧ pre.length ≤ 2)
          (fun c pre X => (X.heap[B14]? = some (.cells #[.int .i64 (pre.length : Int)] 3 (0, 0)) ∧ Below V.heap.size V X) ∧ c = .exit 4 ∧ pre.length = 3)
          (fun s A C row hs hg hr => ⟨⟨cells_own hs.1.1 hg hr, hs.1.2.grown hg (by have := hs.1.2.size; omega) (fun k e => by have := (hr k e).1; omega)⟩, hs.2⟩)
          (fun c s A C row hs hg hr => ⟨⟨cells_own hs.1.1 hg hr, hs.1.2.grown hg (by have := hs.1.2.size; omega) (fun k e => by have := (hr k e).1; omega)⟩, hs.2⟩)
          (fun pre x A _ _ _ _ h _ _ => h)
          ⟨⟨q14, BN⟩, by simp⟩
          ?a3 ?assign3 ?body3 ?done3 ?stop3
        case assign3 =>
          intro l x W K hK
          gi_wp2
          exact hK
        case body3 =>
          rintro id3 pre3 ⟨yt, yc⟩ A3 X hid3 _ ⟨rl3, hrl3⟩ _ _ ⟨⟨h14, hBX⟩, hle⟩ hq3 hlt3
          obtain ⟨p3, hp3⟩ : ∃ p3, p3 = pre3.length := ⟨_, rfl⟩
          have HP3 : Hid ((pre3 ++ [((yt, yc) : RowT)]).length = p3 + 1) := by rw [List.length_append, ← hp3]; rfl
          rw [← hp3] at h14 hq3 hlt3 hle
          have rowX := (RV.out.below hBX).row
          obtain ⟨gr3, hgr3, s0, s1⟩ := row_cell rowX hq3
          simp only [Option.some.injEq, Addr.mk.injEq, and_true] at hgr3
          subst hgr3
          replace s0 : X.cell? ⟨gr, p3 * 2, none⟩ = some (.string ⟨yt.toArray⟩) := s0
          have m8 := (hBX.cell (p := ⟨b8, 0, none⟩) hl8).trans k8
          have m14 : X.cell? ⟨B14, 0, none⟩ = some (.int .i64 (p3 : Int)) := by simp [World.cell?, h14]
          have mf14 : X.frozen? ⟨B14, 0, none⟩ = false := by simp [World.frozen?, h14]
          have hl14 := (Array.getElem?_eq_some_iff.1 h14).1
          have hlti3 : (p3 : Int) < (S'.length : Int) := by omega
          have HX3 := hide (And.intro h14 hBX)
          have FIN3 : Hid (∀ Y, Y = X.setCell ⟨B14, 0, none⟩ (.int .i64 ((p3 : Int) + 1)) → KeepsFrom Wn.heap.size X Y ∧ Kp X Y ∧ Y.heap[B14]? = some (.cells #[.int .i64 (((pre3 ++ [((yt, yc) : RowT)]).length : Nat) : Int)] 3 (0, 0)) ∧ Below V.heap.size V Y) := by
            rintro Y rfl
            have ks : Kept (fun j => j = B14) X (X.setCell ⟨B14, 0, none⟩ (.int .i64 ((p3 : Int) + 1))) := Kept.setCell _ _ _ _ _ rfl
            refine ⟨(KeepsOthers.setCell _ _ _).from _, Kp.ofKept ks (fun j c hj e => ?_), ?_, HX3.out.2.setCell (p := ⟨B14, 0, none⟩) hzB _⟩
            · rw [e, HX3.out.1] at hj
              simp at hj
            · rw [HP3.out, show ((p3 + 1 : Nat) : Int) = (p3 : Int) + 1 by omega]
              exact (set_cells HX3.out.1 0 (.int .i64 ((p3 : Int) + 1))).1
          clear hp3 h14 hBX rowX hq3 hrl3
          cases hb3 : ((p3 : Int) + 1 == 3) with
          | true =>
            gi_wp2
            obtain ⟨f1, f2, f3, f4⟩ := FIN3.out _ rfl
            refine ⟨f1, ⟨f3, f4⟩, rfl, ?_⟩
            rw [HP3.out]
            have : (p3 : Int) + 1 = 3 := by simpa using hb3
            omega
          | false =>
            gi_wp2
            obtain ⟨f1, f2, f3, f4⟩ := FIN3.out _ rfl
            refine ⟨f1, f2, ⟨f3, f4⟩, ?_⟩
            rw [HP3.out]
            have : ¬ (p3 : Int) + 1 = 3 := by simpa using hb3
            omega
        case done3 =>
          rintro xs X hS ⟨⟨h14, hBX⟩, _⟩
          have hxl : xs.length = S'.length := by rw [show xs = S' from hS]
          rw [hxl] at h14
          exact REST3.out _ X hBX h14 (.inr rfl)
        case stop3 =>
          rintro c pre X hSp ⟨⟨h14, hBX⟩, rfl, hp3⟩
          rw [hp3] at h14
          gi_wp2
          exact REST3.out 3 X hBX h14 (.inl rfl)
      case done2 =>
        rintro D2 xs X hD2 hS ⟨⟨h1, h2⟩, h3⟩ hK0
        have hxl : xs.length = S'.length := by rw [show xs = S' from hS]
        rw [hxl] at h1
        exact RESTF.out D2 X hD2 hK0 h2 h1 h3
      case stop2 =>
        rintro D2 c pre X _ _ h _
        exact h.elim
  subst hA0
  clear hK y7
  refine (wpIn_wide (n := 5)).1 ?_
  refine wpIn_told rfl (by omega) (gf := 38) (lb := #[.pointer (some ⟨cb, 0, none⟩)]) rfl trivial (enters_of Try.func38 (by kernel_rfl) rfl)
    (all_told 4 cb b mb n g S w5 ST.out.1.pr.q.q ST.out.1.hc (by have := H.out.few; omega) H.out.l) (fun h k => h.trans k) (fun W l o o' _ hl ho _ => Kp.put W l o o' hl ho) (Below.refl _ _) (fun _ => rfl)
    (fun pre W => Rn w0 w b mb db lv s x b3 b4 b5 b6 b7 b8 b9 cb k (.slice av S.length cv) S pre.length W)
    (fun c pre W => c = .exit 0 ∧ (pre.length : Int) = x ∧ Rn w0 w b mb db lv s x b3 b4 b5 b6 b7 b8 b9 cb k (.slice av S.length cv) S pre.length W)
    (fun pre W W' row hs hgr hr => by
      obtain ⟨kk, n', lv', S', g', h, h1, h2⟩ := hs
      exact ⟨kk, n', lv', S', g', h.own hws ST.out.2 (Nat.le_trans hw0 hws) hgr hr, h1, h2⟩)
    (fun c pre W W' row hs hgr hr => by
      obtain ⟨hc, hx, kk, n', lv', S', g', h, h1, h2⟩ := hs
      exact ⟨hc, hx, kk, n', lv', S', g', h.own hws ST.out.2 (Nat.le_trans hw0 hws) hgr hr, h1, h2⟩)
    (fun pre x A _ _ _ _ h _ _ => h)
    ⟨k, n, lv, S, g, ST.out.1, by omega, fun _ => Nat.le_refl _⟩
    ?a1 ?assign ?body ?done ?stop
  case assign =>
    intro l x W K hK
    gi_wp2
    exact hK
  case body =>
    rintro id pre ⟨xt, xc⟩ A V hid _ _ _ _ hI hq hlt
    obtain ⟨p, hp⟩ : ∃ p, p = pre.length := ⟨_, rfl⟩
    have hp1 : (pre ++ [((xt, xc) : RowT)]).length = p + 1 := by rw [List.length_append, ← hp]; rfl
    have HP1 := hide hp1
    obtain ⟨kk, n', lv', S', g', hI, hkk, hk0⟩ := hI
    rw [← hp] at hI hq hlt hk0
    obtain ⟨gr, rfl, r0, r1⟩ := row_cell hI.row hq
    replace r0 : V.cell? ⟨gr, p * 2, none⟩ = some (.string ⟨xt.toArray⟩) := r0
    have k8 : V.cell? ⟨b8, 0, none⟩ = some (.slice (some ⟨gr, 0, none⟩) S.length cv) := by simp [World.cell?, hI.h8]
    have k9 : V.cell? ⟨b9, 0, none⟩ = some (.int .i64 (p : Int)) := by simp [World.cell?, hI.h9]
    have k3 : V.cell? ⟨b3, 0, none⟩ = some (.pointer (some ⟨b, 0, none⟩)) := by simp [World.cell?, hI.h3]
    have k3' : V.cell? ⟨b3, 1, none⟩ = some (.pointer (some ⟨db, 0, none⟩)) := by simp [World.cell?, hI.h3]
    have k4 : V.cell? ⟨b4, 0, none⟩ = some (.string s) := by simp [World.cell?, hI.h4]
    have k5 : V.cell? ⟨b5, 0, none⟩ = some (.int .i64 x) := by simp [World.cell?, hI.h5]
    have f9 : V.frozen? ⟨b9, 0, none⟩ = false := by simp [World.frozen?, hI.h9]
    have hlti : (p : Int) < (S.length : Int) := by omega
    have HI2 := hide hI
    have HKK := hide (And.intro hkk hk0)
    clear hI hq hid hp hp1 hkk hk0
    have hz3 := rem3 x hx.1 hx.2
    by_cases hp0 : p = 0
    · have hpb : ((p : Int) == 0) = true := by simp; omega
      have hkk0 : kk ≤ k := HKK.out.2 hp0
      have HP0 := hide hp0
      clear hp0
      have hwz : wrap64 (Int.tmod x 3 + 3) = Int.tmod x 3 + 3 := by
        have h3 := tmod3 x
        unfold wrap64; omega
      obtain ⟨z, hz⟩ : ∃ z, z = Int.tmod (Int.tmod x 3 + 3) 3 := ⟨_, rfl⟩
      rw [← hz] at hz3
      have HZ := hide hz
      have HT := hide (turn_any w0 V b mb n' db lv' S' g' kk s z HI2.out.pr (by omega) hs hz3)
      clear hz
      gi_wp2
      rw [← HZ.out]
      refine (CallsIn.inRound _ (callsIn_wide.2 HT.out)).mono ?_
      rintro e V2 ⟨rfl, ⟨n2, lv2, S2, g2, hp2, hm2⟩, _, hk2⟩
      obtain ⟨st2, kp2⟩ := HI2.out.turned hp2 hm2 hk2
      have HS2 := hide (And.intro st2 (And.intro kp2 (keepsFrom_turn w5.heap.size ST.out.2 HI2.out.pr.d hk2)))
      have j9 : V2.cell? ⟨b9, 0, none⟩ = some (.int .i64 (p : Int)) := by simp [World.cell?, st2.h9]
      have jf9 : V2.frozen? ⟨b9, 0, none⟩ = false := by simp [World.frozen?, st2.h9]
      have HN := hide (st2.count ((p : Int) + 1))
      have m5 : (V2.setCell ⟨b9, 0, none⟩ (.int .i64 ((p : Int) + 1))).cell? ⟨b5, 0, none⟩ = some (.int .i64 x) := by simp [World.cell?, HN.out.1.h5]
      clear st2 kp2 hp2 hm2 hk2
      cases hxb : ((p : Int) + 1 == x) with
      | true =>
        gi_wp2
        refine ⟨HS2.out.2.2.trans ((KeepsOthers.setCell _ _ _).from _), rfl, ?_, ?_⟩
        · rw [HP1.out]
          have : (p : Int) + 1 = x := by simpa using hxb
          omega
        · rw [HP1.out]
          exact ⟨kk + 1, n2, lv2, S2, g2, by rw [show ((p + 1 : Nat) : Int) = (p : Int) + 1 by omega]; exact HN.out.1, by omega, fun h => by omega⟩
      | false =>
        gi_wp2
        refine ⟨HS2.out.2.2.trans ((KeepsOthers.setCell _ _ _).from _), HS2.out.2.1.trans HN.out.2, ?_⟩
        dsimp only
        rw [HP1.out]
        exact ⟨kk + 1, n2, lv2, S2, g2, by rw [show ((p + 1 : Nat) : Int) = (p : Int) + 1 by omega]; exact HN.out.1, by omega, fun h => by omega⟩
    · have hpb : ((p : Int) == 0) = false := by simp; omega
      have HN := hide (HI2.out.count ((p : Int) + 1))
      have m5 : (V.setCell ⟨b9, 0, none⟩ (.int .i64 ((p : Int) + 1))).cell? ⟨b5, 0, none⟩ = some (.int .i64 x) := by simp [World.cell?, HN.out.1.h5]
      cases hxb : ((p : Int) + 1 == x) with
      | true =>
        gi_wp2
        refine ⟨(KeepsOthers.setCell _ _ _).from _, rfl, ?_, ?_⟩
        · rw [HP1.out]
          have : (p : Int) + 1 = x := by simpa using hxb
          omega
        · rw [HP1.out]
          exact ⟨kk, n', lv', S', g', by rw [show ((p + 1 : Nat) : Int) = (p : Int) + 1 by omega]; exact HN.out.1, HKK.out.1, fun h => by omega⟩
      | false =>
        gi_wp2
        refine ⟨(KeepsOthers.setCell _ _ _).from _, HN.out.2, ?_⟩
        dsimp only
        rw [HP1.out]
        exact ⟨kk, n', lv', S', g', by rw [show ((p + 1 : Nat) : Int) = (p : Int) + 1 by omega]; exact HN.out.1, HKK.out.1, fun h => by omega⟩
  case done =>
    rintro D xs W hD hS ⟨kk, n', lv', S', g', hst, h1, _⟩ hK0
    have hxl : xs.length = S.length := by rw [show xs = S from hS]
    exact REST.out D xs.length kk n' lv' S' g' W hD hK0 hst h1 (by omega) (.inr hxl)
  case stop =>
    rintro D c pre W hD hSp ⟨rfl, hx1, kk, n', lv', S', g', hst, h1, _⟩ hK0
    have hxl := hSp.length_le
    gi_wp2
    exact REST.out D pre.length kk n' lv' S' g' W hD hK0 hst h1 hxl (.inl hx1)
end Go.Proofs.Ythjaehibndmehaa
