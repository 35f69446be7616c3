/-
  HRef, HRef2.
-/
import Derived.Test.YtkjjinccnaphpaaSortW
import Derived.Test.YtkjjinccnaphpaaAtT
import Derived.Test.YtkjjinccnaphpaaTopCT
import Derived.Test.YtkjjinccnaphpaaKeepsG
import Derived.Deep.Cut
import Derived.Test.YtkjjinccnaphpaaSHand
namespace Go.Proofs.Ytkjjinccnaphpaa
open Go.RowKit

/-- The document's heap: its box, its row of tickets and things. -/
structure RefH (w : World) (lo hb : Nat) (v : Value) (way last : Int) (E : List RowI) : Prop where
  box : w.heap[hb]? = some (.cells #[.int .i64 way, .int .i64 last, v] 55 (0, 0))
  row : w.ownsRow lo 71 3 v E.length (flatT E)
  low : lo ≤ hb
def MineH (hb : Nat) (v : Value) (k : Nat) : Prop := k = hb ∨ v.ownBlock = some k
section
variable {w w' : World} {lo hb : Nat} {v : Value} {way last : Int} {E : List RowI}
theorem RefH.kept {K : Nat → Prop} (h : RefH w lo hb v way last E) (hk : Kept K w w') (h1 : ∀ k, MineH hb v k → ¬ K k) : RefH w' lo hb v way last E := by
  refine ⟨(hk.block hb (Array.getElem?_eq_some_iff.1 h.box).1 (h1 hb (.inl rfl))).trans h.box, ⟨h.row.1, ?_⟩, h.low⟩
  rcases h.row.2 with h0 | ⟨g, cap, cur, rfl, hB, hg, rest⟩
  · exact .inl h0
  · exact .inr ⟨g, cap, cur, rfl, hB, (hk.block g (Array.getElem?_eq_some_iff.1 hg).1 (h1 g (.inr rfl))).trans hg, rest⟩
theorem RefH.below (h : RefH w lo hb v way last E) (hb' : Below w.heap.size w w') : RefH w' lo hb v way last E := h.kept (K := fun _ => False) (Kept.ofBelow hb') (fun _ _ => id)
theorem RefH.form (h : RefH w lo hb v way last E) : ∃ a c, v = .slice a E.length c ∧ E.length ≤ c := by
  rcases h.row.2 with ⟨rfl, h0⟩ | ⟨g, cap, cur, rfl, _, _, hc, _⟩
  · exact ⟨none, 0, by rw [h0], by omega⟩
  · exact ⟨_, _, rfl, hc⟩
theorem RefH.cells (h : RefH w lo hb v way last E) : w.cell? ⟨hb, 0, none⟩ = some (.int .i64 way) ∧ w.cell? ⟨hb, 1, none⟩ = some (.int .i64 last) ∧ w.cell? ⟨hb, 2, none⟩ = some v ∧ hb < w.heap.size :=
  ⟨by simp [World.cell?, h.box], by simp [World.cell?, h.box], by simp [World.cell?, h.box], (Array.getElem?_eq_some_iff.1 h.box).1⟩
theorem RefH.cell {a : Option Addr} {n c : Nat} (h : RefH w lo hb (.slice a n c) way last E) {i : Nat} {r : RowI} (hr : E[i]? = some r) : ∃ g, a = some ⟨g, 0, none⟩ ∧ g < w.heap.size ∧ ∀ k u, (cellsT r)[k]? = some u → w.cell? ⟨g, i * 3 + k, none⟩ = some u := by
  have hi := (List.getElem?_eq_some_iff.1 hr).1
  rcases h.row.2 with ⟨_, h0⟩ | ⟨g, cap, cur, e, hB, hg, hnc, hcm, hcs, ht⟩
  · rw [h0] at hi; omega
  · simp only [Value.slice.injEq] at e
    obtain ⟨rfl, _, rfl⟩ := e
    refine ⟨g, rfl, (Array.getElem?_eq_some_iff.1 hg).1, fun k u hu => ?_⟩
    have hk : k < 3 := by have := (List.getElem?_eq_some_iff.1 hu).1; simpa [cellsT] using this
    have h5 := flatT_get E i r hr k hk
    rw [hu, ← ht, List.getElem?_take_of_lt (by omega)] at h5
    simpa [World.cell?, hg] using h5
end
set_option maxHeartbeats 1000000 in
set_option maxRecDepth 1000000 in
theorem hNew_any (w : World) (lo : Nat) (way : Int) (hlo : lo ≤ w.heap.size) : Calls Try.prog 7 #[.int .i64 way] w fun e w' => e = .returned (.pointer (some ⟨w.heap.size, 0, none⟩)) ∧ RefH w' lo w.heap.size (.slice none 0 0) way 0 [] ∧ Below w.heap.size w w' := by
  go_enter Try.func7, Try.ntmps7
  go_wp2_with fail
  go_ret
  exact ⟨rfl, ⟨heap_alloc_new _ _, World.ownsRow_nil _ _ _ _, hlo⟩, (Below.refl _ w).alloc (Nat.le_refl _) _⟩
set_option maxHeartbeats 1000000 in
set_option maxRecDepth 1000000 in
theorem hLen_any (w : World) (lo hb : Nat) (v : Value) (way last : Int) (E : List RowI) (h : RefH w lo hb v way last E) : Calls Try.prog 31 #[.pointer (some ⟨hb, 0, none⟩)] w fun e w' => e = .returned (.int .i64 (E.length : Int)) ∧ w' = w := by
  obtain ⟨a, c, rfl, hc⟩ := h.form
  obtain ⟨c0, c1, c2, hl⟩ := h.cells
  clear h
  go_enter Try.func31, Try.ntmps31
  go_wp2_with fail
  go_ret
  exact ⟨rfl, rfl⟩
/-- Where a ticket stands. -/
def PlaceOf (E : List RowI) (t p : Int) : Prop := (∃ (i : Nat) (r : RowI), p = i ∧ E[i]? = some r ∧ r.1 = t) ∨ (p = -1 ∧ ∀ r ∈ E, r.1 ≠ t)
set_option maxHeartbeats 2000000 in
set_option maxRecDepth 1000000 in
theorem hPlace_any (w : World) (lo hb : Nat) (v : Value) (way last : Int) (E : List RowI) (t : Int) (h : RefH w lo hb v way last E) (hE : E.length ≤ 1073741823) :
    Calls Try.prog 42 #[.pointer (some ⟨hb, 0, none⟩), .int .i64 t] w fun e w' => ∃ p, e = .returned (.int .i64 p) ∧ PlaceOf E t p ∧ w' = w := by
  obtain ⟨a, c, rfl, hc⟩ := h.form
  obtain ⟨c0, c1, c2, hl⟩ := h.cells
  have HR : Hid (RefH w lo hb (.slice a E.length c) way last E) := h
  clear h
  go_enter Try.func42, Try.ntmps42
  go_wp2_with fail
  go_loopg [5, 11] E.length (fun gk _ s11 wr => ∃ i : Nat, s11 = .int .i64 (i : Int) ∧ i ≤ E.length ∧ E.length - i ≤ gk ∧ wr = w ∧ Hid (∀ r ∈ E.take i, r.1 ≠ t))
  case atStart => exact ⟨0, rfl, Nat.zero_le _, Nat.le_refl _, rfl, (show ∀ r ∈ E.take 0, r.1 ≠ t by simp)⟩
  case round =>
    obtain ⟨i, rfl, hi, hgk, hwr, HN⟩ := hrel
    subst hwr
    by_cases hit : i < E.length
    · have t1 : (i : Int) < (E.length : Int) := by omega
      obtain ⟨r, hx⟩ : ∃ x, E[i]? = some x := ⟨_, List.getElem?_eq_getElem hit⟩
      obtain ⟨g, rfl, hg, cc⟩ := HR.out.cell hx
      obtain ⟨r1, r2, r3⟩ := r
      have d0 := cc 0 _ rfl
      rw [Nat.add_zero] at d0
      have HX : Hid (E[i]? = some (r1, r2, r3)) := hx
      clear hx cc
      by_cases hq : r1 = t
      · subst hq
        go_wp2_with fail
        go_ret
        exact ⟨i, rfl, .inl ⟨i, _, rfl, HX.out, rfl⟩, rfl⟩
      · have hqb : (r1 == t) = false := by simpa using hq
        have HQ : Hid (¬ r1 = t) := hq
        clear hq
        go_wp2_with fail
        go_roundg (E.length - (i + 1))
        case measure => omega
        case rel =>
          refine ⟨i + 1, by go_num, by omega, Nat.le_refl _, rfl, ?_⟩
          show ∀ r ∈ E.take (i + 1), r.1 ≠ t
          intro x hx
          rw [List.take_add_one, HX.out] at hx
          rcases List.mem_append.1 hx with hx | hx
          · exact HN.out x hx
          · simp at hx
            rw [hx]
            exact HQ.out
    · have t1 : ¬ (i : Int) < (E.length : Int) := by omega
      obtain rfl : i = E.length := by omega
      go_wp2_with fail
      go_ret
      refine ⟨-1, rfl, .inr ⟨rfl, ?_⟩, rfl⟩
      have := HN.out
      rwa [List.take_length] at this
/-- What is told of a place. -/
def TellsOf (E : List RowI) (p : Int) (e : Value) : Prop := (∃ (i : Nat) (r : RowI), p = i ∧ E[i]? = some r ∧ e = .tuple #[.int .i64 r.1, valT r.2, .bool true]) ∨ (p = -1 ∧ e = .tuple #[.int .i64 0, valT (0, 0), .bool false])
set_option maxHeartbeats 4000000 in
set_option maxRecDepth 1000000 in
theorem hTells_at (w : World) (lo hb : Nat) (v : Value) (way last : Int) (E : List RowI) (i : Nat) (r : RowI) (hr : E[i]? = some r) (h : RefH w lo hb v way last E) :
    Calls Try.prog 38 #[.pointer (some ⟨hb, 0, none⟩), .int .i64 (i : Int)] w fun e w' => e = .returned (.tuple #[.int .i64 r.1, valT r.2, .bool true]) ∧ Below w.heap.size w w' := by
  obtain ⟨a, c, rfl, hc⟩ := h.form
  obtain ⟨c0, c1, c2, hl⟩ := h.cells
  obtain ⟨g, rfl, hg, cc⟩ := h.cell hr
  obtain ⟨r1, r2, r3⟩ := r
  have d0 := cc 0 _ rfl
  have d1 := cc 1 _ rfl
  have d2 := cc 2 _ rfl
  rw [Nat.add_zero] at d0
  have hil := (List.getElem?_eq_some_iff.1 hr).1
  have t1 : (i : Int) < (E.length : Int) := by omega
  clear h cc hr c0 c1
  go_enter Try.func38, Try.ntmps38
  go_wp2_with fail
  go_region
  all_goals (
    go_wp2_with fail
    (try simp only [Exit.inBlock, Exit.then])
    refine bodyPost_ret (v := .tuple #[.int .i64 r1, valT (r2, r3), .bool true]) ?_ rfl ?_
    · rw [results_tct rfl]
      unfold valT
      go_simp
    · exact ⟨rfl, ((Below.refl _ w).alloc (Nat.le_refl _) _).drew⟩)
set_option maxHeartbeats 4000000 in
set_option maxRecDepth 1000000 in
theorem hTells_no (w : World) (hb : Nat) :
    Calls Try.prog 38 #[.pointer (some ⟨hb, 0, none⟩), .int .i64 (-1)] w fun e w' => e = .returned (.tuple #[.int .i64 0, valT (0, 0), .bool false]) ∧ Below w.heap.size w w' := by
  go_enter Try.func38, Try.ntmps38
  go_wp2_with fail
  (try simp only [Exit.inBlock, Exit.then])
  refine bodyPost_ret (v := .tuple #[.int .i64 0, valT (0, 0), .bool false]) ?_ rfl ?_
  · rw [results_tct rfl]
    unfold valT
    go_simp
  · exact ⟨rfl, (Below.refl _ w).alloc (Nat.le_refl _) _⟩
end Go.Proofs.Ytkjjinccnaphpaa

namespace Go.Proofs.Ytkjjinccnaphpaa
open Go.RowKit

/-- The best of the first i rows stands at b. -/
def Best (ky : Int × Int → Int) (E : List RowI) (i : Nat) (b : Int) : Prop := (b = -1 ∧ i = 0) ∨ ∃ (p : Nat) (q : RowI), b = p ∧ p < i ∧ E[p]? = some q ∧ (∀ (j : Nat) r, j < p → E[j]? = some r → ky q.2 < ky r.2) ∧ ∀ (j : Nat) r, p < j → j < i → E[j]? = some r → ky q.2 ≤ ky r.2
theorem Best.first {ky : Int × Int → Int} {E : List RowI} {r : RowI} (h : E[0]? = some r) : Best ky E (0 + 1) (0 : Nat) := .inr ⟨0, r, rfl, by omega, h, fun j r hj => by omega, fun j r h1 h2 => by omega⟩
theorem Best.better {ky : Int × Int → Int} {E : List RowI} {i p : Nat} {q r : RowI} (hp : p < i) (h1 : ∀ (j : Nat) r, j < p → E[j]? = some r → ky q.2 < ky r.2) (h2 : ∀ (j : Nat) r, p < j → j < i → E[j]? = some r → ky q.2 ≤ ky r.2) (hq : E[p]? = some q) (hr : E[i]? = some r) (hl : ky r.2 < ky q.2) : Best ky E (i + 1) (i : Nat) := by
  refine .inr ⟨i, r, rfl, by omega, hr, fun j s hj hs => ?_, fun j s h3 h4 => by omega⟩
  by_cases e : j < p
  · have := h1 j s e hs; omega
  · by_cases e2 : j = p
    · subst e2
      rw [hq] at hs
      cases hs
      exact hl
    · have := h2 j s (by omega) hj hs; omega
theorem Best.stays {ky : Int × Int → Int} {E : List RowI} {i p : Nat} {q r : RowI} (hp : p < i) (h1 : ∀ (j : Nat) r, j < p → E[j]? = some r → ky q.2 < ky r.2) (h2 : ∀ (j : Nat) r, p < j → j < i → E[j]? = some r → ky q.2 ≤ ky r.2) (hq : E[p]? = some q) (hr : E[i]? = some r) (hl : ¬ ky r.2 < ky q.2) : Best ky E (i + 1) (p : Nat) := by
  refine .inr ⟨p, q, rfl, by omega, hq, h1, fun j s h3 h4 hs => ?_⟩
  by_cases e : j = i
  · subst e
    rw [hr] at hs
    cases hs
    omega
  · exact h2 j s h3 (by omega) hs
set_option maxHeartbeats 4000000 in
set_option maxRecDepth 1000000 in
theorem hTop0_any (w : World) (lo hb : Nat) (v : Value) (way last : Int) (E : List RowI) (h : RefH w lo hb v way last E) (hE : E.length ≤ 1073741823) :
    Calls Try.prog 39 #[.pointer (some ⟨hb, 0, none⟩)] w fun e w' => ∃ b, e = .returned (.int .i64 b) ∧ Best (kW way) E E.length b ∧ Below w.heap.size w w' := by
  obtain ⟨a, c, rfl, hc⟩ := h.form
  obtain ⟨c0, c1, c2, hl⟩ := h.cells
  have HR : Hid (RefH w lo hb (.slice a E.length c) way last E) := h
  clear h
  go_enter Try.func39, Try.ntmps39
  go_wp2_with fail
  clear c0 c1 c2 hl
  go_loopg [3, 4, 10] E.length (fun gk s3 _ s10 wr => ∃ (i : Nat) (b : Int), s10 = .int .i64 (i : Int) ∧ s3 = .int .i64 b ∧ i ≤ E.length ∧ E.length - i ≤ gk ∧ Hid (Best (kW way) E i b ∧ Below w.heap.size w wr))
  case atStart => exact ⟨0, -1, rfl, rfl, Nat.zero_le _, Nat.le_refl _, .inl ⟨rfl, rfl⟩, Below.refl _ _⟩
  case round =>
    obtain ⟨i, b, rfl, rfl, hi, hgk, HI⟩ := hrel
    by_cases hit : i < E.length
    · have t1 : (i : Int) < (E.length : Int) := by omega
      obtain ⟨r, hx⟩ : ∃ x, E[i]? = some x := ⟨_, List.getElem?_eq_getElem hit⟩
      have HX : Hid (E[i]? = some r) := hx
      clear hx
      rcases HI.out.1 with ⟨hb1, hi0⟩ | ⟨p, q, hbp, hpi, hq, h1, h2⟩
      · subst hb1 hi0
        go_upto_region 5 with fail
        have sq : True := trivial
        refine wp_region_held_drew (S := fun _ => True) (by kernel_rfl) sq (fun _ => ?_)
        refine H_take (i := 0) (v := .int .i64 (-1)) (some 13) rfl rfl (by kernel_rfl) (by kernel_rfl) (by kernel_rfl) (fun _ _ _ h => h) rfl (fun X hX => ?_) sq ?_
        · simp [go_sem]
        simp only [Act.put, List.setIfInBounds_toArray, List.set_cons_zero, List.set_cons_succ]
        refine H_take (i := 1) (v := .bool true) (some 14) rfl rfl (by kernel_rfl) (by kernel_rfl) (by kernel_rfl) (fun _ _ _ h => h) rfl (fun X hX => ?_) sq ?_
        · simp [go_sem]
        simp only [Act.put, List.setIfInBounds_toArray, List.set_cons_zero, List.set_cons_succ]
        refine H_take (i := 2) (v := .bool true) (some 15) rfl rfl (by kernel_rfl) (by kernel_rfl) (by kernel_rfl) (fun _ _ _ h => h) rfl (fun X hX => ?_) sq ?_
        · simp [go_sem]
        simp only [Act.put, List.setIfInBounds_toArray, List.set_cons_zero, List.set_cons_succ]
        refine H_pass (i := 3) (some 16) rfl rfl (by kernel_rfl) (by kernel_rfl) (by kernel_rfl) (fun _ _ _ h => h) rfl sq ?_
        simp only [Act.put, List.setIfInBounds_toArray, List.set_cons_zero, List.set_cons_succ]
        refine H_pass (i := 4) (some 17) rfl rfl (by kernel_rfl) (by kernel_rfl) (by kernel_rfl) (fun _ _ _ h => h) rfl sq ?_
        simp only [Act.put, List.setIfInBounds_toArray, List.set_cons_zero, List.set_cons_succ]
        refine H_pass (i := 5) (some 18) rfl rfl (by kernel_rfl) (by kernel_rfl) (by kernel_rfl) (fun _ _ _ h => h) rfl sq ?_
        simp only [Act.put, List.setIfInBounds_toArray, List.set_cons_zero, List.set_cons_succ]
        refine H_pass (i := 6) (some 19) rfl rfl (by kernel_rfl) (by kernel_rfl) (by kernel_rfl) (fun _ _ _ h => h) rfl sq ?_
        simp only [Act.put, List.setIfInBounds_toArray, List.set_cons_zero, List.set_cons_succ]
        refine H_pass (i := 7) (some 20) rfl rfl (by kernel_rfl) (by kernel_rfl) (by kernel_rfl) (fun _ _ _ h => h) rfl sq ?_
        simp only [Act.put, List.setIfInBounds_toArray, List.set_cons_zero, List.set_cons_succ]
        refine H_pass (i := 8) (some 21) rfl rfl (by kernel_rfl) (by kernel_rfl) (by kernel_rfl) (fun _ _ _ h => h) rfl sq ?_
        simp only [Act.put, List.setIfInBounds_toArray, List.set_cons_zero, List.set_cons_succ]
        refine H_pass (i := 9) (some 22) rfl rfl (by kernel_rfl) (by kernel_rfl) (by kernel_rfl) (fun _ _ _ h => h) rfl sq ?_
        simp only [Act.put, List.setIfInBounds_toArray, List.set_cons_zero, List.set_cons_succ]
        refine H_pass (i := 10) (some 23) rfl rfl (by kernel_rfl) (by kernel_rfl) (by kernel_rfl) (fun _ _ _ h => h) rfl sq ?_
        simp only [Act.put, List.setIfInBounds_toArray, List.set_cons_zero, List.set_cons_succ]
        refine H_pass (i := 11) (some 24) rfl rfl (by kernel_rfl) (by kernel_rfl) (by kernel_rfl) (fun _ _ _ h => h) rfl sq ?_
        simp only [Act.put, List.setIfInBounds_toArray, List.set_cons_zero, List.set_cons_succ]
        refine H_pass (i := 12) (some 25) rfl rfl (by kernel_rfl) (by kernel_rfl) (by kernel_rfl) (fun _ _ _ h => h) rfl sq ?_
        simp only [Act.put, List.setIfInBounds_toArray, List.set_cons_zero, List.set_cons_succ]
        refine H_pass (i := 13) (some 26) rfl rfl (by kernel_rfl) (by kernel_rfl) (by kernel_rfl) (fun _ _ _ h => h) rfl sq ?_
        simp only [Act.put, List.setIfInBounds_toArray, List.set_cons_zero, List.set_cons_succ]
        refine H_pass (i := 14) (some 27) rfl rfl (by kernel_rfl) (by kernel_rfl) (by kernel_rfl) (fun _ _ _ h => h) rfl sq ?_
        simp only [Act.put, List.setIfInBounds_toArray, List.set_cons_zero, List.set_cons_succ]
        refine H_pass (i := 15) (some 28) rfl rfl (by kernel_rfl) (by kernel_rfl) (by kernel_rfl) (fun _ _ _ h => h) rfl sq ?_
        simp only [Act.put, List.setIfInBounds_toArray, List.set_cons_zero, List.set_cons_succ]
        refine H_pass (i := 16) (some 29) rfl rfl (by kernel_rfl) (by kernel_rfl) (by kernel_rfl) (fun _ _ _ h => h) rfl sq ?_
        simp only [Act.put, List.setIfInBounds_toArray, List.set_cons_zero, List.set_cons_succ]
        refine H_pass (i := 17) (some 30) rfl rfl (by kernel_rfl) (by kernel_rfl) (by kernel_rfl) (fun _ _ _ h => h) rfl sq ?_
        simp only [Act.put, List.setIfInBounds_toArray, List.set_cons_zero, List.set_cons_succ]
        refine H_pass (i := 18) (some 31) rfl rfl (by kernel_rfl) (by kernel_rfl) (by kernel_rfl) (fun _ _ _ h => h) rfl sq ?_
        simp only [Act.put, List.setIfInBounds_toArray, List.set_cons_zero, List.set_cons_succ]
        refine H_pass (i := 19) (some 32) rfl rfl (by kernel_rfl) (by kernel_rfl) (by kernel_rfl) (fun _ _ _ h => h) rfl sq ?_
        simp only [Act.put, List.setIfInBounds_toArray, List.set_cons_zero, List.set_cons_succ]
        refine H_pass (i := 20) (some 33) rfl rfl (by kernel_rfl) (by kernel_rfl) (by kernel_rfl) (fun _ _ _ h => h) rfl sq ?_
        simp only [Act.put, List.setIfInBounds_toArray, List.set_cons_zero, List.set_cons_succ]
        refine H_pass (i := 21) (some 34) rfl rfl (by kernel_rfl) (by kernel_rfl) (by kernel_rfl) (fun _ _ _ h => h) rfl sq ?_
        simp only [Act.put, List.setIfInBounds_toArray, List.set_cons_zero, List.set_cons_succ]
        refine H_pass (i := 22) (some 35) rfl rfl (by kernel_rfl) (by kernel_rfl) (by kernel_rfl) (fun _ _ _ h => h) rfl sq ?_
        simp only [Act.put, List.setIfInBounds_toArray, List.set_cons_zero, List.set_cons_succ]
        refine H_pass (i := 23) (some 36) rfl rfl (by kernel_rfl) (by kernel_rfl) (by kernel_rfl) (fun _ _ _ h => h) rfl sq ?_
        simp only [Act.put, List.setIfInBounds_toArray, List.set_cons_zero, List.set_cons_succ]
        refine H_take (i := 24) (v := .bool true) (some 37) rfl rfl (by kernel_rfl) (by kernel_rfl) (by kernel_rfl) (fun _ _ _ h => h) rfl (fun X hX => ?_) sq ?_
        · simp [go_sem]
        simp only [Act.put, List.setIfInBounds_toArray, List.set_cons_zero, List.set_cons_succ]
        refine wpAnyH_done (by kernel_rfl) ?_ _
        go_wp2_with fail
        go_roundg (E.length - (0 + 1))
        case measure => omega
        case rel => exact ⟨0 + 1, _, by go_num, rfl, by omega, Nat.le_refl _, Best.first HX.out, HI.out.2.drew⟩
      · subst hbp
        have HP : Hid (p < i ∧ E[p]? = some q ∧ (∀ (j : Nat) r, j < p → E[j]? = some r → kW way q.2 < kW way r.2) ∧ ∀ (j : Nat) r, p < j → j < i → E[j]? = some r → kW way q.2 ≤ kW way r.2) := ⟨hpi, hq, h1, h2⟩
        have hR := HR.out.below HI.out.2
        obtain ⟨c0, c1, c2, hl⟩ := hR.cells
        obtain ⟨g, rfl, hg, cc⟩ := hR.cell HX.out
        obtain ⟨g', hgg, _, cq⟩ := hR.cell hq
        cases hgg
        have t2 : (p : Int) < (E.length : Int) := by omega
        obtain ⟨r1, r2, r3⟩ := r
        obtain ⟨q1, q2, q3⟩ := q
        have d1 := cc 1 _ rfl
        have d2 := cc 2 _ rfl
        have e1 := cq 1 _ rfl
        have e2 := cq 2 _ rfl
        have HC : Hid (∀ X, Calls Try.prog 37 #[.int .i64 way, .agg #[.int .i64 r2, .int .i64 r3], .agg #[.int .i64 q2, .int .i64 q3]] X fun e w' => e = .returned (.bool (ltK (kW way) (r2, r3) (q2, q3))) ∧ Grew X w') := fun X => before_grew way (r2, r3) (q2, q3) X
        have HL : Hid (ltK (kW way) (r2, r3) (q2, q3) = decide (kW way (r2, r3) < kW way (q2, q3))) := rfl
        generalize ltK (kW way) (r2, r3) (q2, q3) = bb at HC HL
        clear hR cc cq hq h1 h2 c1
        go_upto_region 5 with fail
        have sq : wr.drew.cell? ⟨hb, 0, none⟩ = some (.int .i64 way) ∧ wr.drew.cell? ⟨hb, 2, none⟩ = some (.slice (some ⟨g, 0, none⟩) E.length c) ∧ wr.drew.cell? ⟨g, i * 3 + 1, none⟩ = some (.int .i64 r2) ∧ wr.drew.cell? ⟨g, i * 3 + 1 + 1, none⟩ = some (.int .i64 r3) ∧ wr.drew.cell? ⟨g, p * 3 + 1, none⟩ = some (.int .i64 q2) ∧ wr.drew.cell? ⟨g, p * 3 + 1 + 1, none⟩ = some (.int .i64 q3) := ⟨c0, c2, d1, d2, e1, e2⟩
        refine wp_region_held_drew (S := fun X => X.cell? ⟨hb, 0, none⟩ = some (.int .i64 way) ∧ X.cell? ⟨hb, 2, none⟩ = some (.slice (some ⟨g, 0, none⟩) E.length c) ∧ X.cell? ⟨g, i * 3 + 1, none⟩ = some (.int .i64 r2) ∧ X.cell? ⟨g, i * 3 + 1 + 1, none⟩ = some (.int .i64 r3) ∧ X.cell? ⟨g, p * 3 + 1, none⟩ = some (.int .i64 q2) ∧ X.cell? ⟨g, p * 3 + 1 + 1, none⟩ = some (.int .i64 q3)) (by kernel_rfl) sq (fun _ => ?_)
        refine H_take (i := 0) (v := .int .i64 (p : Int)) (some 13) rfl rfl (by kernel_rfl) (by kernel_rfl) (by kernel_rfl) (fun _ _ _ h => h) rfl (fun X hX => ?_) sq ?_
        · simp [go_sem]
        simp only [Act.put, List.setIfInBounds_toArray, List.set_cons_zero, List.set_cons_succ]
        refine H_take (i := 1) (v := .bool false) (some 14) rfl rfl (by kernel_rfl) (by kernel_rfl) (by kernel_rfl) (fun _ _ _ h => h) rfl (fun X hX => ?_) sq ?_
        · simp [go_sem]
        simp only [Act.put, List.setIfInBounds_toArray, List.set_cons_zero, List.set_cons_succ]
        refine H_take (i := 2) (v := .bool false) (some 15) rfl rfl (by kernel_rfl) (by kernel_rfl) (by kernel_rfl) (fun _ _ _ h => h) rfl (fun X hX => ?_) sq ?_
        · simp [go_sem]
        simp only [Act.put, List.setIfInBounds_toArray, List.set_cons_zero, List.set_cons_succ]
        refine H_take (i := 3) (v := .pointer (some ⟨hb, 0, none⟩)) (some 16) rfl rfl (by kernel_rfl) (by kernel_rfl) (by kernel_rfl) (fun _ _ _ h => h) rfl (fun X hX => ?_) sq ?_
        · simp [go_sem]
        simp only [Act.put, List.setIfInBounds_toArray, List.set_cons_zero, List.set_cons_succ]
        refine H_take (i := 4) (v := .pointer (some ⟨hb, 0, none⟩)) (some 17) rfl rfl (by kernel_rfl) (by kernel_rfl) (by kernel_rfl) (fun _ _ _ h => h) rfl (fun X hX => ?_) sq ?_
        · simp [go_sem]
        simp only [Act.put, List.setIfInBounds_toArray, List.set_cons_zero, List.set_cons_succ]
        refine H_take (i := 5) (v := .pointer (some ⟨hb, 0, none⟩)) (some 18) rfl rfl (by kernel_rfl) (by kernel_rfl) (by kernel_rfl) (fun _ _ _ h => h) rfl (fun X hX => ?_) sq ?_
        · simp [go_sem]
        simp only [Act.put, List.setIfInBounds_toArray, List.set_cons_zero, List.set_cons_succ]
        refine H_take (i := 6) (v := .int .i64 way) (some 19) rfl rfl (by kernel_rfl) (by kernel_rfl) (by kernel_rfl) (fun _ _ _ h => h) rfl (fun X hX => ?_) sq ?_
        · exact run_load1 rfl rfl Try.isAgg3 hX.1
        simp only [Act.put, List.setIfInBounds_toArray, List.set_cons_zero, List.set_cons_succ]
        refine H_take (i := 7) (v := .pointer (some ⟨hb, 0, none⟩)) (some 20) rfl rfl (by kernel_rfl) (by kernel_rfl) (by kernel_rfl) (fun _ _ _ h => h) rfl (fun X hX => ?_) sq ?_
        · simp [go_sem]
        simp only [Act.put, List.setIfInBounds_toArray, List.set_cons_zero, List.set_cons_succ]
        refine H_take (i := 8) (v := .pointer (some ⟨hb, 0, none⟩)) (some 21) rfl rfl (by kernel_rfl) (by kernel_rfl) (by kernel_rfl) (fun _ _ _ h => h) rfl (fun X hX => ?_) sq ?_
        · simp [go_sem]
        simp only [Act.put, List.setIfInBounds_toArray, List.set_cons_zero, List.set_cons_succ]
        refine H_take (i := 9) (v := .pointer (some ⟨hb, 2, none⟩)) (some 22) rfl rfl (by kernel_rfl) (by kernel_rfl) (by kernel_rfl) (fun _ _ _ h => h) rfl (fun X hX => ?_) sq ?_
        · simp [go_sem]
        simp only [Act.put, List.setIfInBounds_toArray, List.set_cons_zero, List.set_cons_succ]
        refine H_take (i := 10) (v := .slice (some ⟨g, 0, none⟩) E.length c) (some 23) rfl rfl (by kernel_rfl) (by kernel_rfl) (by kernel_rfl) (fun _ _ _ h => h) rfl (fun X hX => ?_) sq ?_
        · exact run_load1 rfl rfl Try.isAgg53 hX.2.1
        simp only [Act.put, List.setIfInBounds_toArray, List.set_cons_zero, List.set_cons_succ]
        refine H_take (i := 11) (v := .int .i64 (i : Int)) (some 24) rfl rfl (by kernel_rfl) (by kernel_rfl) (by kernel_rfl) (fun _ _ _ h => h) rfl (fun X hX => ?_) sq ?_
        · simp [go_sem]
        simp only [Act.put, List.setIfInBounds_toArray, List.set_cons_zero, List.set_cons_succ]
        refine H_take (i := 12) (v := .pointer (some ⟨g, i * 3, none⟩)) (some 25) rfl rfl (by kernel_rfl) (by kernel_rfl) (by kernel_rfl) (fun _ _ _ h => h) rfl (fun X hX => ?_) sq ?_
        · simp [go_sem, t1]
        simp only [Act.put, List.setIfInBounds_toArray, List.set_cons_zero, List.set_cons_succ]
        refine H_take (i := 13) (v := .pointer (some ⟨g, i * 3 + 1, none⟩)) (some 26) rfl rfl (by kernel_rfl) (by kernel_rfl) (by kernel_rfl) (fun _ _ _ h => h) rfl (fun X hX => ?_) sq ?_
        · simp [go_sem]
        simp only [Act.put, List.setIfInBounds_toArray, List.set_cons_zero, List.set_cons_succ]
        refine H_take (i := 14) (v := .agg #[.int .i64 r2, .int .i64 r3]) (some 27) rfl rfl (by kernel_rfl) (by kernel_rfl) (by kernel_rfl) (fun _ _ _ h => h) rfl (fun X hX => ?_) sq ?_
        · simp [go_sem, hX.2.2.1, hX.2.2.2.1]
        simp only [Act.put, List.setIfInBounds_toArray, List.set_cons_zero, List.set_cons_succ]
        refine H_take (i := 15) (v := .pointer (some ⟨hb, 0, none⟩)) (some 28) rfl rfl (by kernel_rfl) (by kernel_rfl) (by kernel_rfl) (fun _ _ _ h => h) rfl (fun X hX => ?_) sq ?_
        · simp [go_sem]
        simp only [Act.put, List.setIfInBounds_toArray, List.set_cons_zero, List.set_cons_succ]
        refine H_take (i := 16) (v := .pointer (some ⟨hb, 0, none⟩)) (some 29) rfl rfl (by kernel_rfl) (by kernel_rfl) (by kernel_rfl) (fun _ _ _ h => h) rfl (fun X hX => ?_) sq ?_
        · simp [go_sem]
        simp only [Act.put, List.setIfInBounds_toArray, List.set_cons_zero, List.set_cons_succ]
        refine H_take (i := 17) (v := .pointer (some ⟨hb, 2, none⟩)) (some 30) rfl rfl (by kernel_rfl) (by kernel_rfl) (by kernel_rfl) (fun _ _ _ h => h) rfl (fun X hX => ?_) sq ?_
        · simp [go_sem]
        simp only [Act.put, List.setIfInBounds_toArray, List.set_cons_zero, List.set_cons_succ]
        refine H_take (i := 18) (v := .slice (some ⟨g, 0, none⟩) E.length c) (some 31) rfl rfl (by kernel_rfl) (by kernel_rfl) (by kernel_rfl) (fun _ _ _ h => h) rfl (fun X hX => ?_) sq ?_
        · exact run_load1 rfl rfl Try.isAgg53 hX.2.1
        simp only [Act.put, List.setIfInBounds_toArray, List.set_cons_zero, List.set_cons_succ]
        refine H_take (i := 19) (v := .int .i64 (p : Int)) (some 32) rfl rfl (by kernel_rfl) (by kernel_rfl) (by kernel_rfl) (fun _ _ _ h => h) rfl (fun X hX => ?_) sq ?_
        · simp [go_sem]
        simp only [Act.put, List.setIfInBounds_toArray, List.set_cons_zero, List.set_cons_succ]
        refine H_take (i := 20) (v := .pointer (some ⟨g, p * 3, none⟩)) (some 33) rfl rfl (by kernel_rfl) (by kernel_rfl) (by kernel_rfl) (fun _ _ _ h => h) rfl (fun X hX => ?_) sq ?_
        · simp [go_sem, t2]
        simp only [Act.put, List.setIfInBounds_toArray, List.set_cons_zero, List.set_cons_succ]
        refine H_take (i := 21) (v := .pointer (some ⟨g, p * 3 + 1, none⟩)) (some 34) rfl rfl (by kernel_rfl) (by kernel_rfl) (by kernel_rfl) (fun _ _ _ h => h) rfl (fun X hX => ?_) sq ?_
        · simp [go_sem]
        simp only [Act.put, List.setIfInBounds_toArray, List.set_cons_zero, List.set_cons_succ]
        refine H_take (i := 22) (v := .agg #[.int .i64 q2, .int .i64 q3]) (some 35) rfl rfl (by kernel_rfl) (by kernel_rfl) (by kernel_rfl) (fun _ _ _ h => h) rfl (fun X hX => ?_) sq ?_
        · simp [go_sem, hX.2.2.2.2.1, hX.2.2.2.2.2]
        simp only [Act.put, List.setIfInBounds_toArray, List.set_cons_zero, List.set_cons_succ]
        refine H_call (i := 23) (f := 37) (args := #[.int .i64 way, .agg #[.int .i64 r2, .int .i64 r3], .agg #[.int .i64 q2, .int .i64 q3]]) (some 36) rfl rfl (by kernel_rfl) rfl (by simp [go_sem]) ((HC.out _).mono ?_)
        rintro e w2 ⟨rfl, g2⟩
        have b2 : Below wr.heap.size wr w2 := (Below.refl _ wr).drew.trans g2.below
        have H2 : Hid (Below w.heap.size w w2) := HI.out.2.trans (b2.mono HI.out.2.size)
        have hb0 := fun (k j : Nat) (hk : k < wr.heap.size) => b2.cell (p := ⟨k, j, none⟩) hk
        refine ⟨_, rfl, ⟨(hb0 _ _ hl).trans c0, (hb0 _ _ hl).trans c2, (hb0 _ _ hg).trans d1, (hb0 _ _ hg).trans d2, (hb0 _ _ hg).trans e1, (hb0 _ _ hg).trans e2⟩, ?_⟩
        simp only [Act.put, List.setIfInBounds_toArray, List.set_cons_zero, List.set_cons_succ]
        refine H_take (i := 24) (v := .bool bb) (some 37) rfl rfl (by kernel_rfl) (by kernel_rfl) (by kernel_rfl) (fun _ _ _ h => h) rfl (fun X hX => ?_) ⟨(hb0 _ _ hl).trans c0, (hb0 _ _ hl).trans c2, (hb0 _ _ hg).trans d1, (hb0 _ _ hg).trans d2, (hb0 _ _ hg).trans e1, (hb0 _ _ hg).trans e2⟩ ?_
        · simp [go_sem]
        simp only [Act.put, List.setIfInBounds_toArray, List.set_cons_zero, List.set_cons_succ]
        refine wpAnyH_done (by kernel_rfl) ?_ _
        clear g2 b2 hb0 sq
        cases bb
        · go_wp2_with fail
          go_roundg (E.length - (i + 1))
          case measure => omega
          case rel => exact ⟨i + 1, _, by go_num, rfl, by omega, Nat.le_refl _, Best.stays HP.out.1 HP.out.2.2.1 HP.out.2.2.2 HP.out.2.1 HX.out (of_decide_eq_false HL.out.symm), H2.out⟩
        · go_wp2_with fail
          go_roundg (E.length - (i + 1))
          case measure => omega
          case rel => exact ⟨i + 1, _, by go_num, rfl, by omega, Nat.le_refl _, Best.better HP.out.1 HP.out.2.2.1 HP.out.2.2.2 HP.out.2.1 HX.out (of_decide_eq_true HL.out.symm), H2.out⟩
    · have t1 : ¬ (i : Int) < (E.length : Int) := by omega
      obtain rfl : i = E.length := by omega
      go_wp2_with fail
      go_ret
      exact ⟨b, rfl, HI.out.1, HI.out.2⟩
end Go.Proofs.Ytkjjinccnaphpaa
