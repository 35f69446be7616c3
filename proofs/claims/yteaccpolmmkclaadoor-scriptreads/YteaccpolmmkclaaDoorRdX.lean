/-
  RLong, RdSm.
-/
import Derived.Test.YteaccpolmmkclaaDoorRParse
namespace Go.Proofs.YteaccpolmmkclaaDoor
open Go.RowKit

set_option maxHeartbeats 1000000 in
set_option maxRecDepth 1000000 in
theorem refParse_long (s : ByteArray) (w : World) (hs : 1048576 < s.size) : Calls Tryd.prog 6 #[.string s] w (ParsePost w s.data.toList) := by
  have HX : Hid (1048576 < s.data.toList.length) := by show _ < _; simpa using hs
  have hx' : (1048576 : Int) < (s.size : Int) := by omega
  go_enter Tryd.func6, Tryd.ntmps6
  go_wp2_with fail
  have hrow := heap_alloc_new w (.cells #[.int .i64 0, .int .i64 0, .int .i64 0, .slice none 0 0] 31)
  refine bodyPost_ret (results_ctt_row (P := Tryd.prog) Tryd.results6 _ _ w.heap.size 31 _ (0, 0) _ _ _ rfl rfl rfl hrow Tryd.underlying31 rfl play_size) rfl ?_
  refine ⟨(Below.refl _ w).alloc (Nat.le_refl _) _, ?_⟩
  have e : parseP s.data.toList = (rd0, 0, 193) := by
    unfold parseP
    rw [if_pos HX.out]
  rw [e]
  exact ⟨_, [], rfl, steps_none _ _, rfl⟩
theorem refParse19A (s : ByteArray) (w : World) : Calls Tryd.prog 6 #[.string s] w (ParsePost w s.data.toList) := by
  by_cases hs : s.size ≤ 1048576
  · exact refParse19 s w hs
  · exact refParse_long s w (by omega)
end Go.Proofs.YteaccpolmmkclaaDoor

namespace Go.Proofs.YteaccpolmmkclaaDoor
open Go.RowKit

theorem dataR_few : ∀ (f : Nat) (l : Tx) (b : List UInt8), dataR f l = some b → b.length ≤ f
  | 0, l, b, h => by
    unfold dataR at h
    split at h
    · cases h; simp
    · cases h
  | f + 1, l, b, h => by
    unfold dataR at h
    split at h
    · cases h; simp
    · split at h
      · rename_i c n _
        cases hr : dataR f (l.drop n) with
        | none => rw [hr] at h; cases h
        | some r =>
          rw [hr] at h
          simp at h
          subst h
          have := dataR_few f _ _ hr
          simp
          exact this
      · cases h
theorem dataP_few {x : Tx} {b : List UInt8} (h : dataP x = some b) : b.length ≤ x.length := by
  unfold dataP at h
  split at h
  · have := dataR_few _ _ _ h
    simp
    omega
  · cases h
theorem numsP_len : ∀ (l : List Tx) (k : List Int), numsP l = some k → k.length = l.length
  | [], k, h => by unfold numsP at h; cases h; rfl
  | x :: r, k, h => by
    unfold numsP at h
    split at h
    · cases hr : numsP r with
      | none => rw [hr] at h; cases h
      | some m =>
        rw [hr] at h
        simp at h
        subst h
        have := numsP_len r m hr
        simp [this]
    · cases h
theorem keepP_len {l : List Tx} {k : List Int} (h : keepP l = some k) : k.length ≤ l.length := by
  unfold keepP at h
  split at h
  · split at h
    · rename_i n r hn
      cases h
      have := numsP_len _ _ hn
      simp at this ⊢
      omega
    · cases h
  · split at h
    · cases h; simp
    · cases h
theorem numP_len {l r : List Tx} {n : Int} (h : numP l = some (n, r)) : r.length ≤ l.length ∧ ∀ x ∈ r, x ∈ l := by
  unfold numP at h
  split at h
  · cases h
  · split at h
    · cases h
      exact ⟨by simp, fun x hx => by simp [hx]⟩
    · cases h
theorem tailP_len {br ke : Bool} {l : List Tx} {n : Int} {k : List Int} (h : tailP br ke l = some (n, k)) : k.length ≤ l.length := by
  unfold tailP at h
  split at h
  · split at h
    · rename_i m r hm
      split at h
      · cases h
      · cases hk : keepP r with
        | none => rw [hk] at h; cases h
        | some q =>
          rw [hk] at h
          simp at h
          obtain ⟨_, rfl⟩ := h
          have h1 := keepP_len hk
          have h2 := (numP_len hm).1
          have h3 : l.tail.length ≤ l.length := by simp
          omega
    · cases h
  · split at h
    · cases hk : keepP l with
      | none => rw [hk] at h; cases h
      | some q =>
        rw [hk] at h
        simp at h
        obtain ⟨_, rfl⟩ := h
        exact keepP_len hk
    · split at h
      · cases h; simp
      · cases h
theorem stepP_len {k : Int} {c d b ke : Bool} {l : List Tx} {p : StepP} {M : Nat} (h : stepP k c d b ke l = some p) (hM : ∀ x ∈ l, x.length ≤ M) : p.data.length ≤ M ∧ p.keep.length ≤ l.length := by
  unfold stepP at h
  obtain ⟨q, hq⟩ : ∃ q, (if c = true then numP l else some (0, l)) = some q := by
    cases hc : (if c = true then numP l else some (0, l)) with
    | none => rw [hc] at h; cases h
    | some q => exact ⟨q, rfl⟩
  rw [hq] at h
  simp only [Option.bind_some] at h
  have hq2 : q.2.length ≤ l.length ∧ ∀ x ∈ q.2, x ∈ l := by
    split at hq
    · obtain ⟨n, r⟩ := q
      exact numP_len hq
    · cases hq
      exact ⟨Nat.le_refl _, fun x hx => hx⟩
  obtain ⟨u, hu2, h⟩ : ∃ u : List UInt8 × List Tx, (u.1.length ≤ M ∧ u.2.length ≤ l.length) ∧ (tailP b ke u.2).map (fun t => (⟨k, q.1, u.1, t.1, t.2⟩ : StepP)) = some p := by
    cases d
    · simp only [Bool.false_eq_true, if_false, Option.bind_some] at h
      exact ⟨([], q.2), ⟨by simp, hq2.1⟩, h⟩
    · simp only [if_true] at h
      cases hxr : q.2 with
      | nil => rw [hxr] at h; simp at h
      | cons x r =>
        rw [hxr] at h
        simp only [] at h
        cases hd : dataP x with
        | none => rw [hd] at h; simp at h
        | some bb =>
          rw [hd] at h
          simp only [Option.map_some, Option.bind_some] at h
          have h1 := dataP_few hd
          have h2 := hM x (hq2.2 x (by rw [hxr]; simp))
          have h3 := hq2.1
          rw [hxr] at h3
          simp at h3
          exact ⟨(bb, r), ⟨by simp only []; omega, by simp only []; omega⟩, h⟩
  cases ht : tailP b ke u.2 with
  | none => rw [ht] at h; cases h
  | some t =>
    rw [ht] at h
    simp at h
    subst h
    have := tailP_len (n := t.1) (k := t.2) ht
    exact ⟨hu2.1, by simp only []; omega⟩
theorem stepK_len {k : Int} {l : List Tx} {p : StepP} {M : Nat} (h : stepK k l = some p) (hM : ∀ x ∈ l, x.length ≤ M) : p.data.length ≤ M ∧ p.keep.length ≤ l.length := by
  unfold stepK at h
  split at h
  · exact stepP_len h hM
  · cases h
def SmallR (st : Rd) : Prop := st.steps.length ≤ 4000 ∧ ∀ p ∈ st.steps, p.data.length ≤ 1048577 ∧ p.keep.length ≤ 1048577
theorem line_small {st st' : Rd} {x : Tx} (h : lineP st x = .ok st') (hx : x.length ≤ 1048576) (hs : SmallR st) : SmallR st' := by
  refine ⟨line_few h hs.1, ?_⟩
  unfold lineP at h
  split at h
  · cases h; exact hs.2
  · split at h
    · cases h; exact hs.2
    · split at h
      · cases h
      · cases h
      · rename_i y l hsp
        have hz := split_sizes hsp
        split at h
        · cases hr : rstepP y st.steps.length l with
          | error e => rw [hr] at h; cases h
          | ok p =>
            rw [hr] at h
            cases h
            unfold rstepP at hr
            split at hr
            · cases hr
            · split at hr
              · cases hr
              · split at hr
                · rename_i q hq
                  cases hr
                  intro z hzm
                  rcases List.mem_append.1 hzm with hzm | hzm
                  · exact hs.2 z hzm
                  · have : z = p := by simpa using hzm
                    subst this
                    have := stepK_len (M := 1048576) hq (fun w hw => Nat.le_trans (hz.2 w (by simp [hw])) hx)
                    have h1 := hz.1
                    simp at h1
                    simp at hx
                    omega
                · cases hr
        · cases hr : headP y l with
          | error e => rw [hr] at h; cases h
          | ok p =>
            obtain ⟨a, b, c⟩ := p
            rw [hr] at h
            cases h
            exact hs.2
theorem run_small : ∀ (ls : List Tx) (st : Rd) (n : Int) (st' : Rd), runP st n ls = .ok st' → (∀ x ∈ ls, x.length ≤ 1048576) → SmallR st → SmallR st'
  | [], st, n, st', h, _, hs => by unfold runP at h; cases h; exact hs
  | x :: r, st, n, st', h, hl, hs => by
    unfold runP at h
    split at h
    · cases h
    · rename_i s2 h2
      exact run_small r s2 (n + 1) st' h (fun y hy => hl y (by simp [hy])) (line_small h2 (hl x (by simp)) hs)
theorem parse_small (t : Tx) : SmallR (parseP t).1 := by
  have h0 : SmallR rd0 := ⟨by simp [rd0], by simp [rd0]⟩
  unfold parseP
  split
  · exact h0
  · rename_i ht
    split
    · exact h0
    · rename_i st hst
      split
      · refine run_small _ _ _ _ hst (fun x hx => ?_) h0
        have := lines_size t [] x hx
        simp at this
        omega
      · exact h0
end Go.Proofs.YteaccpolmmkclaaDoor
