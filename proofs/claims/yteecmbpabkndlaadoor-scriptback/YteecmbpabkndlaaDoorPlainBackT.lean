/-
  Plain: what is read is written, no longer than it was. Nothing of the program.
-/
import Derived.Test.YteecmbpabkndlaaDoorPlB
namespace Go.Proofs.YteecmbpabkndlaaDoor
open Go.RowKit

theorem spaced_len_cons (x : Tx) (l : List Tx) : (spaced (x :: l)).length = x.length + 1 + (spaced l).length := by
  rw [spaced_cons, List.length_cons, List.length_append]
  omega
theorem spaced_len_app (a b : List Tx) : (spaced (a ++ b)).length = (spaced a).length + (spaced b).length := by
  rw [spaced_append, List.length_append]
theorem numP_back {l : List Tx} {n : Int} {r : List Tx} (h : numP l = some (n, r)) : ∃ x, l = x :: r ∧ 0 ≤ n ∧ n ≤ maxWord ∧ (printL n).length ≤ x.length := by
  unfold numP at h
  split at h
  · cases h
  · split at h
    · rename_i x t hp
      cases h
      exact ⟨x, rfl, parsed_back hp⟩
    · cases h
theorem numsP_back : ∀ (l : List Tx) (k : List Int), numsP l = some k → (∀ n ∈ k, 0 ≤ n ∧ n ≤ maxWord) ∧ (spaced (k.map printL)).length ≤ (spaced l).length
  | [], k, h => by
    rw [numsP] at h
    cases h
    exact ⟨fun _ h => (by cases h), Nat.le_refl _⟩
  | x :: r, k, h => by
    rw [numsP] at h
    split at h
    · rename_i hp
      cases hr : numsP r with
      | none => rw [hr] at h; cases h
      | some k' =>
        rw [hr] at h
        cases h
        obtain ⟨h1, h2⟩ := numsP_back r k' hr
        have h3 := parsed_back hp
        refine ⟨fun n hn => ?_, ?_⟩
        · rcases List.mem_cons.1 hn with rfl | hn
          · exact ⟨h3.1, h3.2.1⟩
          · exact h1 n hn
        · rw [List.map_cons, spaced_len_cons, spaced_len_cons]
          omega
    · cases h
theorem hasP_back {k : Tx} {l : List Tx} (h : hasP k l = true) : ∃ r, l = k :: r := by
  unfold hasP at h
  split at h
  · cases h
  · rename_i x r
    rw [beq_iff_eq] at h
    exact ⟨r, by rw [h]⟩
theorem keepP_back {l : List Tx} {k : List Int} (h : keepP l = some k) : (∀ n ∈ k, 0 ≤ n ∧ n ≤ maxWord) ∧ (spaced (if k = [] then [] else keepW :: k.map printL)).length ≤ (spaced l).length := by
  unfold keepP at h
  split at h
  · rename_i hh
    obtain ⟨r, rfl⟩ := hasP_back hh
    rw [List.tail_cons] at h
    cases hn : numsP r with
    | none => rw [hn] at h; cases h
    | some k' =>
      rw [hn] at h
      cases k' with
      | nil => cases h
      | cons a b =>
        cases h
        obtain ⟨h1, h2⟩ := numsP_back r _ hn
        refine ⟨h1, ?_⟩
        rw [if_neg (by simp), spaced_len_cons, spaced_len_cons]
        omega
  · split at h
    · cases h
      exact ⟨fun _ h => (by cases h), by simp [spaced]⟩
    · cases h
theorem tailP_back {breaks keeps : Bool} {l : List Tx} {brk : Int} {keep : List Int} (h : tailP breaks keeps l = some (brk, keep)) :
    (0 ≤ brk ∧ brk ≤ maxWord ∧ (breaks = true ∨ brk = 0)) ∧ (keeps = true ∨ keep = [] ∨ brk ≠ 0) ∧ (∀ n ∈ keep, 0 ≤ n ∧ n ≤ maxWord) ∧ (spaced (tailW brk keep)).length ≤ (spaced l).length := by
  unfold tailP at h
  split at h
  · rename_i hb
    rw [Bool.and_eq_true] at hb
    obtain ⟨r, rfl⟩ := hasP_back hb.2
    rw [List.tail_cons] at h
    cases hn : numP r with
    | none => rw [hn] at h; cases h
    | some x =>
      obtain ⟨n, r2⟩ := x
      rw [hn] at h
      simp only [] at h
      split at h
      · cases h
      · rename_i hz
        cases hk : keepP r2 with
        | none => rw [hk] at h; cases h
        | some k =>
          rw [hk] at h
          cases h
          obtain ⟨x, rfl, a1, a2, a3⟩ := numP_back hn
          obtain ⟨b1, b2⟩ := keepP_back hk
          refine ⟨⟨a1, a2, .inl hb.1⟩, .inr (.inr hz), b1, ?_⟩
          unfold tailW
          rw [if_pos (by omega), spaced_len_app, spaced_len_cons, spaced_len_cons, spaced_len_cons, spaced_len_cons]
          simp only [spaced, List.flatMap_nil, List.length_nil] at *
          omega
  · split at h
    · rename_i hk
      cases hkk : keepP l with
      | none => rw [hkk] at h; cases h
      | some k =>
        rw [hkk] at h
        cases h
        obtain ⟨b1, b2⟩ := keepP_back hkk
        refine ⟨⟨by omega, by unfold maxWord; omega, .inr rfl⟩, .inl hk, b1, ?_⟩
        unfold tailW
        rw [if_neg (by omega), List.nil_append]
        exact b2
    · split at h
      · cases h
        refine ⟨⟨by omega, by unfold maxWord; omega, .inr rfl⟩, .inr (.inl rfl), fun _ h => (by cases h), ?_⟩
        simp [tailW, spaced]
      · cases h
theorem numOk_mk {n : Int} {has : Bool} (h0 : 0 ≤ n) (h1 : n ≤ maxWord) (h2 : has = true ∨ n = 0) : numOkB n has = true := by
  unfold numOkB
  simp only [Bool.and_eq_true, decide_eq_true_eq, Bool.or_eq_true, beq_iff_eq]
  exact ⟨⟨h0, h1⟩, h2⟩
theorem step_read {k : Int} {l : List Tx} {p : StepP} (hw : ∀ y ∈ l, wordB y = true) (h : stepK k l = some p) : p.kind = k ∧ checkB p = true ∧ (spaced (restW p)).length ≤ (spaced l).length := by
  unfold stepK at h
  split at h
  · rename_i c d b ke hf
    unfold stepP at h
    cases h1 : (if c then numP l else some (0, l)) with
    | none => rw [h1] at h; cases h
    | some x =>
      obtain ⟨n, r⟩ := x
      rw [h1] at h
      simp only [Option.bind_some] at h
      have C : (0 ≤ n ∧ n ≤ maxWord ∧ (c = true ∨ n = 0)) ∧ (∀ y ∈ r, wordB y = true) ∧ (spaced (if c then [printL n] else [])).length + (spaced r).length ≤ (spaced l).length := by
        cases c with
        | true =>
          simp only [if_true] at h1 ⊢
          obtain ⟨x, rfl, a1, a2, a3⟩ := numP_back h1
          refine ⟨⟨a1, a2, by simp⟩, fun y hy => hw y (by simp [hy]), ?_⟩
          rw [spaced_len_cons, spaced_len_cons]
          simp only [spaced, List.flatMap_nil, List.length_nil]
          omega
        | false =>
          simp only [Bool.false_eq_true, if_false] at h1 ⊢
          cases h1
          exact ⟨⟨by omega, by unfold maxWord; omega, .inr rfl⟩, hw, by simp [spaced]⟩
      cases d with
      | true =>
        simp only [if_true] at h
        cases r with
        | nil => cases h
        | cons x r =>
          simp only [] at h
          cases hd : dataP x with
          | none => rw [hd] at h; cases h
          | some dd =>
            rw [hd] at h
            simp only [Option.map_some, Option.bind_some] at h
            cases ht : tailP b ke r with
            | none => rw [ht] at h; cases h
            | some t =>
              obtain ⟨brk, keep⟩ := t
              rw [ht] at h
              cases h
              obtain ⟨t1, t2, t3, t4⟩ := tailP_back ht
              have hx := dataP_len (C.2.1 x (by simp)) hd
              refine ⟨rfl, ?_, ?_⟩
              · unfold checkB
                rw [hf]
                simp only [Bool.and_eq_true, Bool.or_eq_true, List.all_eq_true, List.isEmpty_iff, bne_iff_ne]
                exact ⟨⟨⟨⟨numOk_mk C.1.1 C.1.2.1 C.1.2.2, numOk_mk t1.1 t1.2.1 t1.2.2⟩, by simp⟩, by rcases t2 with h | h | h; exact .inl (.inl h); exact .inl (.inr h); exact .inr h⟩, fun n hn => numOk_mk (t3 n hn).1 (t3 n hn).2 (.inl rfl)⟩
              · rw [restW_eq (p := ⟨k, n, dd, brk, keep⟩) hf]
                have := C.2.2
                rw [spaced_len_cons] at this
                rw [spaced_len_app]
                simp only [if_true]
                rw [spaced_len_app, spaced_len_cons]
                simp only [spaced, List.flatMap_nil, List.length_nil] at *
                omega
      | false =>
        simp only [Bool.false_eq_true, if_false, Option.bind_some] at h
        cases ht : tailP b ke r with
        | none => rw [ht] at h; cases h
        | some t =>
          obtain ⟨brk, keep⟩ := t
          rw [ht] at h
          cases h
          obtain ⟨t1, t2, t3, t4⟩ := tailP_back ht
          refine ⟨rfl, ?_, ?_⟩
          · unfold checkB
            rw [hf]
            simp only [Bool.and_eq_true, Bool.or_eq_true, List.all_eq_true, List.isEmpty_iff, bne_iff_ne]
            exact ⟨⟨⟨⟨numOk_mk C.1.1 C.1.2.1 C.1.2.2, numOk_mk t1.1 t1.2.1 t1.2.2⟩, by simp⟩, by rcases t2 with h | h | h; exact .inl (.inl h); exact .inl (.inr h); exact .inr h⟩, fun n hn => numOk_mk (t3 n hn).1 (t3 n hn).2 (.inl rfl)⟩
          · rw [restW_eq (p := ⟨k, n, [], brk, keep⟩) hf]
            rw [spaced_len_app]
            simp only [Bool.false_eq_true, if_false, List.nil_append]
            have := C.2.2
            omega
  · cases h
/-- What the lines of a play take. -/
def weight (st : Rd) : Nat := (if st.hd then (headS st.j st.s st.q).length else 0) + (st.steps.flatMap lineS).length
structure Good (st : Rd) : Prop where
  conf : st.hd = true → configB st.j st.s st.q = true
  steps : ∀ p ∈ st.steps, checkB p = true
  few : st.steps.length ≤ 4000
theorem line_read {st st' : Rd} {x : Tx} (G : Good st) (h : lineP st x = .ok st') : Good st' ∧ weight st' ≤ weight st + (x.length + 1) := by
  unfold lineP at h
  split at h
  · cases h
    exact ⟨G, by omega⟩
  · rename_i c r
    split at h
    · cases h
      exact ⟨G, by omega⟩
    · split at h
      · cases h
      · cases h
      · rename_i x l hs
        obtain ⟨y, m, e, he, hw1, hw2⟩ := split_back hs
        cases e
        split at h
        · rename_i hd
          cases hr : rstepP x st.steps.length l with
          | error e => rw [hr] at h; cases h
          | ok p =>
            rw [hr] at h
            cases h
            unfold rstepP at hr
            split at hr
            · cases hr
            · rename_i hk
              split at hr
              · cases hr
              · rename_i hm
                cases hp : stepK (kindP x) l with
                | none => rw [hp] at hr; cases hr
                | some p' =>
                  rw [hp] at hr
                  cases hr
                  obtain ⟨a1, a2, a3⟩ := step_read hw2 hp
                  have hx : wordP p.kind.toNat = x := by
                    rw [a1]
                    unfold kindP at hk ⊢
                    repeat' split at hk
                    all_goals (repeat' split)
                    all_goals first | (rename_i hh; exact hh.symm) | simp_all
                  refine ⟨⟨G.conf, fun q hq => ?_, ?_⟩, ?_⟩
                  · rcases List.mem_append.1 hq with hq | hq
                    · exact G.steps q hq
                    · obtain rfl := List.mem_singleton.1 hq
                      exact a2
                  · have := G.few
                    simp only [List.length_append, List.length_cons, List.length_nil]
                    omega
                  · unfold weight
                    have e1 : (lineS p).length ≤ (c :: r).length + 1 := by
                      unfold lineS lineW
                      rw [hx, ← he]
                      simp only [List.length_append, List.length_cons, List.length_nil]
                      omega
                    simp only [List.flatMap_append, List.flatMap_cons, List.flatMap_nil, List.append_nil, List.length_append]
                    omega
        · rename_i hd
          cases hr : headP x l with
          | error e => rw [hr] at h; cases h
          | ok t =>
            obtain ⟨a, b, q⟩ := t
            rw [hr] at h
            cases h
            unfold headP at hr
            split at hr
            · cases hr
            · rename_i hx
              cases n1 : numP l with
              | none => rw [n1] at hr; cases hr
              | some t1 =>
                obtain ⟨a', l1⟩ := t1
                rw [n1] at hr
                simp only [] at hr
                cases n2 : numP l1 with
                | none => rw [n2] at hr; cases hr
                | some t2 =>
                  obtain ⟨b', l2⟩ := t2
                  rw [n2] at hr
                  simp only [] at hr
                  cases n3 : numP l2 with
                  | none => rw [n3] at hr; cases hr
                  | some t3 =>
                    obtain ⟨q', l3⟩ := t3
                    rw [n3] at hr
                    simp only [] at hr
                    split at hr
                    · cases hr
                    · rename_i hl3
                      split at hr
                      · rename_i hc
                        cases hr
                        obtain ⟨x1, rfl, _, _, k1⟩ := numP_back n1
                        obtain ⟨x2, rfl, _, _, k2⟩ := numP_back n2
                        obtain ⟨x3, rfl, _, _, k3⟩ := numP_back n3
                        have hx : x = stintW := Classical.not_not.1 hx
                        have hl3 : l3 = [] := Classical.not_not.1 hl3
                        subst hl3
                        refine ⟨⟨fun _ => hc, G.steps, G.few⟩, ?_⟩
                        unfold weight
                        simp only [if_true]
                        rw [← he, hx]
                        unfold headS
                        simp only [List.length_append, spaced_len_cons, List.length_cons, List.length_nil]
                        omega
                      · cases hr
theorem run_read : ∀ (l : List Tx) (st st' : Rd) (n : Int), Good st → runP st n l = .ok st' → Good st' ∧ weight st' ≤ weight st + (l.map fun x => x.length + 1).sum
  | [], st, st', n, G, h => by
    rw [runP] at h
    cases h
    exact ⟨G, by simp⟩
  | x :: r, st, st', n, G, h => by
    rw [runP] at h
    cases hl : lineP st x with
    | error c => rw [hl] at h; cases h
    | ok s1 =>
      rw [hl] at h
      obtain ⟨G1, w1⟩ := line_read G hl
      obtain ⟨G2, w2⟩ := run_read r s1 st' _ G1 h
      refine ⟨G2, ?_⟩
      rw [List.map_cons, List.sum_cons]
      omega
theorem linesA_len : ∀ (t cur : Tx), ((linesA t cur).map fun x => x.length + 1).sum ≤ cur.length + t.length + 1
  | [], cur => by
    rw [linesA]
    split
    · simp
    · simp
  | c :: r, cur => by
    rw [linesA]
    split
    · have := linesA_len r []
      simp only [List.map_cons, List.sum_cons, List.length_cons, List.length_nil] at *
      omega
    · have := linesA_len r (cur ++ [c])
      simp only [List.length_append, List.length_cons, List.length_nil] at *
      omega
theorem write_total : ∀ (l : List StepP) (t : Tx), (∀ p ∈ l, checkB p = true) → writeP t l = .ok (t ++ l.flatMap lineS) ∨ (writeP t l = .error 193 ∧ 1048576 < (t ++ l.flatMap lineS).length)
  | [], t, _ => .inl (by simp [writeP])
  | p :: r, t, h => by
    rw [writeP, if_neg (by rw [h p (by simp)]; simp)]
    by_cases hm : 1048576 < (t ++ lineS p).length
    · rw [if_pos hm]
      refine .inr ⟨rfl, ?_⟩
      simp only [List.flatMap_cons, List.length_append] at *
      omega
    · rw [if_neg hm]
      have := write_total r (t ++ lineS p) (fun q hq => h q (by simp [hq]))
      simpa using this
theorem line_code {st : Rd} {x : Tx} {c : Int} (h : lineP st x = .error c) : c ≠ 0 := by
  unfold lineP at h
  split at h
  · cases h
  · split at h
    · cases h
    · split at h
      · cases h; decide
      · cases h; decide
      · split at h
        · rename_i x l _ _
          cases hr : rstepP x st.steps.length l with
          | ok p => rw [hr] at h; cases h
          | error e =>
            rw [hr] at h
            cases h
            unfold rstepP at hr
            split at hr
            · cases hr; decide
            · split at hr
              · cases hr; decide
              · split at hr
                · cases hr
                · cases hr; decide
        · rename_i x l _ _
          cases hr : headP x l with
          | ok p => rw [hr] at h; cases h
          | error e =>
            rw [hr] at h
            cases h
            unfold headP at hr
            repeat' split at hr
            all_goals cases hr
            all_goals decide
theorem run_code : ∀ (l : List Tx) (st : Rd) (n m : Int), runP st n l ≠ .error (m, 0)
  | [], st, n, m => by
    rw [runP]
    intro h
    cases h
  | x :: r, st, n, m => by
    rw [runP]
    cases hl : lineP st x with
    | error c =>
      intro h
      cases h
      exact line_code hl rfl
    | ok s1 => exact run_code r s1 _ m
/-- WHAT IS READ IS WRITTEN, no longer than it was but for a line's end. -/
theorem parse_back {t : Tx} {st : Rd} {n : Int} (h : parseP t = (st, n, 0)) : st.hd = true ∧ n = 0 ∧ t.length ≤ 1048576 ∧
    ((∃ u, printP st.j st.s st.q st.steps = .ok u ∧ u.length ≤ t.length + 1) ∨ (printP st.j st.s st.q st.steps = .error 193 ∧ t.length = 1048576)) := by
  unfold parseP at h
  split at h
  · cases h
  · rename_i hl
    cases hr : runP rd0 0 (linesP t) with
    | error e =>
      obtain ⟨m, c⟩ := e
      rw [hr] at h
      simp only [Prod.mk.injEq] at h
      exfalso
      obtain ⟨_, _, rfl⟩ := h
      exact run_code _ _ _ _ hr
    | ok s1 =>
      rw [hr] at h
      simp only [] at h
      split at h
      · rename_i hd
        cases h
        refine ⟨hd, rfl, by omega, ?_⟩
        obtain ⟨G, w⟩ := run_read _ _ _ _ ⟨fun h => (by cases h), fun _ h => (by cases h), by simp [rd0]⟩ hr
        have := linesA_len t []
        have hw : weight rd0 = 0 := rfl
        unfold linesP at w
        have e : weight st = (headS st.j st.s st.q ++ st.steps.flatMap lineS).length := by
          unfold weight
          rw [if_pos hd, List.length_append]
        unfold printP
        rw [if_neg (by rw [G.conf hd]; simp), if_neg (by have := G.few; omega)]
        simp only [List.length_nil] at this
        rcases write_total st.steps (headS st.j st.s st.q) G.steps with h | ⟨h, h2⟩
        · exact .inl ⟨_, h, by omega⟩
        · exact .inr ⟨h, by omega⟩
      · simp at h
end Go.Proofs.YteecmbpabkndlaaDoor
