/-
  What rises and sinks, without memory.
-/
import Derived.Test.YtonfdmbcbfpgdaaPure
namespace Go.Proofs.Ytonfdmbcbfpgdaa
theorem kept_of_drew {P : Nat → Prop} {w w1 : World} (h : Kept P w.drew w1) : Kept P w w1 := ⟨h.os, h.tape, h.output, h.size, h.block⟩

/-- A row rises: fuel, the rows, its place, how often was asked. -/
def riseL {α : Type} (lt : α → α → Bool) : Nat → List (Int × α) → Nat → Nat → List (Int × α) × Nat × Nat
  | 0, R, p, n => (R, p, n)
  | f + 1, R, p, n =>
    if p = 0 then (R, p, n)
    else match R[p]?, R[(p - 1) / 2]? with
      | some a, some b => if rankB lt a b then riseL lt f (swapL R p ((p - 1) / 2)) ((p - 1) / 2) (n + 1) else (R, p, n + 1)
      | _, _ => (R, p, n)
theorem riseL_zero {α : Type} (lt : α → α → Bool) (f : Nat) (R : List (Int × α)) (n : Nat) : riseL lt f R 0 n = (R, 0, n) := by cases f <;> simp [riseL]
theorem riseL_no {α : Type} {lt : α → α → Bool} {f : Nat} {R : List (Int × α)} {p n : Nat} {a b : Int × α} (hp : p ≠ 0) (hf : p ≤ f) (ha : R[p]? = some a) (hb : R[(p - 1) / 2]? = some b) (hr : rankB lt a b = false) : riseL lt f R p n = (R, p, n + 1) := by
  obtain ⟨f, rfl⟩ : ∃ f', f = f' + 1 := ⟨f - 1, by omega⟩
  simp [riseL, hp, ha, hb, hr]
theorem riseL_go {α : Type} {lt : α → α → Bool} {f : Nat} {R : List (Int × α)} {p n : Nat} {a b : Int × α} (hp : p ≠ 0) (hf : p ≤ f) (ha : R[p]? = some a) (hb : R[(p - 1) / 2]? = some b) (hr : rankB lt a b = true) : riseL lt f R p n = riseL lt (f - 1) (swapL R p ((p - 1) / 2)) ((p - 1) / 2) (n + 1) := by
  obtain ⟨f, rfl⟩ : ∃ f', f = f' + 1 := ⟨f - 1, by omega⟩
  simp [riseL, hp, ha, hb, hr]

/-- A row sinks: fuel, the rows, its place, how often was asked. -/
def sinkL {α : Type} (lt : α → α → Bool) : Nat → List (Int × α) → Nat → Nat → List (Int × α) × Nat
  | 0, R, _, n => (R, n)
  | f + 1, R, p, n =>
    match R[p]?, R[2 * p + 1]? with
    | some a, some b =>
      match R[2 * p + 2]? with
      | none => if rankB lt b a then sinkL lt f (swapL R p (2 * p + 1)) (2 * p + 1) (n + 1) else (R, n + 1)
      | some c =>
        if rankB lt c b then (if rankB lt c a then sinkL lt f (swapL R p (2 * p + 2)) (2 * p + 2) (n + 2) else (R, n + 2))
        else if rankB lt b a then sinkL lt f (swapL R p (2 * p + 1)) (2 * p + 1) (n + 2) else (R, n + 2)
    | _, _ => (R, n)
theorem sinkL_end {α : Type} {lt : α → α → Bool} {f : Nat} {R : List (Int × α)} {p n : Nat} (hb : R[2 * p + 1]? = none) : sinkL lt f R p n = (R, n) := by
  cases f with
  | zero => rfl
  | succ f => unfold sinkL; rw [hb]; cases R[p]? <;> rfl
theorem sinkL_one {α : Type} {lt : α → α → Bool} {f : Nat} {R : List (Int × α)} {p n : Nat} {a b : Int × α} (hf : 0 < f) (ha : R[p]? = some a) (hb : R[2 * p + 1]? = some b) (hc : R[2 * p + 2]? = none) :
    sinkL lt f R p n = if rankB lt b a then sinkL lt (f - 1) (swapL R p (2 * p + 1)) (2 * p + 1) (n + 1) else (R, n + 1) := by
  obtain ⟨f, rfl⟩ : ∃ f', f = f' + 1 := ⟨f - 1, by omega⟩
  rw [sinkL]; simp [ha, hb, hc]
theorem sinkL_two {α : Type} {lt : α → α → Bool} {f : Nat} {R : List (Int × α)} {p n : Nat} {a b c : Int × α} (hf : 0 < f) (ha : R[p]? = some a) (hb : R[2 * p + 1]? = some b) (hc : R[2 * p + 2]? = some c) :
    sinkL lt f R p n = if rankB lt c b then (if rankB lt c a then sinkL lt (f - 1) (swapL R p (2 * p + 2)) (2 * p + 2) (n + 2) else (R, n + 2))
        else if rankB lt b a then sinkL lt (f - 1) (swapL R p (2 * p + 1)) (2 * p + 1) (n + 2) else (R, n + 2) := by
  obtain ⟨f, rfl⟩ : ∃ f', f = f' + 1 := ⟨f - 1, by omega⟩
  rw [sinkL]; simp [ha, hb, hc]
theorem sinkL_one_no {α : Type} {lt : α → α → Bool} {f : Nat} {R : List (Int × α)} {p n : Nat} {a b : Int × α} (hf : 0 < f) (ha : R[p]? = some a) (hb : R[2 * p + 1]? = some b) (hc : R[2 * p + 2]? = none) (h1 : rankB lt b a = false) : sinkL lt f R p n = (R, n + 1) := by
  rw [sinkL_one hf ha hb hc]; simp [h1]
theorem sinkL_one_go {α : Type} {lt : α → α → Bool} {f : Nat} {R : List (Int × α)} {p n : Nat} {a b : Int × α} (hf : 0 < f) (ha : R[p]? = some a) (hb : R[2 * p + 1]? = some b) (hc : R[2 * p + 2]? = none) (h1 : rankB lt b a = true) : sinkL lt f R p n = sinkL lt (f - 1) (swapL R p (2 * p + 1)) (2 * p + 1) (n + 1) := by
  rw [sinkL_one hf ha hb hc]; simp [h1]
theorem sinkL_b_no {α : Type} {lt : α → α → Bool} {f : Nat} {R : List (Int × α)} {p n : Nat} {a b c : Int × α} (hf : 0 < f) (ha : R[p]? = some a) (hb : R[2 * p + 1]? = some b) (hc : R[2 * p + 2]? = some c) (h1 : rankB lt c b = false) (h2 : rankB lt b a = false) : sinkL lt f R p n = (R, n + 1 + 1) := by
  rw [sinkL_two hf ha hb hc]; simp [h1, h2]
theorem sinkL_b_go {α : Type} {lt : α → α → Bool} {f : Nat} {R : List (Int × α)} {p n : Nat} {a b c : Int × α} (hf : 0 < f) (ha : R[p]? = some a) (hb : R[2 * p + 1]? = some b) (hc : R[2 * p + 2]? = some c) (h1 : rankB lt c b = false) (h2 : rankB lt b a = true) : sinkL lt f R p n = sinkL lt (f - 1) (swapL R p (2 * p + 1)) (2 * p + 1) (n + 1 + 1) := by
  rw [sinkL_two hf ha hb hc]; simp [h1, h2]
theorem sinkL_c_no {α : Type} {lt : α → α → Bool} {f : Nat} {R : List (Int × α)} {p n : Nat} {a b c : Int × α} (hf : 0 < f) (ha : R[p]? = some a) (hb : R[2 * p + 1]? = some b) (hc : R[2 * p + 2]? = some c) (h1 : rankB lt c b = true) (h2 : rankB lt c a = false) : sinkL lt f R p n = (R, n + 1 + 1) := by
  rw [sinkL_two hf ha hb hc]; simp [h1, h2]
theorem sinkL_c_go {α : Type} {lt : α → α → Bool} {f : Nat} {R : List (Int × α)} {p n : Nat} {a b c : Int × α} (hf : 0 < f) (ha : R[p]? = some a) (hb : R[2 * p + 1]? = some b) (hc : R[2 * p + 2]? = some c) (h1 : rankB lt c b = true) (h2 : rankB lt c a = true) : sinkL lt f R p n = sinkL lt (f - 1) (swapL R p (2 * p + 2)) (2 * p + 2) (n + 1 + 1) := by
  rw [sinkL_two hf ha hb hc]; simp [h1, h2]
theorem sinkL_length {α : Type} (lt : α → α → Bool) : ∀ (f : Nat) (R : List (Int × α)) (p n : Nat), (sinkL lt f R p n).1.length = R.length
  | 0, R, p, n => rfl
  | f + 1, R, p, n => by
    unfold sinkL
    split
    · split
      · split
        · rw [sinkL_length lt f, swapL_length]
        · rfl
      · split
        · split
          · rw [sinkL_length lt f, swapL_length]
          · rfl
        · split
          · rw [sinkL_length lt f, swapL_length]
          · rfl
    · rfl
theorem riseL_length {α : Type} (lt : α → α → Bool) : ∀ (f : Nat) (R : List (Int × α)) (p n : Nat), (riseL lt f R p n).1.length = R.length
  | 0, R, p, n => rfl
  | f + 1, R, p, n => by
    unfold riseL
    split
    · rfl
    · split
      · split
        · rw [riseL_length lt f, swapL_length]
        · rfl
      · rfl

/-- A row is brought to where it belongs. -/
def settleL {α : Type} (lt : α → α → Bool) (R : List (Int × α)) (p n : Nat) : List (Int × α) × Nat :=
  if (riseL lt p R p n).2.1 ≠ p then ((riseL lt p R p n).1, (riseL lt p R p n).2.2) else sinkL lt R.length (riseL lt p R p n).1 p (riseL lt p R p n).2.2
/-- A row is taken out. -/
def dropL {α : Type} (lt : α → α → Bool) (R : List (Int × α)) (p n : Nat) : List (Int × α) × Nat :=
  if p < R.length - 1 then settleL lt ((swapL R p (R.length - 1)).take (R.length - 1)) p n else ((swapL R p (R.length - 1)).take (R.length - 1), n)
theorem mem_riseL {α : Type} {lt : α → α → Bool} {x : Int × α} : ∀ (f : Nat) (R : List (Int × α)) (p n : Nat), x ∈ (riseL lt f R p n).1 → x ∈ R
  | 0, R, p, n, h => h
  | f + 1, R, p, n, h => by
    unfold riseL at h
    split at h
    · exact h
    · split at h
      · split at h
        · exact mem_swapL (mem_riseL f _ _ _ h)
        · exact h
      · exact h
theorem Sits.cut {α : Type} {g : Int → Option Int} {R : List (Int × α)} (h : Sits g R) {e : Nat} {r : Int × α} (hl : R.length = e + 1) (hr : R[e]? = some r) : Sits (delAt g r.1) (R.take e) := by
  constructor
  · intro i x hi
    have hie : i < e := by have := (List.getElem?_eq_some_iff.1 hi).1; simp at this; omega
    rw [List.getElem?_take_of_lt hie] at hi
    unfold delAt
    rw [if_neg (fun e1 => by have := h.inj hi hr e1; omega)]
    exact h.1 i x hi
  · intro t v hv
    unfold delAt at hv
    by_cases ht : t = r.1
    · rw [if_pos ht] at hv; cases hv
    · rw [if_neg ht] at hv
      obtain ⟨i, x, rfl, hi, hx⟩ := h.2 t v hv
      have hil := (List.getElem?_eq_some_iff.1 hi).1
      have hie : i < e := by
        rcases Nat.lt_or_ge i e with h1 | h1
        · exact h1
        · have : i = e := by omega
          subst this
          rw [hi] at hr; cases hr; exact absurd hx.symm ht
      exact ⟨i, x, rfl, by rw [List.getElem?_take_of_lt hie]; exact hi, hx⟩
/-- The first row is taken out. -/
def popL {α : Type} (lt : α → α → Bool) (R : List (Int × α)) (n : Nat) : List (Int × α) × Nat := if R.length = 0 then (R, n) else dropL lt R 0 n
end Go.Proofs.Ytonfdmbcbfpgdaa
