/-
  Which rows a heap has, without memory.
-/
import Derived.Test.YtonfdmbcbfpgdaaHeapy
namespace Go.Proofs.Ytonfdmbcbfpgdaa
variable {α : Type}

theorem mem_swapL_iff {R : List α} {i j : Nat} {x : α} : x ∈ swapL R i j ↔ x ∈ R := by
  refine ⟨mem_swapL, fun h => ?_⟩
  cases hi : R[i]? with
  | none => unfold swapL; rw [hi]; exact h
  | some a =>
    cases hj : R[j]? with
    | none => unfold swapL; rw [hi, hj]; exact h
    | some b =>
      obtain ⟨k, hk⟩ := List.mem_iff_getElem?.1 h
      have G := swapL_get hi hj
      by_cases h1 : k = i
      · subst h1; rw [hi] at hk; cases hk
        exact List.mem_of_getElem? (by rw [G j, if_pos rfl])
      · by_cases h2 : k = j
        · subst h2; rw [hj] at hk; cases hk
          by_cases h3 : i = k
          · exact absurd h3.symm h1
          · exact List.mem_of_getElem? (i := i) (by rw [G i, if_neg h3, if_pos rfl])
        · exact List.mem_of_getElem? (i := k) (by rw [G k, if_neg h2, if_neg h1]; exact hk)
theorem mem_rise {lt : α → α → Bool} {x : Int × α} : ∀ (f : Nat) (R : List (Int × α)) (p n : Nat), x ∈ (riseL lt f R p n).1 ↔ x ∈ R
  | 0, R, p, n => Iff.rfl
  | f + 1, R, p, n => by
    unfold riseL
    split
    · rfl
    · split
      · split
        · rw [mem_rise f, mem_swapL_iff]
        · rfl
      · rfl
theorem mem_sink {lt : α → α → Bool} {x : Int × α} : ∀ (f : Nat) (R : List (Int × α)) (p n : Nat), x ∈ (sinkL lt f R p n).1 ↔ x ∈ R
  | 0, R, p, n => Iff.rfl
  | f + 1, R, p, n => by
    unfold sinkL
    split
    · split
      · split
        · rw [mem_sink f, mem_swapL_iff]
        · rfl
      · split
        · split
          · rw [mem_sink f, mem_swapL_iff]
          · rfl
        · split
          · rw [mem_sink f, mem_swapL_iff]
          · rfl
    · rfl
theorem mem_settle {lt : α → α → Bool} {x : Int × α} {R : List (Int × α)} {p n : Nat} : x ∈ (settleL lt R p n).1 ↔ x ∈ R := by
  unfold settleL
  split
  · exact mem_rise _ _ _ _
  · rw [mem_sink, mem_rise]
theorem settle_length {lt : α → α → Bool} {R : List (Int × α)} {p n : Nat} : (settleL lt R p n).1.length = R.length := by
  unfold settleL
  split
  · exact riseL_length _ _ _ _ _
  · rw [sinkL_length, riseL_length]
theorem drop_length {lt : α → α → Bool} {R : List (Int × α)} {p n : Nat} : (dropL lt R p n).1.length = R.length - 1 := by
  unfold dropL
  split
  · rw [settle_length, List.length_take, swapL_length]; omega
  · rw [List.length_take, swapL_length]; omega
/-- No ticket comes twice. -/
def Once (R : List (Int × α)) : Prop := ∀ (i j : Nat) a b, R[i]? = some a → R[j]? = some b → a.1 = b.1 → i = j
theorem Sits.once {g : Int → Option Int} {R : List (Int × α)} (h : Sits g R) : Once R := fun _ _ _ _ hi hj e => h.inj hi hj e
theorem Once.same {R : List (Int × α)} (h : Once R) {a b : Int × α} (ha : a ∈ R) (hb : b ∈ R) (e : a.1 = b.1) : a = b := by
  obtain ⟨i, hi⟩ := List.mem_iff_getElem?.1 ha
  obtain ⟨j, hj⟩ := List.mem_iff_getElem?.1 hb
  have := h i j a b hi hj e
  subst this
  rw [hi] at hj
  exact Option.some.inj hj
theorem mem_drop {lt : α → α → Bool} {R : List (Int × α)} {p n : Nat} {a x : Int × α} (h : Once R) (hp : R[p]? = some a) : x ∈ (dropL lt R p n).1 ↔ x ∈ R ∧ x.1 ≠ a.1 := by
  have hpl := (List.getElem?_eq_some_iff.1 hp).1
  obtain ⟨e, he⟩ : ∃ e, e = R.length - 1 := ⟨_, rfl⟩
  obtain ⟨z, hz⟩ : ∃ z, R[e]? = some z := ⟨_, List.getElem?_eq_getElem (by omega)⟩
  have key : x ∈ (swapL R p e).take e ↔ x ∈ R ∧ x.1 ≠ a.1 := by
    have G := swapL_get hp hz
    constructor
    · intro hx
      refine ⟨mem_swapL (List.mem_of_mem_take hx), fun ex => ?_⟩
      obtain ⟨k, hk⟩ := List.mem_iff_getElem?.1 hx
      have hke : k < e := by have := (List.getElem?_eq_some_iff.1 hk).1; simp at this; omega
      rw [List.getElem?_take_of_lt hke, G k, if_neg (by omega)] at hk
      by_cases hkp : k = p
      · rw [if_pos hkp] at hk; cases hk
        have := h e p x a hz hp ex
        omega
      · rw [if_neg hkp] at hk
        exact hkp (h k p x a hk hp ex)
    · rintro ⟨hx, ne⟩
      obtain ⟨k, hk⟩ := List.mem_iff_getElem?.1 (mem_swapL_iff (i := p) (j := e) |>.2 hx)
      have hkl := (List.getElem?_eq_some_iff.1 hk).1
      rw [swapL_length] at hkl
      have hke : k ≠ e := by
        intro e1
        rw [e1, G e, if_pos rfl] at hk
        cases hk
        exact ne rfl
      exact List.mem_of_getElem? (i := k) (by rw [List.getElem?_take_of_lt (by omega)]; exact hk)
  unfold dropL
  rw [← he]
  split
  · rw [mem_settle]; exact key
  · exact key
end Go.Proofs.Ytonfdmbcbfpgdaa
