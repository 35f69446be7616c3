/-
  The document's book as a list of rows: where a name stands, and what is there behind it has been held or dropped.
-/
import Derived.Test.YthjaehibndmehaaBook
namespace Go.Proofs.Ythjaehibndmehaa

/-- Where a text stands among rows, and what stands ahead of it and behind it. -/
def There (S : List RowT) (t : Text) (k : Nat) (c : Int) : Prop := ∃ X Y, S = X ++ (t, c) :: Y ∧ X.length = k ∧ (∀ x ∈ X, less x.1 t = true) ∧ ∀ y ∈ Y, less t y.1 = true
def Away (S : List RowT) (t : Text) (k : Nat) : Prop := ∃ X Y, S = X ++ Y ∧ X.length = k ∧ (∀ x ∈ X, less x.1 t = true) ∧ ∀ y ∈ Y, less t y.1 = true

theorem There.le {S : List RowT} {t : Text} {k : Nat} {c : Int} (h : There S t k c) : k < S.length := by
  obtain ⟨X, Y, rfl, rfl, _⟩ := h
  simp
theorem Away.le {S : List RowT} {t : Text} {k : Nat} (h : Away S t k) : k ≤ S.length := by
  obtain ⟨X, Y, rfl, rfl, _⟩ := h
  simp
theorem There.get {S : List RowT} {t : Text} {k : Nat} {c : Int} (h : There S t k c) : S[k]? = some (t, c) := by
  obtain ⟨X, Y, rfl, rfl, _⟩ := h
  simp
/-- The first that is not below a text. -/
theorem first_at {S : List RowT} (hup : S.Pairwise (fun x y => less x.1 y.1 = true)) {t : Text} {k : Nat} {r : RowT} (hb : ∀ x ∈ S.take k, less x.1 t = true) (hr : S[k]? = some r) (hn : less r.1 t = false) :
    (r.1 = t ∧ There S t k r.2) ∨ (r.1 ≠ t ∧ Away S t k) := by
  obtain ⟨hk, e⟩ := List.getElem?_eq_some_iff.1 hr
  have hs : S = S.take k ++ r :: S.drop (k + 1) := by
    conv => lhs; rw [← List.take_append_drop k S]
    rw [List.drop_eq_getElem_cons hk, e]
  have hl : (S.take k).length = k := by simp; omega
  have hbeh : ∀ y ∈ S.drop (k + 1), less r.1 y.1 = true := by
    rw [hs] at hup
    exact (List.pairwise_cons.1 (List.pairwise_append.1 hup).2.1).1
  by_cases h : r.1 = t
  · left
    refine ⟨h, S.take k, S.drop (k + 1), ?_, hl, hb, fun y hy => h ▸ hbeh y hy⟩
    rw [← h]
    exact hs
  · right
    have h1 := less_total hn h
    refine ⟨h, S.take k, r :: S.drop (k + 1), hs, hl, hb, fun y hy => ?_⟩
    rcases List.mem_cons.1 hy with rfl | hy
    · exact h1
    · exact less_trans h1 (hbeh y hy)
theorem none_at {S : List RowT} {t : Text} (hb : ∀ x ∈ S, less x.1 t = true) : Away S t S.length := ⟨S, [], by simp, rfl, hb, fun y hy => by cases hy⟩

section
variable {g : Text → Option Int} {S : List RowT} {t : Text} {k : Nat} {c : Int}
theorem There.held (h : There S t k c) (hl : Listed g S) : g t = some c := (hl.mem t c).1 (List.mem_of_getElem? h.get)
theorem Away.none (h : Away S t k) (hl : Listed g S) : g t = none := by
  obtain ⟨X, Y, rfl, rfl, h1, h2⟩ := h
  cases hg : g t with
  | none => rfl
  | some v =>
    exfalso
    rcases List.mem_append.1 ((hl.mem t v).2 hg) with m | m
    · have := h1 _ m; rw [less_irrefl] at this; cases this
    · have := h2 _ m; rw [less_irrefl] at this; cases this
theorem up_mid {X Y : List RowT} {u : Int} (hX : X.Pairwise (fun x y => less x.1 y.1 = true)) (hY : Y.Pairwise (fun x y => less x.1 y.1 = true)) (h1 : ∀ x ∈ X, less x.1 t = true) (h2 : ∀ y ∈ Y, less t y.1 = true) : (X ++ (t, u) :: Y).Pairwise (fun x y => less x.1 y.1 = true) := by
  refine List.pairwise_append.2 ⟨hX, List.pairwise_cons.2 ⟨h2, hY⟩, fun x hx y hy => ?_⟩
  rcases List.mem_cons.1 hy with rfl | hy
  · exact h1 x hx
  · exact less_trans (h1 x hx) (h2 y hy)
theorem not_in {X : List RowT} (h1 : ∀ x ∈ X, less x.1 t = true) (v : Int) : (t, v) ∉ X := fun m => by
  have := h1 _ m
  rw [less_irrefl] at this
  cases this
theorem not_in' {Y : List RowT} (h1 : ∀ y ∈ Y, less t y.1 = true) (v : Int) : (t, v) ∉ Y := fun m => by
  have := h1 _ m
  rw [less_irrefl] at this
  cases this
/-- A text's number is set. -/
theorem There.set (h : There S t k c) (hl : Listed g S) (u : Int) : Listed (putAt g t u) (S.set k (t, u)) := by
  obtain ⟨X, Y, rfl, rfl, h1, h2⟩ := h
  have e : (X ++ (t, c) :: Y).set X.length (t, u) = X ++ (t, u) :: Y := by simp
  rw [e]
  obtain ⟨p1, p2, _⟩ := List.pairwise_append.1 hl.up
  refine ⟨up_mid p1 (List.pairwise_cons.1 p2).2 h1 h2, fun x v => ?_⟩
  unfold putAt
  have hm := hl.mem x v
  by_cases hx : x = t
  · subst hx
    rw [if_pos rfl]
    have n1 := not_in h1 v
    have n2 := not_in' h2 v
    simp [n1, n2, eq_comm]
  · rw [if_neg hx, ← hm]
    simp [hx]
/-- A text is taken out. -/
theorem There.del (h : There S t k c) (hl : Listed g S) : Listed (delAt g t) (S.take k ++ S.drop (k + 1)) := by
  obtain ⟨X, Y, rfl, rfl, h1, h2⟩ := h
  have e : (X ++ (t, c) :: Y).take X.length ++ (X ++ (t, c) :: Y).drop (X.length + 1) = X ++ Y := by simp
  rw [e]
  obtain ⟨p1, p2, p3⟩ := List.pairwise_append.1 hl.up
  refine ⟨List.pairwise_append.2 ⟨p1, (List.pairwise_cons.1 p2).2, fun x hx y hy => p3 x hx y (List.mem_cons_of_mem _ hy)⟩, fun x v => ?_⟩
  unfold delAt
  have hm := hl.mem x v
  by_cases hx : x = t
  · subst hx
    rw [if_pos rfl]
    have n1 := not_in h1 v
    have n2 := not_in' h2 v
    simp [n1, n2]
  · rw [if_neg hx, ← hm]
    simp [hx]
/-- A text is put in. -/
theorem Away.put (h : Away S t k) (hl : Listed g S) (u : Int) : Listed (putAt g t u) (S.take k ++ (t, u) :: S.drop k) := by
  obtain ⟨X, Y, rfl, rfl, h1, h2⟩ := h
  have e : (X ++ Y).take X.length ++ (t, u) :: (X ++ Y).drop X.length = X ++ (t, u) :: Y := by simp
  rw [e]
  obtain ⟨p1, p2, p3⟩ := List.pairwise_append.1 hl.up
  refine ⟨up_mid p1 p2 h1 h2, fun x v => ?_⟩
  unfold putAt
  have hm := hl.mem x v
  by_cases hx : x = t
  · subst hx
    rw [if_pos rfl]
    have n1 := not_in h1 v
    have n2 := not_in' h2 v
    simp [n1, n2, eq_comm]
  · rw [if_neg hx, ← hm]
    simp [hx]
end
end Go.Proofs.Ythjaehibndmehaa
