/-
  An intake as a list of bytes and three numbers.
-/
import Derived.Lib.IndexMore
import Derived.Lib.IndexLaws
import Derived.Lib.Strings
namespace Go.Proofs.Ytcgpfhkndbggiaa

/-- Where the first CR LF stands. -/
def find : List UInt8 → Option Nat
  | [] => none
  | x :: r => if x = 13 ∧ r.head? = some 10 then some 0 else (find r).map (· + 1)

theorem find_index : ∀ l : List UInt8, Lib.index l [13, 10] = (find l).elim (-1) (fun k => (k : Int))
  | [] => rfl
  | x :: r => by
    have ih := find_index r
    have hp : (List.isPrefixOf [13, 10] (x :: r)) = decide (x = 13 ∧ r.head? = some 10) := by
      cases r with
      | nil => simp [List.isPrefixOf]
      | cons y r =>
        have e : (13 == x) = decide (x = 13) := by rw [Bool.eq_iff_iff, beq_iff_eq, decide_eq_true_iff]; exact ⟨Eq.symm, Eq.symm⟩
        have f : (10 == y) = decide (y = 10) := by rw [Bool.eq_iff_iff, beq_iff_eq, decide_eq_true_iff]; exact ⟨Eq.symm, Eq.symm⟩
        simp only [List.isPrefixOf, e, f, List.head?_cons, Option.some.injEq, Bool.decide_and, Bool.and_true]
    by_cases h : x = 13 ∧ r.head? = some 10
    · have e1 : Lib.index (x :: r) [13, 10] = 0 := by
        unfold Lib.index; rw [hp, decide_eq_true h]; rfl
      have e2 : find (x :: r) = some 0 := by unfold find; rw [if_pos h]
      rw [e1, e2]; rfl
    · have e1 : Lib.index (x :: r) [13, 10] = if Lib.index r [13, 10] == -1 then -1 else Lib.index r [13, 10] + 1 := by
        rw [show Lib.index (x :: r) [13, 10] = if List.isPrefixOf [13, 10] (x :: r) then 0 else if Lib.index r [13, 10] == -1 then -1 else Lib.index r [13, 10] + 1 from rfl, hp, decide_eq_false h]; rfl
      have e2 : find (x :: r) = (find r).map (· + 1) := by
        show (if x = 13 ∧ r.head? = some 10 then some 0 else (find r).map (· + 1)) = _
        rw [if_neg h]
      rw [e1, e2, ih]
      cases find r with
      | none => rfl
      | some k =>
        show (if ((k : Int) == -1) = true then (-1 : Int) else (k : Int) + 1) = ((k + 1 : Nat) : Int)
        rw [if_neg (by simp)]
        omega

theorem find_some : ∀ {l : List UInt8} {k : Nat}, find l = some k → l[k]? = some 13 ∧ l[k + 1]? = some 10
  | [], _, h => by cases h
  | x :: r, k, h => by
    unfold find at h
    by_cases hx : x = 13 ∧ r.head? = some 10
    · rw [if_pos hx] at h; cases h
      exact ⟨by simp [hx.1], by rw [← hx.2]; cases r <;> simp⟩
    · rw [if_neg hx] at h
      cases hf : find r with
      | none => rw [hf] at h; cases h
      | some j =>
        rw [hf] at h; cases h
        simpa using find_some hf

theorem find_room {l : List UInt8} {k : Nat} (h : find l = some k) : k + 2 ≤ l.length := by
  have := (List.getElem?_eq_some_iff.1 (find_some h).2).1
  omega

/-- None ahead of the first one. -/
theorem find_first : ∀ {l : List UInt8} {k : Nat}, find l = some k → find (l.take k) = none
  | [], _, h => by cases h
  | x :: r, k, h => by
    unfold find at h
    by_cases hx : x = 13 ∧ r.head? = some 10
    · rw [if_pos hx] at h; cases h; rfl
    · rw [if_neg hx] at h
      cases hf : find r with
      | none => rw [hf] at h; cases h
      | some j =>
        rw [hf] at h; cases h
        have ih := find_first hf
        simp only [List.take_succ_cons]
        unfold find
        rw [ih, if_neg]
        · rfl
        · intro hh
          refine hx ⟨hh.1, ?_⟩
          cases j with
          | zero => simp at hh
          | succ j => cases r with
            | nil => simp at hh
            | cons y r => simpa using hh.2

theorem find_append : ∀ {l : List UInt8} {k : Nat} (m : List UInt8), find l = some k → find (l ++ m) = some k
  | [], _, _, h => by cases h
  | x :: r, k, m, h => by
    unfold find at h
    rw [List.cons_append]
    unfold find
    by_cases hx : x = 13 ∧ r.head? = some 10
    · rw [if_pos hx] at h; cases h
      rw [if_pos]
      refine ⟨hx.1, ?_⟩
      cases r with
      | nil => simp at hx
      | cons y r => simpa using hx.2
    · rw [if_neg hx] at h
      cases hf : find r with
      | none => rw [hf] at h; cases h
      | some j =>
        rw [hf] at h; cases h
        rw [find_append m hf, if_neg]
        · rfl
        · intro hh
          refine hx ⟨hh.1, ?_⟩
          cases r with
          | nil => cases hf
          | cons y r => simpa using hh.2

/-- How an intake is. -/
structure In where
  most : Int
  stand : Nat
  need : Nat
  held : List UInt8

/-- .. of bytes that are not the other half of an end. -/
def lineEnd (b : List UInt8) : Nat × Nat :=
  match find b with
  | some k => (k + 2, 0)
  | none => (b.length, if b.getLast? = some 13 then 1 else 2)
theorem lineEnd_some {b : List UInt8} {k : Nat} (h : find b = some k) : lineEnd b = (k + 2, 0) := by unfold lineEnd; rw [h]
theorem lineEnd_none {b : List UInt8} (h : find b = none) : lineEnd b = (b.length, if b.getLast? = some 13 then 1 else 2) := by unfold lineEnd; rw [h]
/-- How many of some bytes are let go in a long line, and what would end it then. -/
def letGoLine (need : Nat) (b : List UInt8) : Nat × Nat :=
  if need = 0 ∨ b = [] then (0, need)
  else if need = 1 ∧ b.head? = some 10 then (1, 0)
  else lineEnd b
def letGo (stand need : Nat) (b : List UInt8) : Nat × Nat :=
  if stand = 1 then letGoLine need b else if stand = 3 then (min need b.length, need - min need b.length) else (0, need)
theorem letGo_le (stand need : Nat) (b : List UInt8) : (letGo stand need b).1 ≤ b.length := by
  unfold letGo
  split
  · unfold letGoLine
    split
    · exact Nat.zero_le _
    · rename_i h
      split
      · have : b ≠ [] := fun e => h (.inr e)
        have := List.length_pos_iff.2 this
        show 1 ≤ _
        omega
      · cases hf : find b with
        | none => rw [lineEnd_none hf]; exact Nat.le_refl _
        | some k => rw [lineEnd_some hf]; exact find_room hf
  · split
    · exact Nat.min_le_right _ _
    · exact Nat.zero_le _

def In.feed (s : In) (b : List UInt8) : In := { s with need := (letGo s.stand s.need b).2, held := s.held ++ b.drop (letGo s.stand s.need b).1 }
def In.turn (s : In) (stand need : Nat) : In := { s with stand := stand, need := (letGo stand need s.held).2, held := s.held.drop (letGo stand need s.held).1 }
/-- What a line that is not too long has to stand in. -/
def In.window (s : In) : List UInt8 := s.held.take 224
def In.tooLong (s : In) : Bool := decide (224 ≤ s.held.length ∧ find s.window = none)

/-- What is told: a kind, a text, a body. -/
structure Told where
  kind : Int
  text : List UInt8
  body : List UInt8
def Told.none : Told := ⟨0, [], []⟩

def In.tellLine (s : In) : Told × In :=
  match find s.window with
  | some k => (⟨1, s.held.take k, []⟩, { s with held := s.held.drop (k + 2) })
  | Option.none => (.none, s)
def In.tellLoss (s : In) (kind : Int) : Told × In := if 0 < s.need then (.none, s) else (⟨kind, [], []⟩, { s with stand := 0 })
def In.tellBody (s : In) : Told × In :=
  if s.held.length < s.need then (.none, s)
  else (if Lib.hasSuffix (s.held.take s.need) [13, 10] then ⟨3, [], s.held.take (s.need - 2)⟩ else ⟨5, [], []⟩, { s with stand := 0, held := s.held.drop s.need })
/-- As it stands. -/
def In.tell (s : In) : Told × In :=
  if s.stand = 0 then s.tellLine else if s.stand = 1 then s.tellLoss 2 else if s.stand = 2 then s.tellBody else s.tellLoss 4
def In.next (s : In) : Told × In := if s.stand = 0 ∧ s.tooLong = true then (s.turn 1 2).tell else s.tell
def In.bodyE (s : In) (n : Int) : Int := if n < 0 ∨ n > 4294967295 ∨ s.stand ≠ 0 then 61 else 0
def In.body (s : In) (n : Int) : In := if n < 0 ∨ n > 4294967295 ∨ s.stand ≠ 0 then s else s.turn (if n > s.most then 3 else 2) (n.toNat + 2)
end Go.Proofs.Ytcgpfhkndbggiaa
