/-
  What is said part by part: no memory in this text.
-/
import Derived.Test.YtabpicbhhplcgaaPlainBounds
import Derived.Test.YtabpicbhhplcgaaSaid
namespace Go.Proofs.Ytabpicbhhplcgaa

theorem find_line : ∀ (l r : List UInt8), find l = none → find (l ++ 13 :: 10 :: r) = some l.length
  | [], r, _ => by simp [find]
  | x :: l, r, h => by
    unfold find at h
    by_cases hx : x = 13 ∧ l.head? = some 10
    · rw [if_pos hx] at h; cases h
    · rw [if_neg hx] at h
      have h' : find l = none := by cases hf : find l with | none => rfl | some k => rw [hf] at h; cases h
      have ih := find_line l r h'
      rw [List.cons_append]
      unfold find
      rw [if_neg, ih]
      · rfl
      · rintro ⟨h1, h2⟩
        refine hx ⟨h1, ?_⟩
        cases l with
        | nil => simp at h2
        | cons y l => simpa using h2
theorem cutL_none (t : List UInt8) : find (cutL t) = none := by
  unfold cutL
  cases hf : find t with
  | none => exact hf
  | some k => exact find_first hf

/-- At a line, of its own numbers. -/
def Rest (s : In) (mx : Int) (h : List UInt8) : Prop := s.most = mx ∧ s.stand = 0 ∧ s.need ≤ 4294967297 ∧ s.held = h

theorem line_next {s : In} {mx : Int} (line r : List UInt8) (hn : find line = none) (hl : line.length ≤ 222) (h : Rest s mx (line ++ 13 :: 10 :: r)) : s.next.1 = ⟨1, line, []⟩ ∧ Rest s.next.2 mx r := by
  obtain ⟨h1, h2, h3, h4⟩ := h
  have hf : find s.held = some line.length := by rw [h4]; exact find_line line r hn
  have hw : find s.window = some line.length := find_take hf (by omega)
  have ht : ¬ (s.stand = 0 ∧ s.tooLong = true) := fun e => by
    have := of_decide_eq_true e.2
    rw [hw] at this; cases this.2
  have e : s.next = (⟨1, s.held.take line.length, []⟩, { s with held := s.held.drop (line.length + 2) }) := by
    unfold In.next
    rw [if_neg ht]
    unfold In.tell
    rw [if_pos h2]
    unfold In.tellLine
    rw [hw]
  rw [e]
  refine ⟨by rw [h4]; simp, h1, h2, h3, ?_⟩
  show s.held.drop (line.length + 2) = r
  rw [h4, show line ++ 13 :: 10 :: r = (line ++ [13, 10]) ++ r by simp, List.drop_left' (by simp)]
theorem long_next {s : In} {mx : Int} (line : List UInt8) (hn : find line = none) (hl : 222 < line.length) (h : Rest s mx (line ++ [13, 10])) : s.next.1 = ⟨2, [], []⟩ ∧ Rest s.next.2 mx [] := by
  obtain ⟨h1, h2, h3, h4⟩ := h
  have hf : find s.held = some line.length := by rw [h4]; exact find_line line [] hn
  have hlen : s.held.length = line.length + 2 := by rw [h4]; simp
  have hw : find s.window = none := by
    cases hk : find s.window with
    | none => rfl
    | some k =>
      exfalso
      have hroom : k + 2 ≤ (s.held.take 224).length := find_room hk
      have hfa : find (s.held.take 224 ++ s.held.drop 224) = some k := find_append _ hk
      rw [List.take_append_drop, hf] at hfa
      cases hfa
      rw [List.length_take] at hroom
      omega
  have ht : s.stand = 0 ∧ s.tooLong = true := ⟨h2, decide_eq_true ⟨by omega, hw⟩⟩
  have hgo : letGo 1 2 s.held = (line.length + 2, 0) := by
    unfold letGo letGoLine
    rw [if_pos rfl, if_neg (by rintro (e | e); cases e; rw [e] at hlen; simp at hlen), if_neg (by simp), lineEnd_some hf]
  have e : s.next = (⟨2, [], []⟩, { s with stand := 0, need := 0, held := s.held.drop (line.length + 2) }) := by
    unfold In.next
    rw [if_pos ht]
    unfold In.tell
    have hs : (s.turn 1 2).stand = 1 := rfl
    have hnd : (s.turn 1 2).need = 0 := by show (letGo 1 2 s.held).2 = 0; rw [hgo]
    rw [if_neg (by omega), if_pos hs]
    unfold In.tellLoss
    rw [if_neg (by omega)]
    unfold In.turn
    rw [hgo]
  rw [e]
  exact ⟨rfl, h1, rfl, Nat.zero_le _, by show s.held.drop (line.length + 2) = []; exact List.drop_eq_nil_of_le (by omega)⟩
theorem body_next {s : In} {mx : Int} (d : List UInt8) (x y : UInt8) (hd : d.length ≤ 1048576) (h : Rest s mx (d ++ [x, y])) :
    s.bodyE d.length = 0 ∧ (s.body d.length).stand < 4 ∧ (s.body d.length).need ≤ 4294967297 ∧ (s.body d.length).held.length ≤ d.length + 2 ∧
      (s.body d.length).next.1 = (if mx < (d.length : Int) then ⟨4, [], []⟩ else if [x, y] = [13, 10] then ⟨3, [], d⟩ else ⟨5, [], []⟩) ∧ Rest (s.body d.length).next.2 mx [] := by
  obtain ⟨h1, h2, h3, h4⟩ := h
  have hlen : s.held.length = d.length + 2 := by rw [h4]; simp
  have hy : s.bodyE d.length = 0 ∧ s.body d.length = s.turn (if (d.length : Int) > s.most then 3 else 2) ((d.length : Int).toNat + 2) := by
    unfold In.bodyE In.body
    rw [if_neg (by omega), if_neg (by omega)]
    exact ⟨rfl, rfl⟩
  rw [hy.1, hy.2, h1, Int.toNat_natCast]
  by_cases hb : mx < (d.length : Int)
  · rw [if_pos hb, if_pos hb]
    have hgo : letGo 3 (d.length + 2) s.held = (d.length + 2, 0) := by rw [letGo_big, hlen]; simp
    have et : s.turn 3 (d.length + 2) = { s with stand := 3, need := 0, held := [] } := by
      unfold In.turn
      rw [hgo, List.drop_eq_nil_of_le (by omega)]
    rw [et]
    have e : ({ s with stand := 3, need := 0, held := [] } : In).next = (⟨4, [], []⟩, { s with stand := 0, need := 0, held := [] }) := by
      unfold In.next
      rw [if_neg (by simp)]
      unfold In.tell In.tellLoss
      simp
    rw [e]
    exact ⟨rfl, (show 3 < 4 by omega), by simp, by simp, rfl, h1, rfl, Nat.zero_le _, rfl⟩
  · rw [if_neg hb, if_neg hb]
    have et : s.turn 2 (d.length + 2) = { s with stand := 2, need := d.length + 2 } := by
      unfold In.turn
      rw [letGo_other (by omega)]
      rfl
    rw [et]
    have hsuf : Lib.hasSuffix (s.held.take (d.length + 2)) [13, 10] = decide ([x, y] = [13, 10]) := by
      rw [List.take_of_length_le (by omega), h4]
      unfold Lib.hasSuffix
      rw [Bool.eq_iff_iff, List.isSuffixOf_iff_suffix, decide_eq_true_iff]
      constructor
      · rintro ⟨p, hp⟩
        have := List.append_inj_right' hp (by simp)
        exact this.symm
      · intro e; rw [e]; exact ⟨d, rfl⟩
    have e : ({ s with stand := 2, need := d.length + 2 } : In).next = (if Lib.hasSuffix (s.held.take (d.length + 2)) [13, 10] then ⟨3, [], s.held.take (d.length + 2 - 2)⟩ else ⟨5, [], []⟩, { s with stand := 0, need := d.length + 2, held := s.held.drop (d.length + 2) }) := by
      unfold In.next
      rw [if_neg (by simp)]
      unfold In.tell
      rw [if_neg (by simp), if_neg (by simp), if_pos rfl]
      unfold In.tellBody
      rw [if_neg (by show ¬ s.held.length < d.length + 2; omega)]
    rw [e, hsuf]
    refine ⟨rfl, by show 2 < 4; omega, by show d.length + 2 ≤ _; omega, by show s.held.length ≤ _; omega, ?_, h1, rfl, by show d.length + 2 ≤ _; omega, by show s.held.drop (d.length + 2) = []; exact List.drop_eq_nil_of_le (by omega)⟩
    show (if decide ([x, y] = [13, 10]) = true then (⟨3, [], s.held.take (d.length + 2 - 2)⟩ : Told) else ⟨5, [], []⟩) = _
    by_cases he : [x, y] = [13, 10]
    · rw [if_pos (decide_eq_true he), if_pos he, h4]; simp
    · rw [if_neg (by simpa using he), if_neg he]
theorem end_next {s : In} {mx : Int} (h : Rest s mx []) : s.next.1 = ⟨0, [], []⟩ ∧ Rest s.next.2 mx [] := by
  obtain ⟨h1, h2, h3, h4⟩ := h
  have hw : find s.window = none := by unfold In.window; rw [h4]; rfl
  have e : s.next = (.none, s) := by
    unfold In.next
    rw [if_neg (fun e => by have := (of_decide_eq_true e.2).1; rw [h4] at this; simp at this)]
    unfold In.tell
    rw [if_pos h2]
    unfold In.tellLine
    rw [hw]
  rw [e]
  exact ⟨rfl, h1, h2, h3, h4⟩
end Go.Proofs.Ytabpicbhhplcgaa
