/-
  PlainFed, RefPure6.
-/
import Derived.Test.YtcgpfhkndbggiaaPlainBounds
namespace Go.Proofs.Ytcgpfhkndbggiaa

theorem find_no_head {x : UInt8} {r : List UInt8} (h : ¬ (x = 13 ∧ r.head? = some 10)) : find (x :: r) = (find r).map (· + 1) := by
  show (if x = 13 ∧ r.head? = some 10 then some 0 else (find r).map (· + 1)) = _
  rw [if_neg h]
theorem find_app : ∀ (a b : List UInt8), find a = none → ¬ (a.getLast? = some 13 ∧ b.head? = some 10) → find (a ++ b) = (find b).map (· + a.length)
  | [], b, _, _ => by simp
  | x :: a, b, h, hc => by
    by_cases hx : x = 13 ∧ a.head? = some 10
    · unfold find at h; rw [if_pos hx] at h; cases h
    · rw [find_no_head hx] at h
      have h' : find a = none := by cases hf : find a with | none => rfl | some k => rw [hf] at h; cases h
      rw [List.cons_append]
      cases a with
      | nil =>
        rw [List.nil_append, find_no_head (by rintro ⟨h1, h2⟩; exact hc ⟨by simp [h1], h2⟩)]
        rfl
      | cons y a =>
        have ih := find_app (y :: a) b h' (by rintro ⟨h1, h2⟩; exact hc ⟨by simpa using h1, h2⟩)
        rw [find_no_head (by rintro ⟨h1, h2⟩; exact hx ⟨h1, by simpa using h2⟩), ih]
        cases find b with
        | none => rfl
        | some k => simp; omega
theorem find_cross : ∀ (a b : List UInt8), find a = none → a.getLast? = some 13 → b.head? = some 10 → find (a ++ b) = some (a.length - 1)
  | [], b, _, h, _ => by simp at h
  | x :: a, b, h, hl, hb => by
    unfold find at h
    by_cases hx : x = 13 ∧ a.head? = some 10
    · rw [if_pos hx] at h; cases h
    · rw [if_neg hx] at h
      have h' : find a = none := by cases hf : find a with | none => rfl | some k => rw [hf] at h; cases h
      rw [List.cons_append]
      unfold find
      cases a with
      | nil =>
        rw [if_pos ⟨by simpa using hl, by simpa using hb⟩]
        rfl
      | cons y a =>
        have ih := find_cross (y :: a) b h' (by simpa using hl) hb
        rw [if_neg (by rintro ⟨h1, h2⟩; exact hx ⟨h1, by simpa using h2⟩), ih]
        simp
theorem last_app (a b : List UInt8) (h : b ≠ []) : (a ++ b).getLast? = b.getLast? := by
  rw [List.getLast?_append]
  cases hb : b.getLast? with
  | none => exact absurd (List.getLast?_eq_none_iff.1 hb) h
  | some y => rfl

theorem letGo_app (st nd : Nat) (a b : List UInt8) : (letGo st nd (a ++ b)).2 = (letGo st (letGo st nd a).2 b).2 ∧
    (a ++ b).drop (letGo st nd (a ++ b)).1 = a.drop (letGo st nd a).1 ++ b.drop (letGo st (letGo st nd a).2 b).1 := by
  by_cases h1 : st = 1
  · subst h1
    have ex : ∀ n l, letGo 1 n l = letGoLine n l := fun n l => by unfold letGo; rw [if_pos rfl]
    rw [ex, ex, ex]
    by_cases h0 : nd = 0
    · subst h0
      have z : ∀ l, letGoLine 0 l = (0, 0) := fun l => by unfold letGoLine; simp
      rw [z, z, z]
      simp
    by_cases ha : a = []
    · subst ha
      have z : letGoLine nd [] = (0, nd) := by unfold letGoLine; simp
      rw [z]
      simp
    have hab : ¬ (nd = 0 ∨ a ++ b = []) := by simp [h0, ha]
    have haa : ¬ (nd = 0 ∨ a = []) := by simp [h0, ha]
    have hhead : (a ++ b).head? = a.head? := by cases a with | nil => exact absurd rfl ha | cons x a => rfl
    by_cases h10 : nd = 1 ∧ a.head? = some 10
    · have e1 : letGoLine nd a = (1, 0) := by unfold letGoLine; rw [if_neg haa, if_pos h10]
      have e2 : letGoLine nd (a ++ b) = (1, 0) := by unfold letGoLine; rw [if_neg hab, if_pos (by rw [hhead]; exact h10)]
      have e3 : letGoLine 0 b = (0, 0) := by unfold letGoLine; simp
      rw [e1, e2, e3]
      refine ⟨rfl, ?_⟩
      cases a with
      | nil => exact absurd rfl ha
      | cons x a => simp
    have e1 : letGoLine nd a = lineEnd a := by unfold letGoLine; rw [if_neg haa, if_neg h10]
    have e2 : letGoLine nd (a ++ b) = lineEnd (a ++ b) := by unfold letGoLine; rw [if_neg hab, if_neg (by rw [hhead]; exact h10)]
    rw [e1, e2]
    cases hf : find a with
    | some k =>
      have hr := find_room hf
      rw [lineEnd_some hf, lineEnd_some (find_append b hf)]
      have e3 : letGoLine 0 b = (0, 0) := by unfold letGoLine; simp
      rw [e3]
      exact ⟨rfl, by simp [List.drop_append_of_le_length hr]⟩
    | none =>
      rw [lineEnd_none hf]
      by_cases hb : b = []
      · subst hb
        have e3 : ∀ n, letGoLine n [] = (0, n) := fun n => by unfold letGoLine; simp
        rw [e3, List.append_nil, lineEnd_none hf]
        simp
      by_cases hl : a.getLast? = some 13
      · rw [if_pos hl]
        by_cases hh : b.head? = some 10
        · have hc := find_cross a b hf hl hh
          have e3 : letGoLine 1 b = (1, 0) := by unfold letGoLine; rw [if_neg (by simp [hb]), if_pos ⟨rfl, hh⟩]
          rw [lineEnd_some hc, e3]
          have hap : 0 < a.length := List.length_pos_iff.2 ha
          refine ⟨rfl, ?_⟩
          show (a ++ b).drop (a.length - 1 + 2) = a.drop a.length ++ b.drop 1
          rw [show a.length - 1 + 2 = a.length + 1 by omega, List.drop_append, List.drop_eq_nil_of_le (by omega), List.drop_length]
          simp
        · have hc := find_app a b hf (fun e => hh e.2)
          have e3 : letGoLine 1 b = lineEnd b := by unfold letGoLine; rw [if_neg (by simp [hb]), if_neg (fun e => hh e.2)]
          rw [e3]
          cases hfb : find b with
          | some j =>
            rw [hfb] at hc
            rw [lineEnd_some hfb, lineEnd_some (k := j + a.length) hc]
            refine ⟨rfl, ?_⟩
            show (a ++ b).drop (j + a.length + 2) = a.drop a.length ++ b.drop (j + 2)
            rw [List.drop_append, List.drop_eq_nil_of_le (by omega), List.drop_length, show j + a.length + 2 - a.length = j + 2 by omega]
          | none =>
            rw [hfb] at hc
            rw [lineEnd_none hfb, lineEnd_none (show find (a ++ b) = none from hc), last_app a b hb]
            exact ⟨rfl, by simp⟩
      · rw [if_neg hl]
        have hc := find_app a b hf (fun e => hl e.1)
        have e3 : letGoLine 2 b = lineEnd b := by unfold letGoLine; rw [if_neg (by simp [hb]), if_neg (by simp)]
        rw [e3]
        cases hfb : find b with
        | some j =>
          rw [hfb] at hc
          rw [lineEnd_some hfb, lineEnd_some (k := j + a.length) hc]
          refine ⟨rfl, ?_⟩
          show (a ++ b).drop (j + a.length + 2) = a.drop a.length ++ b.drop (j + 2)
          rw [List.drop_append, List.drop_eq_nil_of_le (by omega), List.drop_length, show j + a.length + 2 - a.length = j + 2 by omega]
        | none =>
          rw [hfb] at hc
          rw [lineEnd_none hfb, lineEnd_none (show find (a ++ b) = none from hc), last_app a b hb]
          exact ⟨rfl, by simp⟩
  by_cases h3 : st = 3
  · subst h3
    rw [letGo_big, letGo_big, letGo_big]
    refine ⟨by simp; omega, ?_⟩
    show (a ++ b).drop (min nd (a ++ b).length) = a.drop (min nd a.length) ++ b.drop (min (nd - min nd a.length) b.length)
    rw [List.drop_append]
    congr 1
    · by_cases h : nd ≤ a.length
      · rw [Nat.min_eq_left h, Nat.min_eq_left (by simp; omega)]
      · rw [List.drop_eq_nil_of_le (by simp; omega), List.drop_eq_nil_of_le (by omega)]
    · congr 1
      simp
      omega
  · rw [letGo_other ⟨h1, h3⟩, letGo_other ⟨h1, h3⟩, letGo_other ⟨h1, h3⟩]
    simp

theorem feed_feed (s : In) (a b : List UInt8) : (s.feed a).feed b = s.feed (a ++ b) := by
  obtain ⟨h1, h2⟩ := letGo_app s.stand s.need a b
  unfold In.feed
  simp only [h1, h2, List.append_assoc]
theorem feed_nil (s : In) : s.feed [] = s := by
  have h : letGo s.stand s.need [] = (0, s.need) := by
    unfold letGo letGoLine
    split
    · simp
    · split <;> simp
  unfold In.feed
  rw [h]
  simp
end Go.Proofs.Ytcgpfhkndbggiaa

namespace Go.Proofs.Ytcgpfhkndbggiaa

/-- What the document's fields n, cr, ended are of an intake. -/
def RLike (s : In) (n : Int) (cr ed : Bool) : Prop :=
  (s.stand = 1 → s.need = if ed then 0 else if cr then 1 else 2) ∧ (s.stand = 2 → (s.need : Int) = n + 2) ∧ (s.stand = 3 → (s.need : Int) = n)

theorem find_one (c : UInt8) : find [c] = none := by
  unfold find
  rw [if_neg (by simp)]
  rfl
/-- One byte comes. -/
theorem feed_long {s : In} {c : UInt8} {n : Int} {cr : Bool} (h : RLike s n cr false) (hs : s.stand = 1) : (s.feed [c]).stand = 1 ∧ (s.feed [c]).held = s.held ∧ (s.feed [c]).most = s.most ∧ RLike (s.feed [c]) n (c == 13) (cr && c == 10) := by
  have hn := h.1 hs
  simp only [Bool.false_eq_true, if_false] at hn
  have e : letGo s.stand s.need [c] = (1, if cr && c == 10 then 0 else if c == 13 then 1 else 2) := by
    unfold letGo letGoLine
    rw [if_pos hs, if_neg (by rw [hn]; cases cr <;> simp)]
    cases cr with
    | true =>
      rw [hn]
      by_cases h10 : c = 10
      · rw [if_pos (by simp [h10]), h10]; rfl
      · rw [if_neg (by simp [h10]), lineEnd_none (find_one c)]
        have : (c == 10) = false := by simpa using h10
        simp [this]
    | false =>
      rw [hn, if_neg (by simp), lineEnd_none (find_one c)]
      simp
  have e1 : (s.feed [c]).need = if cr && c == 10 then 0 else if c == 13 then 1 else 2 := by unfold In.feed; rw [e]
  refine ⟨hs, ?_, rfl, ?_⟩
  · unfold In.feed
    rw [e]
    simp
  · refine ⟨fun _ => e1, fun h2 => ?_, fun h3 => ?_⟩
    · have : s.stand = 2 := h2; omega
    · have : s.stand = 3 := h3; omega
theorem feed_big {s : In} {c : UInt8} {n : Int} {cr ed : Bool} (h : RLike s n cr ed) (hs : s.stand = 3) (hn : 0 < n) : (s.feed [c]).stand = 3 ∧ (s.feed [c]).held = s.held ∧ (s.feed [c]).most = s.most ∧ RLike (s.feed [c]) (n - 1) cr ed := by
  have hn2 := h.2.2 hs
  have e : letGo s.stand s.need [c] = (1, s.need - 1) := by
    unfold letGo
    rw [if_neg (by omega), if_pos hs, show min s.need [c].length = 1 by simp; omega]
  refine ⟨hs, ?_, rfl, fun h1 => ?_, fun h2 => ?_, fun _ => ?_⟩
  · unfold In.feed
    rw [e]
    simp
  · have : s.stand = 1 := h1; omega
  · have : s.stand = 2 := h2; omega
  · unfold In.feed
    rw [e]
    show ((s.need - 1 : Nat) : Int) = n - 1
    omega
theorem feed_held {s : In} {c : UInt8} {n : Int} {cr ed : Bool} (h : RLike s n cr ed) (h1 : ¬ (s.stand = 1 ∧ ed = false)) (h2 : ¬ (s.stand = 3 ∧ 0 < n)) : (s.feed [c]).stand = s.stand ∧ (s.feed [c]).held = s.held ++ [c] ∧ (s.feed [c]).most = s.most ∧ RLike (s.feed [c]) n cr ed := by
  have e : letGo s.stand s.need [c] = (0, s.need) := by
    unfold letGo letGoLine
    split
    · rename_i hs
      have := h.1 hs
      cases ed with
      | false => exact absurd ⟨hs, rfl⟩ h1
      | true => rw [if_pos (.inl (by rw [this]; rfl))]
    · split
      · rename_i hs
        have := h.2.2 hs
        have h0 : s.need = 0 := by
          have : ¬ 0 < n := fun hn => h2 ⟨hs, hn⟩
          omega
        rw [h0]
        simp
      · rfl
  have e1 : (s.feed [c]).need = s.need := by unfold In.feed; rw [e]
  refine ⟨rfl, ?_, rfl, fun hs => ?_, fun hs => ?_, fun hs => ?_⟩
  · unfold In.feed
    rw [e]
    simp
  · rw [e1]; exact h.1 hs
  · rw [e1]; exact h.2.1 hs
  · rw [e1]; exact h.2.2 hs
theorem turn_fed (s : In) (st nd : Nat) : s.turn st nd = ({ s with stand := st, need := nd, held := [] } : In).feed s.held := by
  unfold In.turn In.feed
  simp
theorem feed_take (s : In) (b : List UInt8) (k : Nat) (c : UInt8) (h : b[k]? = some c) : s.feed (b.take (k + 1)) = (s.feed (b.take k)).feed [c] := by
  rw [feed_feed, List.take_add_one, h]
  rfl
end Go.Proofs.Ytcgpfhkndbggiaa
