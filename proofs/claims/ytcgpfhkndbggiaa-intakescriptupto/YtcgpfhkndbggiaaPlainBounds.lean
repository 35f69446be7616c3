/-
  What is held stays little: no memory in this text.
-/
import Derived.Test.YtcgpfhkndbggiaaPlain
namespace Go.Proofs.Ytcgpfhkndbggiaa

/-- What came is told, let go or held. -/
structure Acc (s : In) (mx : Int) (came told size : Nat) : Prop where
  most : s.most = mx
  stand : s.stand < 4
  need : s.need ≤ 4294967297
  line : s.stand = 0 → told + s.held.length ≤ came
  long : s.stand = 1 → s.need ≤ 2 ∧ told + 225 + s.held.length ≤ came + s.need ∧ (0 < s.need → s.held = [])
  body : s.stand = 2 → s.need = size + 2 ∧ (size : Int) ≤ mx ∧ told + s.held.length ≤ came
  big : s.stand = 3 → s.need ≤ size + 2 ∧ mx < (size : Int) ∧ told + (size + 2) + s.held.length ≤ came + s.need ∧ (0 < s.need → s.held = [])
/-- What may be held behind a Next that answered false. -/
def boundOf (s : In) (size : Nat) : Nat := if s.stand = 2 then size + 1 else 223
theorem Acc.held {s : In} {m : Int} {came told size : Nat} (h : Acc s m came told size) : told + s.held.length ≤ came := by
  have h1 := h.line
  have h2 := h.long
  have h3 := h.body
  have h4 := h.big
  have := h.stand
  rcases (by omega : s.stand = 0 ∨ s.stand = 1 ∨ s.stand = 2 ∨ s.stand = 3) with e | e | e | e
  · exact h1 e
  · have := h2 e; omega
  · have := h3 e; omega
  · have := h4 e; omega

theorem letGo_long {need : Nat} {b : List UInt8} (hn : need ≤ 2) (hp : 0 < need) :
    (letGo 1 need b).2 ≤ 2 ∧ need ≤ (letGo 1 need b).1 + (letGo 1 need b).2 ∧ (0 < (letGo 1 need b).2 → (letGo 1 need b).1 = b.length) := by
  unfold letGo
  rw [if_pos rfl]
  unfold letGoLine
  by_cases h1 : need = 0 ∨ b = []
  · rw [if_pos h1]
    exact ⟨hn, by simp, fun _ => by rcases h1 with h | h; omega; rw [h]; rfl⟩
  · rw [if_neg h1]
    have hb : 0 < b.length := List.length_pos_iff.2 (fun h => h1 (.inr h))
    by_cases h2 : need = 1 ∧ b.head? = some 10
    · rw [if_pos h2]
      exact ⟨Nat.zero_le _, by simp; omega, fun h => by simp at h⟩
    · rw [if_neg h2]
      cases hf : find b with
      | none =>
        rw [lineEnd_none hf]
        refine ⟨?_, ?_, fun _ => rfl⟩
        · show (if _ then 1 else 2) ≤ 2; split <;> omega
        · show need ≤ b.length + (if _ then 1 else 2); split <;> omega
      | some k =>
        rw [lineEnd_some hf]
        exact ⟨Nat.zero_le _, by simp; omega, fun h => by simp at h⟩
theorem letGo_done (b : List UInt8) : letGo 1 0 b = (0, 0) := by unfold letGo letGoLine; simp
theorem letGo_big (need : Nat) (b : List UInt8) : letGo 3 need b = (min need b.length, need - min need b.length) := by unfold letGo; simp
theorem letGo_other {st need : Nat} {b : List UInt8} (h : st ≠ 1 ∧ st ≠ 3) : letGo st need b = (0, need) := by unfold letGo; rw [if_neg h.1, if_neg h.2]

theorem Acc.feed {s : In} {m : Int} {came told size : Nat} (h : Acc s m came told size) (b : List UInt8) (hn : (letGo s.stand s.need b).2 ≤ 4294967297) : Acc (s.feed b) m (came + b.length) told size := by
  have hl := letGo_le s.stand s.need b
  have hlen : (s.feed b).held.length = s.held.length + (b.length - (letGo s.stand s.need b).1) := by simp [In.feed]
  refine ⟨h.most, h.stand, hn, fun e => ?_, fun e => ?_, fun e => ?_, fun e => ?_⟩
  · have e : s.stand = 0 := e
    have := h.line e
    rw [hlen]; omega
  · have e : s.stand = 1 := e
    obtain ⟨h1, h2, h3⟩ := h.long e
    show (letGo s.stand s.need b).2 ≤ 2 ∧ _ ≤ _ + (letGo s.stand s.need b).2 ∧ (0 < (letGo s.stand s.need b).2 → _)
    rw [hlen]
    rw [e] at hl ⊢
    by_cases h0 : s.need = 0
    · rw [h0, letGo_done] at hl ⊢
      rw [h0] at h2
      refine ⟨Nat.zero_le _, ?_, fun h => by simp at h⟩
      show _ ≤ came + b.length + 0
      omega
    · obtain ⟨g1, g2, g3⟩ := letGo_long (b := b) h1 (by omega)
      have hh := h3 (by omega)
      rw [hh] at h2 ⊢
      refine ⟨g1, by simp at h2 ⊢; omega, fun hp => ?_⟩
      show s.held ++ b.drop (letGo s.stand s.need b).1 = []
      rw [hh, e, g3 hp]; simp
  · have e : s.stand = 2 := e
    obtain ⟨h1, h2, h3⟩ := h.body e
    show (letGo s.stand s.need b).2 = _ ∧ _ ∧ _
    rw [hlen]
    rw [e, letGo_other (by omega)] at hl ⊢
    exact ⟨h1, h2, by omega⟩
  · have e : s.stand = 3 := e
    obtain ⟨h1, h2, h3, h4⟩ := h.big e
    show (letGo s.stand s.need b).2 ≤ _ ∧ _ ∧ _ ≤ _ + (letGo s.stand s.need b).2 ∧ (0 < (letGo s.stand s.need b).2 → _)
    rw [hlen]
    rw [e, letGo_big]
    refine ⟨by show s.need - _ ≤ _; omega, h2, ?_, fun hp => ?_⟩
    · show _ + (s.held.length + (b.length - min s.need b.length)) ≤ came + b.length + (s.need - min s.need b.length)
      by_cases h0 : s.need = 0
      · omega
      · have := h4 (by omega); rw [this] at h3 ⊢; simp at h3 ⊢; omega
    · have hp : 0 < s.need - min s.need b.length := hp
      show s.held ++ b.drop (letGo s.stand s.need b).1 = []
      rw [h4 (by omega), e, letGo_big]
      simp; omega

theorem Acc.body_ok {s : In} {m : Int} {came told size : Nat} (h : Acc s m came told size) (n : Nat) (h0 : s.stand = 0) (hn : n ≤ 4294967295) : Acc (s.body n) m came told n ∧ boundOf (s.body n) n = (if (n : Int) ≤ m then n + 1 else 223) := by
  have hl := h.line h0
  have hb : s.body n = s.turn (if (n : Int) > s.most then 3 else 2) (n + 2) := by
    unfold In.body
    rw [if_neg (by omega)]
    simp
  rw [hb, h.most]
  by_cases hm : (n : Int) > m
  · rw [if_pos hm, if_neg (by omega)]
    have hle := letGo_le 3 (n + 2) s.held
    have e1 : (s.turn 3 (n + 2)).need = n + 2 - min (n + 2) s.held.length := by show (letGo 3 (n + 2) s.held).2 = _; rw [letGo_big]
    have e2 : (s.turn 3 (n + 2)).held = s.held.drop (min (n + 2) s.held.length) := by show s.held.drop (letGo 3 (n + 2) s.held).1 = _; rw [letGo_big]
    refine ⟨⟨h.most, by show 3 < 4; omega, by rw [e1]; omega, (fun e => by cases e), (fun e => by cases e), (fun e => by cases e), fun _ => ?_⟩, rfl⟩
    rw [e1, e2]
    refine ⟨by omega, by omega, by simp; omega, fun hp => by simp; omega⟩
  · rw [if_neg hm, if_pos (by omega)]
    have e0 : letGo 2 (n + 2) s.held = (0, n + 2) := letGo_other (by omega)
    have e1 : (s.turn 2 (n + 2)).need = n + 2 := by show (letGo 2 (n + 2) s.held).2 = _; rw [e0]
    have e2 : (s.turn 2 (n + 2)).held = s.held := by show s.held.drop (letGo 2 (n + 2) s.held).1 = _; rw [e0]; rfl
    refine ⟨⟨h.most, by show 2 < 4; omega, by rw [e1]; omega, (fun e => by cases e), (fun e => by cases e), fun _ => ?_, (fun e => by cases e)⟩, rfl⟩
    rw [e1, e2]
    exact ⟨rfl, by omega, hl⟩

theorem find_take : ∀ {l : List UInt8} {k n : Nat}, find l = some k → k + 2 ≤ n → find (l.take n) = some k
  | [], _, _, h, _ => by cases h
  | x :: r, k, n, h, hn => by
    obtain ⟨n, rfl⟩ : ∃ j, n = j + 2 := ⟨n - 2, by omega⟩
    rw [show n + 2 = (n + 1) + 1 from rfl, List.take_succ_cons]
    have hhead : (r.take (n + 1)).head? = r.head? := by cases r <;> simp
    unfold find at h ⊢
    rw [hhead]
    by_cases hx : x = 13 ∧ r.head? = some 10
    · rw [if_pos hx] at h ⊢; exact h
    · rw [if_neg hx] at h ⊢
      cases hf : find r with
      | none => rw [hf] at h; cases h
      | some j =>
        rw [hf] at h
        obtain rfl : j + 1 = k := by simpa using h
        rw [find_take hf (by omega)]
        rfl

/-- How far an intake is from having nothing to tell. -/
def mu (s : In) : Nat := 2 * s.held.length + (if s.stand = 0 then 0 else 1)

theorem Acc.turned {s : In} {m : Int} {came told size : Nat} (h : Acc s m came told size) (h0 : s.stand = 0) (ht : s.tooLong = true) : Acc (s.turn 1 2) m came told size ∧ mu (s.turn 1 2) < mu s ∧ (s.turn 1 2).stand = 1 := by
  have hl := h.line h0
  obtain ⟨h1, h2⟩ := of_decide_eq_true ht
  have hle := letGo_le 1 2 s.held
  have hlen : (s.turn 1 2).held.length = s.held.length - (letGo 1 2 s.held).1 := by simp [In.turn]
  have hne : ¬ (2 = 0 ∨ s.held = []) := by
    rintro (h | h)
    · cases h
    · rw [h] at h1; simp at h1
  have key : letGo 1 2 s.held = lineEnd s.held := by
    unfold letGo letGoLine
    rw [if_pos rfl, if_neg hne, if_neg (by simp)]
  have hneed : (s.turn 1 2).need = (lineEnd s.held).2 := by show (letGo 1 2 s.held).2 = _; rw [key]
  have hheld : (s.turn 1 2).held = s.held.drop (lineEnd s.held).1 := by show s.held.drop (letGo 1 2 s.held).1 = _; rw [key]
  have hst : (s.turn 1 2).stand = 1 := rfl
  cases hf : find s.held with
  | none =>
    rw [lineEnd_none hf] at hneed hheld
    have hz : (s.turn 1 2).held = [] := by rw [hheld]; simp
    have hn : (s.turn 1 2).need = 1 ∨ (s.turn 1 2).need = 2 := by rw [hneed]; show (if _ then 1 else 2) = 1 ∨ (if _ then 1 else 2) = 2; split <;> simp
    refine ⟨⟨h.most, (show 1 < 4 by omega), by omega, (fun e => by cases e), fun _ => ⟨by omega, by rw [hz]; simp; omega, fun _ => hz⟩, (fun e => by cases e), (fun e => by cases e)⟩, ?_, rfl⟩
    unfold mu; rw [hz, h0, hst]; simp; omega
  | some k =>
    rw [lineEnd_some hf] at hneed hheld
    have hroom := find_room hf
    have hk : 225 ≤ k + 2 := by
      rcases Nat.lt_or_ge k 223 with hlt | hge
      · exfalso
        have h2' : find (s.held.take 224) = none := h2
        have h3 := find_some hf
        have : find (s.held.take 224) = some k := by
          have hft := find_take hf (show k + 2 ≤ 224 by omega)
          exact hft
        rw [this] at h2'; cases h2'
      · omega
    refine ⟨⟨h.most, (show 1 < 4 by omega), by rw [hneed]; omega, (fun e => by cases e), fun _ => ⟨by rw [hneed]; simp, by rw [hneed, hheld]; simp; omega, fun hp => by rw [hneed] at hp; simp at hp⟩, (fun e => by cases e), (fun e => by cases e)⟩, ?_, rfl⟩
    unfold mu; rw [hheld, h0, hst]; simp; omega

theorem Acc.zero {s : In} {m : Int} {came told size : Nat} (h0 : s.stand = 0) (hm : s.most = m) (hn : s.need ≤ 4294967297) (hl : told + s.held.length ≤ came) : Acc s m came told size :=
  ⟨hm, by omega, hn, fun _ => hl, (fun e => by omega), (fun e => by omega), (fun e => by omega)⟩
/-- What is told, and what stands then. -/
def Tale (s : In) (m : Int) (came told size : Nat) (r : Told × In) : Prop :=
  (r.1.kind = 0 ∧ Acc r.2 m came told size ∧ r.2.held.length ≤ boundOf r.2 size ∧ boundOf r.2 size = boundOf s size) ∨
  (r.1.kind = 1 ∧ r.1.text.length ≤ 222 ∧ find r.1.text = none ∧ Acc r.2 m came (told + (r.1.text.length + 2)) size ∧ r.2.stand = 0 ∧ mu r.2 < mu s) ∨
  (r.1.kind = 2 ∧ Acc r.2 m came (told + 225) size ∧ r.2.stand = 0 ∧ mu r.2 < mu s) ∨
  (((r.1.kind = 3 ∧ r.1.body.length = size) ∨ r.1.kind = 5) ∧ (size : Int) ≤ m ∧ Acc r.2 m came (told + (size + 2)) size ∧ r.2.stand = 0 ∧ mu r.2 < mu s) ∨
  (r.1.kind = 4 ∧ m < (size : Int) ∧ Acc r.2 m came (told + (size + 2)) size ∧ r.2.stand = 0 ∧ mu r.2 < mu s)

theorem Acc.tellLong {s : In} {m : Int} {came told size : Nat} (h : Acc s m came told size) (h1 : s.stand = 1) : Tale s m came told size (s.tellLoss 2) := by
  obtain ⟨g1, g2, g3⟩ := h.long h1
  by_cases hn : 0 < s.need
  · have e : s.tellLoss 2 = (.none, s) := by unfold In.tellLoss; rw [if_pos hn]
    rw [e]
    exact .inl ⟨rfl, h, by show s.held.length ≤ _; rw [g3 hn]; simp, rfl⟩
  · have e : s.tellLoss 2 = (⟨2, [], []⟩, { s with stand := 0 }) := by unfold In.tellLoss; rw [if_neg hn]
    rw [e]
    refine .inr (.inr (.inl ⟨rfl, Acc.zero rfl h.most h.need ?_, rfl, ?_⟩))
    · show told + 225 + s.held.length ≤ came; omega
    · show 2 * s.held.length + 0 < mu s; unfold mu; rw [if_neg (by omega)]; omega
theorem Acc.tellBig {s : In} {m : Int} {came told size : Nat} (h : Acc s m came told size) (h1 : s.stand = 3) : Tale s m came told size (s.tellLoss 4) := by
  obtain ⟨g1, g2, g3, g4⟩ := h.big h1
  by_cases hn : 0 < s.need
  · have e : s.tellLoss 4 = (.none, s) := by unfold In.tellLoss; rw [if_pos hn]
    rw [e]
    exact .inl ⟨rfl, h, by show s.held.length ≤ _; rw [g4 hn]; simp, rfl⟩
  · have e : s.tellLoss 4 = (⟨4, [], []⟩, { s with stand := 0 }) := by unfold In.tellLoss; rw [if_neg hn]
    rw [e]
    refine .inr (.inr (.inr (.inr ⟨rfl, g2, Acc.zero rfl h.most h.need ?_, rfl, ?_⟩)))
    · show told + (size + 2) + s.held.length ≤ came; omega
    · show 2 * s.held.length + 0 < mu s; unfold mu; rw [if_neg (by omega)]; omega
theorem Acc.tellBodyA {s : In} {m : Int} {came told size : Nat} (h : Acc s m came told size) (h2 : s.stand = 2) : Tale s m came told size s.tellBody := by
  obtain ⟨g1, g2, g3⟩ := h.body h2
  by_cases hn : s.held.length < s.need
  · have e : s.tellBody = (.none, s) := by unfold In.tellBody; rw [if_pos hn]
    rw [e]
    refine .inl ⟨rfl, h, ?_, rfl⟩
    show s.held.length ≤ boundOf s size
    unfold boundOf; rw [if_pos h2]; omega
  · have hz : Acc { s with stand := 0, held := s.held.drop s.need } m came (told + (size + 2)) size := Acc.zero rfl h.most h.need (by show told + (size + 2) + (s.held.drop s.need).length ≤ came; simp; omega)
    have hmu : mu { s with stand := 0, held := s.held.drop s.need } < mu s := by
      show 2 * (s.held.drop s.need).length + 0 < mu s
      unfold mu; rw [if_neg (by omega)]; simp; omega
    by_cases hs : Lib.hasSuffix (s.held.take s.need) [13, 10] = true
    · have e : s.tellBody = (⟨3, [], s.held.take (s.need - 2)⟩, { s with stand := 0, held := s.held.drop s.need }) := by unfold In.tellBody; rw [if_neg hn, if_pos hs]
      rw [e]
      exact .inr (.inr (.inr (.inl ⟨.inl ⟨rfl, by show (s.held.take (s.need - 2)).length = size; simp; omega⟩, g2, hz, rfl, hmu⟩)))
    · have e : s.tellBody = (⟨5, [], []⟩, { s with stand := 0, held := s.held.drop s.need }) := by unfold In.tellBody; rw [if_neg hn, if_neg hs]
      rw [e]
      exact .inr (.inr (.inr (.inl ⟨.inr rfl, g2, hz, rfl, hmu⟩)))
theorem Acc.tellLineA {s : In} {m : Int} {came told size : Nat} (h : Acc s m came told size) (h0 : s.stand = 0) (ht : ¬ s.tooLong = true) : Tale s m came told size s.tellLine := by
  have hl := h.line h0
  cases hf : find s.window with
  | none =>
    have e : s.tellLine = (.none, s) := by unfold In.tellLine; rw [hf]
    rw [e]
    refine .inl ⟨rfl, h, ?_, rfl⟩
    show s.held.length ≤ boundOf s size
    have : s.held.length < 224 := Nat.lt_of_not_le fun h2 => ht (decide_eq_true ⟨h2, hf⟩)
    unfold boundOf; rw [if_neg (by omega)]; omega
  | some k =>
    have hr : k + 2 ≤ (s.held.take 224).length := find_room hf
    have hr1 := hr
    rw [List.length_take] at hr1
    have e : s.tellLine = (⟨1, s.held.take k, []⟩, { s with held := s.held.drop (k + 2) }) := by unfold In.tellLine; rw [hf]
    have hff : find (s.held.take k) = none := by
      have := find_first hf
      unfold In.window at this
      rwa [List.take_take, Nat.min_eq_left (by omega)] at this
    have hlen : (s.held.take k).length = k := by simp; omega
    rw [e]
    refine .inr (.inl ⟨rfl, by show (s.held.take k).length ≤ 222; omega, hff, Acc.zero h0 h.most h.need ?_, h0, ?_⟩)
    · show told + ((s.held.take k).length + 2) + (s.held.drop (k + 2)).length ≤ came
      rw [hlen]; simp; omega
    · show 2 * (s.held.drop (k + 2)).length + (if s.stand = 0 then 0 else 1) < mu s
      unfold mu; simp; omega
theorem Tale.of_turn {s t : In} {m : Int} {came told size : Nat} {r : Told × In} (h : Tale t m came told size r) (hmu : mu t < mu s) (hb : boundOf t size = boundOf s size) : Tale s m came told size r := by
  rcases h with ⟨a, b, c, d⟩ | ⟨a, b, c, d, e, f⟩ | ⟨a, b, c, d⟩ | ⟨a, b, c, d, e⟩ | ⟨a, b, c, d, e⟩
  · exact .inl ⟨a, b, c, d.trans hb⟩
  · exact .inr (.inl ⟨a, b, c, d, e, by omega⟩)
  · exact .inr (.inr (.inl ⟨a, b, c, by omega⟩))
  · exact .inr (.inr (.inr (.inl ⟨a, b, c, d, by omega⟩)))
  · exact .inr (.inr (.inr (.inr ⟨a, b, c, d, by omega⟩)))
theorem Acc.next {s : In} {m : Int} {came told size : Nat} (h : Acc s m came told size) : Tale s m came told size s.next := by
  have hst := h.stand
  unfold In.next
  by_cases ht : s.stand = 0 ∧ s.tooLong = true
  · rw [if_pos ht]
    obtain ⟨h1, h2, h3⟩ := h.turned ht.1 ht.2
    have e : (s.turn 1 2).tell = (s.turn 1 2).tellLoss 2 := by unfold In.tell; rw [if_neg (by omega), if_pos h3]
    rw [e]
    refine Tale.of_turn (h1.tellLong h3) h2 ?_
    unfold boundOf; rw [if_neg (by omega), if_neg (by omega)]
  · rw [if_neg ht]
    unfold In.tell
    by_cases h0 : s.stand = 0
    · rw [if_pos h0]
      exact h.tellLineA h0 (fun h => ht ⟨h0, h⟩)
    · rw [if_neg h0]
      by_cases h1 : s.stand = 1
      · rw [if_pos h1]; exact h.tellLong h1
      · rw [if_neg h1]
        by_cases h2 : s.stand = 2
        · rw [if_pos h2]; exact h.tellBodyA h2
        · rw [if_neg h2]; exact h.tellBig (by omega)
end Go.Proofs.Ytcgpfhkndbggiaa
