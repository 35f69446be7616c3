/-
  How bytes are cut is not seen: no memory in this text.
-/
import Derived.Test.YtcgpfhkndbggiaaPlainBounds
import Derived.Test.YtcgpfhkndbggiaaNext
import Derived.Test.YtcgpfhkndbggiaaRefPure6
namespace Go.Proofs.Ytcgpfhkndbggiaa

/-- At a line: what turns it, and what comes. -/
theorem turn_feed (s : In) (h : s.stand = 0) (st nd : Nat) (r : List UInt8) : (s.feed r).turn st nd = (s.turn st nd).feed r := by
  obtain ⟨h1, h2⟩ := letGo_app st nd s.held r
  have e : s.feed r = { s with held := s.held ++ r } := by
    unfold In.feed
    rw [letGo_other (by omega)]
    simp
  rw [e]
  unfold In.turn In.feed
  simp only [h1, h2]
theorem body_feed (s : In) (h : s.stand = 0) (n : Int) (r : List UInt8) : (s.feed r).body n = (s.body n).feed r := by
  unfold In.body
  by_cases hn : n < 0 ∨ n > 4294967295 ∨ s.stand ≠ 0
  · rw [if_pos (show n < 0 ∨ n > 4294967295 ∨ (s.feed r).stand ≠ 0 from hn), if_pos hn]
  · rw [if_neg (show ¬ (n < 0 ∨ n > 4294967295 ∨ (s.feed r).stand ≠ 0) from hn), if_neg hn]
    exact turn_feed s h _ _ r

theorem tell_long {t : In} (h : t.stand = 1) : t.tell = t.tellLoss 2 := by unfold In.tell; rw [if_neg (by omega), if_pos h]
/-- A Next that told something goes on alike, whatever came behind. -/
theorem next_more (s : In) (hst : s.stand < 4) (r : List UInt8) (h : s.next.1.kind ≠ 0) : (s.feed r).next = (s.next.1, s.next.2.feed r) := by
  have hft : (s.feed r).stand = s.stand := rfl
  by_cases h0 : s.stand = 0
  · have ef : s.feed r = { s with held := s.held ++ r } := by unfold In.feed; rw [letGo_other (by omega)]; simp
    by_cases ht : s.tooLong = true
    · obtain ⟨g1, g2⟩ := of_decide_eq_true ht
      have hw : (s.feed r).window = s.window := by
        rw [ef]
        show (s.held ++ r).take 224 = s.held.take 224
        exact List.take_append_of_le_length g1
      have ht2 : (s.feed r).tooLong = true := decide_eq_true ⟨by rw [ef]; show 224 ≤ (s.held ++ r).length; simp; omega, by rw [hw]; exact g2⟩
      rw [In.next_turn h0 ht] at h ⊢
      rw [In.next_turn (hft.trans h0) ht2, turn_feed s h0]
      have e1 : (s.turn 1 2).tell = (s.turn 1 2).tellLoss 2 := tell_long rfl
      have e2 : ((s.turn 1 2).feed r).tell = ((s.turn 1 2).feed r).tellLoss 2 := tell_long rfl
      rw [e1] at h ⊢
      rw [e2]
      by_cases hn : 0 < (s.turn 1 2).need
      · exfalso; unfold In.tellLoss at h; rw [if_pos hn] at h; exact h rfl
      · have hz : (s.turn 1 2).need = 0 := by omega
        have hz2 : letGo (s.turn 1 2).stand (s.turn 1 2).need r = (0, 0) := by rw [hz]; exact letGo_done r
        have ef2 : (s.turn 1 2).feed r = { s.turn 1 2 with need := 0, held := (s.turn 1 2).held ++ r } := by unfold In.feed; rw [hz2]; simp
        have e3 : (s.turn 1 2).tellLoss 2 = (⟨2, [], []⟩, { s.turn 1 2 with stand := 0 }) := by unfold In.tellLoss; rw [if_neg hn]
        have e4 : ((s.turn 1 2).feed r).tellLoss 2 = (⟨2, [], []⟩, { (s.turn 1 2).feed r with stand := 0 }) := by unfold In.tellLoss; rw [if_neg (by rw [ef2]; simp)]
        rw [e3, e4, ef2]
        have e5 : ({ s.turn 1 2 with stand := 0 } : In).feed r = { s.turn 1 2 with stand := 0, held := (s.turn 1 2).held ++ r } := by
          unfold In.feed; rw [letGo_other (show (0 : Nat) ≠ 1 ∧ (0 : Nat) ≠ 3 by decide)]; simp
        rw [e5, ← hz]
    · have hnt : ¬ (s.stand = 0 ∧ s.tooLong = true) := fun e => ht e.2
      rw [In.next_tell hnt] at h ⊢
      have e1 : s.tell = s.tellLine := by unfold In.tell; rw [if_pos h0]
      rw [e1] at h ⊢
      cases hf : find s.window with
      | none => exfalso; unfold In.tellLine at h; rw [hf] at h; exact h rfl
      | some k =>
        have hroom : k + 2 ≤ (s.held.take 224).length := find_room hf
        rw [List.length_take] at hroom
        have hw : find (s.feed r).window = some k := by
          rw [ef]
          show find ((s.held ++ r).take 224) = some k
          have hx : find (s.held ++ r) = some k := by
            have := find_append (s.held.drop 224 ++ r) hf
            rwa [show s.window ++ (s.held.drop 224 ++ r) = s.held ++ r by rw [← List.append_assoc]; unfold In.window; rw [List.take_append_drop]] at this
          exact find_take hx (by omega)
        have hnt2 : ¬ ((s.feed r).stand = 0 ∧ (s.feed r).tooLong = true) := fun e => by
          have := (of_decide_eq_true e.2).2
          rw [hw] at this; cases this
        rw [In.next_tell hnt2]
        have e2 : (s.feed r).tell = (s.feed r).tellLine := by unfold In.tell; rw [if_pos (hft.trans h0)]
        have e3 : s.tellLine = (⟨1, s.held.take k, []⟩, { s with held := s.held.drop (k + 2) }) := by unfold In.tellLine; rw [hf]
        have e4 : (s.feed r).tellLine = (⟨1, (s.feed r).held.take k, []⟩, { s.feed r with held := (s.feed r).held.drop (k + 2) }) := by unfold In.tellLine; rw [hw]
        rw [e2, e3, e4, ef]
        have e5 : ({ s with held := s.held.drop (k + 2) } : In).feed r = { s with held := s.held.drop (k + 2) ++ r } := by
          unfold In.feed; rw [letGo_other (show s.stand ≠ 1 ∧ s.stand ≠ 3 by omega)]; simp
        rw [e5]
        simp only [List.take_append_of_le_length (show k ≤ s.held.length by omega), List.drop_append_of_le_length (show k + 2 ≤ s.held.length by omega)]
  · have hnt : ¬ (s.stand = 0 ∧ s.tooLong = true) := fun e => h0 e.1
    have hnt2 : ¬ ((s.feed r).stand = 0 ∧ (s.feed r).tooLong = true) := fun e => h0 e.1
    rw [In.next_tell hnt] at h ⊢
    rw [In.next_tell hnt2]
    by_cases h2 : s.stand = 2
    · have ef : s.feed r = { s with held := s.held ++ r } := by unfold In.feed; rw [letGo_other (by omega)]; simp
      have e1 : s.tell = s.tellBody := by unfold In.tell; rw [if_neg h0, if_neg (by omega), if_pos h2]
      have e2 : (s.feed r).tell = (s.feed r).tellBody := by unfold In.tell; rw [if_neg (by rw [hft]; exact h0), if_neg (by rw [hft]; omega), if_pos (hft.trans h2)]
      rw [e1] at h ⊢
      rw [e2]
      by_cases hn : s.held.length < s.need
      · exfalso; unfold In.tellBody at h; rw [if_pos hn] at h; exact h rfl
      · have e3 : s.tellBody = (if Lib.hasSuffix (s.held.take s.need) [13, 10] then ⟨3, [], s.held.take (s.need - 2)⟩ else ⟨5, [], []⟩, { s with stand := 0, held := s.held.drop s.need }) := by unfold In.tellBody; rw [if_neg hn]
        have e4 : (s.feed r).tellBody = (if Lib.hasSuffix ((s.held ++ r).take s.need) [13, 10] then ⟨3, [], (s.held ++ r).take (s.need - 2)⟩ else ⟨5, [], []⟩, { s with stand := 0, held := (s.held ++ r).drop s.need }) := by
          rw [ef]
          unfold In.tellBody
          rw [if_neg (by show ¬ (s.held ++ r).length < s.need; simp; omega)]
        have e5 : ({ s with stand := 0, held := s.held.drop s.need } : In).feed r = { s with stand := 0, held := s.held.drop s.need ++ r } := by
          unfold In.feed; rw [letGo_other (show (0 : Nat) ≠ 1 ∧ (0 : Nat) ≠ 3 by decide)]; simp
        rw [e3, e4, e5, List.take_append_of_le_length (by omega), List.take_append_of_le_length (by omega), List.drop_append_of_le_length (by omega)]
    · obtain ⟨kd, hkd, e1, e2⟩ : ∃ kd : Int, kd ≠ 0 ∧ s.tell = s.tellLoss kd ∧ (s.feed r).tell = (s.feed r).tellLoss kd := by
        by_cases h1 : s.stand = 1
        · exact ⟨2, by decide, by unfold In.tell; rw [if_neg h0, if_pos h1], by unfold In.tell; rw [if_neg (by rw [hft]; exact h0), if_pos (hft.trans h1)]⟩
        · exact ⟨4, by decide, by unfold In.tell; rw [if_neg h0, if_neg h1, if_neg h2], by unfold In.tell; rw [if_neg (by rw [hft]; exact h0), if_neg (by rw [hft]; exact h1), if_neg (by rw [hft]; exact h2)]⟩
      rw [e1] at h ⊢
      rw [e2]
      by_cases hn : 0 < s.need
      · exfalso; unfold In.tellLoss at h; rw [if_pos hn] at h; exact h rfl
      · have hz : s.need = 0 := by omega
        have hg : letGo s.stand s.need r = (0, 0) := by
          rw [hz]
          rcases (by omega : s.stand = 1 ∨ s.stand = 3) with e | e
          · rw [e]; exact letGo_done r
          · rw [e, letGo_big]; simp
        have ef : s.feed r = { s with need := 0, held := s.held ++ r } := by unfold In.feed; rw [hg]; simp
        have e3 : s.tellLoss kd = (⟨kd, [], []⟩, { s with stand := 0 }) := by unfold In.tellLoss; rw [if_neg hn]
        have e4 : (s.feed r).tellLoss kd = (⟨kd, [], []⟩, { s.feed r with stand := 0 }) := by unfold In.tellLoss; rw [if_neg (by rw [ef]; simp)]
        have e5 : ({ s with stand := 0 } : In).feed r = { s with stand := 0, held := s.held ++ r } := by
          unfold In.feed; rw [letGo_other (show (0 : Nat) ≠ 1 ∧ (0 : Nat) ≠ 3 by decide)]; simp
        rw [e3, e4, e5, ef, ← hz]
/-- A Next that told nothing is not seen. -/
theorem next_same (s : In) (r : List UInt8) (h : s.next.1.kind = 0) : (s.next.2.feed r).next = (s.feed r).next := by
  by_cases ht : s.stand = 0 ∧ s.tooLong = true
  · obtain ⟨g1, g2⟩ := of_decide_eq_true ht.2
    have ef : s.feed r = { s with held := s.held ++ r } := by unfold In.feed; rw [letGo_other (by omega)]; simp
    have hw : (s.feed r).window = s.window := by
      rw [ef]
      show (s.held ++ r).take 224 = s.held.take 224
      exact List.take_append_of_le_length g1
    have ht2 : (s.feed r).tooLong = true := decide_eq_true ⟨by rw [ef]; show 224 ≤ (s.held ++ r).length; simp; omega, by rw [hw]; exact g2⟩
    rw [In.next_turn ht.1 ht.2] at h ⊢
    rw [In.next_turn (show (s.feed r).stand = 0 from ht.1) ht2, turn_feed s ht.1]
    have e1 : (s.turn 1 2).tell = (s.turn 1 2).tellLoss 2 := tell_long rfl
    rw [e1] at h ⊢
    by_cases hn : 0 < (s.turn 1 2).need
    · have e3 : (s.turn 1 2).tellLoss 2 = (.none, s.turn 1 2) := by unfold In.tellLoss; rw [if_pos hn]
      rw [e3]
      exact In.next_tell (fun e => by cases e.1)
    · unfold In.tellLoss at h; rw [if_neg hn] at h; cases h
  · have hs : s.next.2 = s := by
      rw [In.next_tell ht] at h ⊢
      have loss : ∀ kd : Int, kd ≠ 0 → (s.tellLoss kd).1.kind = 0 → (s.tellLoss kd).2 = s := fun kd hkd hk => by
        unfold In.tellLoss at hk ⊢
        by_cases hn : 0 < s.need
        · rw [if_pos hn]
        · rw [if_neg hn] at hk; exact absurd hk hkd
      unfold In.tell at h ⊢
      by_cases h0 : s.stand = 0
      · rw [if_pos h0] at h ⊢
        cases hf : find s.window with
        | none => unfold In.tellLine; rw [hf]
        | some k => unfold In.tellLine at h; rw [hf] at h; cases h
      · rw [if_neg h0] at h ⊢
        by_cases h1 : s.stand = 1
        · rw [if_pos h1] at h ⊢; exact loss 2 (by decide) h
        · rw [if_neg h1] at h ⊢
          by_cases h2 : s.stand = 2
          · rw [if_pos h2] at h ⊢
            by_cases hn : s.held.length < s.need
            · unfold In.tellBody; rw [if_pos hn]
            · exfalso
              unfold In.tellBody at h
              rw [if_neg hn] at h
              by_cases hsf : Lib.hasSuffix (s.held.take s.need) [13, 10] = true
              · rw [if_pos hsf] at h; cases h
              · rw [if_neg hsf] at h; cases h
          · rw [if_neg h2] at h ⊢; exact loss 4 (by decide) h
    rw [hs]

/-- What a reader does behind an item that was told. -/
def after (sz : List Int) (r : Told × In) (n : Nat) : In × Nat := if r.1.kind = 1 then ((match sz[n]? with | some m => r.2.body m | none => r.2), n + 1) else (r.2, n)
/-- What a reader tells, till there is nothing more. -/
def Drains (sz : List Int) (s : In) (n : Nat) : List Told → In → Nat → Prop
  | [], s', n' => s.next.1.kind = 0 ∧ s' = s.next.2 ∧ n' = n
  | t :: its, s', n' => s.next.1 = t ∧ t.kind ≠ 0 ∧ Drains sz (after sz s.next n).1 (after sz s.next n).2 its s' n'
theorem Drains.congr {sz : List Int} {s q : In} (h : s.next = q.next) {n : Nat} : ∀ {its : List Told} {s' : In} {n' : Nat}, Drains sz s n its s' n' → Drains sz q n its s' n'
  | [], _, _, ⟨a, b, c⟩ => ⟨by rw [← h]; exact a, by rw [← h]; exact b, c⟩
  | _ :: _, _, _, ⟨a, b, c⟩ => ⟨by rw [← h]; exact a, b, by rw [← h]; exact c⟩
theorem Drains.one {sz : List Int} : ∀ {s : In} {n : Nat} {i1 i2 : List Told} {a b : In} {n1 n2 : Nat}, Drains sz s n i1 a n1 → Drains sz s n i2 b n2 → i1 = i2 ∧ a = b ∧ n1 = n2
  | _, _, [], [], _, _, _, _, ⟨_, b, c⟩, ⟨_, e, f⟩ => ⟨rfl, b.trans e.symm, c.trans f.symm⟩
  | _, _, [], _ :: _, _, _, _, _, ⟨a, _, _⟩, ⟨d, e, _⟩ => absurd (by rw [← d]; exact a) e
  | _, _, _ :: _, [], _, _, _, _, ⟨d, e, _⟩, ⟨a, _, _⟩ => absurd (by rw [← d]; exact a) e
  | _, _, _ :: _, _ :: _, _, _, _, _, ⟨a, _, c⟩, ⟨d, _, f⟩ => by
    obtain ⟨h1, h2, h3⟩ := Drains.one c f
    exact ⟨by rw [← a, ← d, h1], h2, h3⟩
theorem next_stand {s : In} (h : s.next.1.kind ≠ 0) : s.next.2.stand = 0 := by
  have loss : ∀ (t : In) (kd : Int), (t.tellLoss kd).1.kind ≠ 0 → (t.tellLoss kd).2.stand = 0 := fun t kd hk => by
    unfold In.tellLoss at hk ⊢
    by_cases hn : 0 < t.need
    · rw [if_pos hn] at hk; exact absurd rfl hk
    · rw [if_neg hn]
  by_cases ht : s.stand = 0 ∧ s.tooLong = true
  · rw [In.next_turn ht.1 ht.2] at h ⊢
    rw [tell_long (t := s.turn 1 2) rfl] at h ⊢
    exact loss _ _ h
  · rw [In.next_tell ht] at h ⊢
    unfold In.tell at h ⊢
    by_cases h0 : s.stand = 0
    · rw [if_pos h0] at h ⊢
      cases hf : find s.window with
      | none => unfold In.tellLine; rw [hf]; exact h0
      | some k => unfold In.tellLine; rw [hf]; exact h0
    · rw [if_neg h0] at h ⊢
      by_cases h1 : s.stand = 1
      · rw [if_pos h1] at h ⊢; exact loss _ _ h
      · rw [if_neg h1] at h ⊢
        by_cases h2 : s.stand = 2
        · rw [if_pos h2] at h ⊢
          by_cases hn : s.held.length < s.need
          · unfold In.tellBody at h; rw [if_pos hn] at h; exact absurd rfl h
          · unfold In.tellBody; rw [if_neg hn]
        · rw [if_neg h2] at h ⊢; exact loss _ _ h
theorem body_stand {s : In} (h : s.stand < 4) (n : Int) : (s.body n).stand < 4 := by
  unfold In.body
  split
  · exact h
  · show (if n > s.most then 3 else 2) < 4; split <;> omega
theorem after_stand {sz : List Int} {s : In} {n : Nat} (h : s.next.1.kind ≠ 0) : (after sz s.next n).1.stand < 4 := by
  have h0 := next_stand h
  unfold after
  split
  · show (match sz[n]? with | some m => s.next.2.body m | none => s.next.2).stand < 4
    cases sz[n]? with
    | none => show s.next.2.stand < 4; omega
    | some m => exact body_stand (by omega) m
  · show s.next.2.stand < 4; omega
theorem after_feed {sz : List Int} {s : In} {n : Nat} (hst : s.stand < 4) (r : List UInt8) (h : s.next.1.kind ≠ 0) : after sz (s.feed r).next n = ((after sz s.next n).1.feed r, (after sz s.next n).2) := by
  have h0 := next_stand h
  rw [next_more s hst r h]
  unfold after
  by_cases hk : s.next.1.kind = 1
  · rw [if_pos hk, if_pos hk]
    cases sz[n]? with
    | none => rfl
    | some m => simp only [body_feed _ h0]
  · rw [if_neg hk, if_neg hk]
/-- What is told first, and what is told when more has come, is what is told of all. -/
theorem Drains.feed {sz : List Int} (r : List UInt8) : ∀ {i1 : List Told} {s s1 s2 : In} {n n1 n2 : Nat} {i2 : List Told}, s.stand < 4 → Drains sz s n i1 s1 n1 → Drains sz (s1.feed r) n1 i2 s2 n2 → Drains sz (s.feed r) n (i1 ++ i2) s2 n2
  | [], s, _, _, _, _, _, _, _, ⟨a, b, c⟩, h => by
    subst b c
    exact h.congr (next_same s r a)
  | t :: i1, s, _, _, n, _, _, i2, hst, ⟨a, b, c⟩, h => by
    have hk : s.next.1.kind ≠ 0 := by rw [a]; exact b
    refine ⟨by rw [next_more s hst r hk]; exact a, b, ?_⟩
    rw [after_feed hst r hk]
    exact Drains.feed r (after_stand hk) c h

theorem next_less {s : In} (h : s.next.1.kind ≠ 0) : (s.next.1.kind = 1 → s.next.2.held.length + 2 ≤ s.held.length) ∧ mu s.next.2 + 1 ≤ mu s := by
  have h0 := next_stand h
  have loss : ∀ (t : In) (kd : Int), kd ≠ 1 → t.stand ≠ 0 → (t.tellLoss kd).1.kind ≠ 0 → ((t.tellLoss kd).1.kind = 1 → (t.tellLoss kd).2.held.length + 2 ≤ t.held.length) ∧ mu (t.tellLoss kd).2 + 1 ≤ mu t := fun t kd hkd hst hk => by
    unfold In.tellLoss at hk ⊢
    by_cases hn : 0 < t.need
    · rw [if_pos hn] at hk; exact absurd rfl hk
    · rw [if_neg hn]
      refine ⟨fun e => absurd e hkd, ?_⟩
      show 2 * t.held.length + 0 + 1 ≤ mu t
      unfold mu; rw [if_neg hst]; omega
  by_cases ht : s.stand = 0 ∧ s.tooLong = true
  · rw [In.next_turn ht.1 ht.2] at h ⊢
    rw [tell_long (t := s.turn 1 2) rfl] at h ⊢
    obtain ⟨g1, g2⟩ := loss (s.turn 1 2) 2 (by decide) (by show (1 : Nat) ≠ 0; decide) h
    have hlen : (s.turn 1 2).held.length + 1 ≤ s.held.length := by
      obtain ⟨w1, w2⟩ := of_decide_eq_true ht.2
      have key : letGo 1 2 s.held = lineEnd s.held := by
        unfold letGo letGoLine
        rw [if_pos rfl, if_neg (by rintro (e | e); cases e; rw [e] at w1; simp at w1), if_neg (by simp)]
      show (s.held.drop (letGo 1 2 s.held).1).length + 1 ≤ _
      rw [key]
      cases hf : find s.held with
      | none => rw [lineEnd_none hf]; simp; omega
      | some k => rw [lineEnd_some hf]; have := find_room hf; simp; omega
    have hmu : mu (s.turn 1 2) + 1 ≤ mu s := by
      unfold mu; rw [if_neg (show ¬ (s.turn 1 2).stand = 0 by show ¬ (1 : Nat) = 0; decide), if_pos ht.1]; omega
    refine ⟨fun e => ?_, by omega⟩
    have := g1 e; omega
  · rw [In.next_tell ht] at h ⊢
    unfold In.tell at h ⊢
    by_cases h0 : s.stand = 0
    · rw [if_pos h0] at h ⊢
      cases hf : find s.window with
      | none => unfold In.tellLine at h; rw [hf] at h; exact absurd rfl h
      | some k =>
        have hr : k + 2 ≤ (s.held.take 224).length := find_room hf
        rw [List.length_take] at hr
        have e : s.tellLine = (⟨1, s.held.take k, []⟩, { s with held := s.held.drop (k + 2) }) := by unfold In.tellLine; rw [hf]
        rw [e]
        refine ⟨fun _ => by show (s.held.drop (k + 2)).length + 2 ≤ _; simp; omega, ?_⟩
        show 2 * (s.held.drop (k + 2)).length + (if s.stand = 0 then 0 else 1) + 1 ≤ mu s
        unfold mu; simp; omega
    · rw [if_neg h0] at h ⊢
      by_cases h1 : s.stand = 1
      · rw [if_pos h1] at h ⊢; exact loss s 2 (by decide) h0 h
      · rw [if_neg h1] at h ⊢
        by_cases h2 : s.stand = 2
        · rw [if_pos h2] at h ⊢
          by_cases hn : s.held.length < s.need
          · unfold In.tellBody at h; rw [if_pos hn] at h; exact absurd rfl h
          · have e2 : s.tellBody.2 = { s with stand := 0, held := s.held.drop s.need } := by unfold In.tellBody; rw [if_neg hn]
            have e1 : s.tellBody.1.kind = 3 ∨ s.tellBody.1.kind = 5 := by
              unfold In.tellBody; rw [if_neg hn]
              by_cases hsf : Lib.hasSuffix (s.held.take s.need) [13, 10] = true
              · rw [if_pos hsf]; exact .inl rfl
              · rw [if_neg hsf]; exact .inr rfl
            refine ⟨fun e => (by rw [e] at e1; rcases e1 with e1 | e1 <;> simp at e1), ?_⟩
            rw [e2]
            show 2 * (s.held.drop s.need).length + 0 + 1 ≤ mu s
            unfold mu; rw [if_neg h0]; simp; omega
        · rw [if_neg h2] at h ⊢; exact loss s 4 (by decide) h0 h
theorem next_fit {s : In} (h : s.Fit) : s.next.2.Fit ∧ s.next.2.held.length ≤ s.held.length := by
  have loss : ∀ (t : In) (kd : Int), t.Fit → (t.tellLoss kd).2.Fit ∧ (t.tellLoss kd).2.held.length ≤ t.held.length := fun t kd ht => by
    unfold In.tellLoss
    by_cases hn : 0 < t.need
    · rw [if_pos hn]; exact ⟨ht, Nat.le_refl _⟩
    · rw [if_neg hn]; exact ⟨⟨by show 0 < 4; omega, ht.need, ht.held⟩, Nat.le_refl _⟩
  by_cases ht : s.stand = 0 ∧ s.tooLong = true
  · rw [In.next_turn ht.1 ht.2, tell_long (t := s.turn 1 2) rfl]
    obtain ⟨g1, g2⟩ := loss (s.turn 1 2) 2 (In.turn_fit h 1 2 (by decide) (by decide))
    refine ⟨g1, Nat.le_trans g2 ?_⟩
    show (s.held.drop _).length ≤ _
    simp
  · rw [In.next_tell ht]
    unfold In.tell
    by_cases h0 : s.stand = 0
    · rw [if_pos h0]
      cases hf : find s.window with
      | none => unfold In.tellLine; rw [hf]; exact ⟨h, Nat.le_refl _⟩
      | some k =>
        unfold In.tellLine; rw [hf]
        exact ⟨⟨h.stand, h.need, by have := h.held; show (s.held.drop _).length ≤ _; simp; omega⟩, by show (s.held.drop _).length ≤ _; simp⟩
    · rw [if_neg h0]
      by_cases h1 : s.stand = 1
      · rw [if_pos h1]; exact loss s 2 h
      · rw [if_neg h1]
        by_cases h2 : s.stand = 2
        · rw [if_pos h2]
          unfold In.tellBody
          by_cases hn : s.held.length < s.need
          · rw [if_pos hn]; exact ⟨h, Nat.le_refl _⟩
          · rw [if_neg hn]
            exact ⟨⟨by show 0 < 4; omega, h.need, by have := h.held; show (s.held.drop _).length ≤ _; simp; omega⟩, by show (s.held.drop _).length ≤ _; simp⟩
        · rw [if_neg h2]; exact loss s 4 h
theorem body_fit {s : In} (h : s.Fit) (n : Int) : (s.body n).Fit ∧ (s.body n).held.length ≤ s.held.length ∧ mu (s.body n) ≤ mu s + 1 := by
  unfold In.body
  by_cases hn : n < 0 ∨ n > 4294967295 ∨ s.stand ≠ 0
  · rw [if_pos hn]; exact ⟨h, Nat.le_refl _, by omega⟩
  · rw [if_neg hn]
    have hl : (s.turn (if n > s.most then 3 else 2) (n.toNat + 2)).held.length ≤ s.held.length := by show (s.held.drop _).length ≤ _; simp
    have hx : ∀ t : In, mu t ≤ 2 * t.held.length + 1 := fun t => by unfold mu; split <;> omega
    have hy : 2 * s.held.length ≤ mu s := by unfold mu; omega
    refine ⟨In.turn_fit h _ _ (by split <;> omega) (by omega), hl, ?_⟩
    have := hx (s.turn (if n > s.most then 3 else 2) (n.toNat + 2))
    omega
theorem after_fit {sz : List Int} {s : In} {n : Nat} (hf : s.Fit) (h : s.next.1.kind ≠ 0) : (after sz s.next n).1.Fit ∧ (after sz s.next n).1.held.length ≤ s.held.length ∧ mu (after sz s.next n).1 < mu s := by
  obtain ⟨g1, g2⟩ := next_fit hf
  obtain ⟨k1, k2⟩ := next_less h
  have h0 := next_stand h
  unfold after
  by_cases hk : s.next.1.kind = 1
  · rw [if_pos hk]
    have := k1 hk
    have hm : mu s.next.2 = 2 * s.next.2.held.length := by unfold mu; rw [if_pos h0]; rfl
    have hm2 : 2 * s.held.length ≤ mu s := by unfold mu; omega
    cases sz[n]? with
    | none => exact ⟨g1, g2, by show mu s.next.2 < _; omega⟩
    | some m =>
      obtain ⟨b1, b2, b3⟩ := body_fit g1 m
      exact ⟨b1, Nat.le_trans b2 g2, by show mu (s.next.2.body m) < _; omega⟩
  · rw [if_neg hk]
    exact ⟨g1, g2, by show mu s.next.2 < _; omega⟩
theorem feed_fit {s : In} (h : s.Fit) (r : List UInt8) (hl : s.held.length + r.length ≤ 2147483648) : (s.feed r).Fit ∧ (s.feed r).held.length ≤ s.held.length + r.length := by
  have h1 := letGo_need s.stand s.need r
  have h2 := h.need
  have h3 : (s.feed r).held.length ≤ s.held.length + r.length := by show (s.held ++ r.drop _).length ≤ _; simp
  exact ⟨⟨h.stand, by show (letGo s.stand s.need r).2 ≤ _; omega, by omega⟩, h3⟩
end Go.Proofs.Ytcgpfhkndbggiaa
