/-
  Plain facts: the reply that bytes begin with, and all of them.
-/
import Derived.Test.YtaaohoombjlhfaaDoorPlainFine
namespace Go.Proofs.YtaaohoombjlhfaaDoor
open Go.RowKit

/-- The byte behind a kind's word. -/
def sepOf (k : Nat) : UInt8 := if 0 < idOf k ∨ 0 < nuOf k ∨ tuOf k = true ∨ 0 < boOf k then 32 else 13
def differ : List UInt8 → List UInt8 → Bool
  | c :: w, d :: u => c != d || differ w u
  | _, _ => false
theorem unlike : ∀ i, i < 24 → ∀ j, j < 24 → 1 ≤ i → 1 ≤ j → i ≠ j → differ (wordOf i ++ [sepOf i]) (wordOf j ++ [sepOf j]) = true := by decide
theorem text_differ (b : List UInt8) : ∀ (w u r : List UInt8) (p : Nat), b.drop p = u ++ r → differ w u = true → (textP b w p).2 = 2 ∧ (textP b w p).1 < p + u.length
  | [], u, r, p, _, h => by simp [differ] at h
  | c :: w, [], r, p, _, h => by simp [differ] at h
  | c :: w, d :: u, r, p, hb, h => by
    have hd : b[p]? = some d := by
      have := congrArg (·[0]?) hb
      simpa using this
    rw [drop_get hd, List.cons_append] at hb
    unfold textP
    rw [hd]
    simp only [List.length_cons]
    by_cases e : d = c
    · rw [if_pos e]
      have hw : differ w u = true := by
        rw [differ, e] at h
        simpa using h
      obtain ⟨h1, h2⟩ := text_differ b w u r (p + 1) (List.cons.inj hb).2 hw
      exact ⟨h1, by omega⟩
    · rw [if_neg e]
      exact ⟨rfl, by show p < _; omega⟩
theorem text_cons (b : List UInt8) (c : UInt8) (w : List UInt8) (p : Nat) : textP b (c :: w) p = match b[p]? with
    | none => (p, 1)
    | some x => if x = c then textP b w (p + 1) else (p, 2) := rfl
theorem text_app (b : List UInt8) : ∀ (w u : List UInt8) (p : Nat), textP b (w ++ u) p = if (textP b w p).2 = 0 then textP b u (textP b w p).1 else textP b w p
  | [], u, p => rfl
  | c :: w, u, p => by
    rw [List.cons_append, text_cons, text_cons b c w]
    cases b[p]? with
    | none => rfl
    | some y =>
      simp only
      by_cases hy : y = c
      · rw [if_pos hy, if_pos hy]
        exact text_app b w u (p + 1)
      · rw [if_neg hy, if_neg hy]
        rfl

/-- What a kind's bytes begin with. -/
def leadL (k : Nat) : List UInt8 := wordOf k ++ [sepOf k]
/-- A step that takes something begins with a byte. -/
theorem word_lead {fits : List UInt8 → Bool} (b : List UInt8) (p : Nat) : ((textP b [32] p).2 = 2 → (wordP b fits p).2 = (textP b [32] p)) ∧ ((wordP b fits p).2.2 = 0 → (textP b [32] p).2 = 0 ∧ p < (wordP b fits p).2.1) := by
  rw [text_one]
  cases hb : b[p]? with
  | none => rw [word_none hb]; exact ⟨fun h => (by cases h), fun h => (by cases h)⟩
  | some y =>
    by_cases hy : y = 32
    · subst hy
      rw [word_blank hb]
      exact ⟨fun h => (by cases h), fun _ => ⟨rfl, by show p < p + 1 + _; omega⟩⟩
    · rw [word_other hb hy]
      refine ⟨fun _ => by simp [hy], fun h => (by cases h)⟩
theorem end_lead (b : List UInt8) (p : Nat) : ((textP b [13] p).2 = 2 → textP b [13, 10] p = (textP b [13] p)) ∧ ((textP b [13, 10] p).2 = 0 → (textP b [13] p).2 = 0) := by
  have e := text_app b [13] [10] p
  rw [show ([13] : List UInt8) ++ [10] = [13, 10] from rfl] at e
  rw [e]
  by_cases h : (textP b [13] p).2 = 0
  · rw [if_pos h]
    exact ⟨fun h2 => absurd (h.symm.trans h2) (by decide), fun _ => h⟩
  · rw [if_neg h]
    exact ⟨fun _ => rfl, fun h2 => h2⟩
/-- A first step whose own first byte is c. -/
structure Leads (c : UInt8) (p : List UInt8 → St → St) : Prop where
  no : ∀ b s, s.st = 0 → (textP b [c] s.pos).2 = 2 → (p b s).st = 2 ∧ (p b s).pos = (textP b [c] s.pos).1
  yes : ∀ b s, s.st = 0 → (p b s).st = 0 → (textP b [c] s.pos).2 = 0
theorem Leads.comp {c : UInt8} {p q : List UInt8 → St → St} (h : Leads c p) (k : Fine q) : Leads c (fun b s => q b (p b s)) where
  no b s h0 h2 := by
    obtain ⟨a, e⟩ := h.no b s h0 h2
    show (q b (p b s)).st = 2 ∧ (q b (p b s)).pos = _
    rw [k.stuck b _ (by rw [a]; decide)]
    exact ⟨a, e⟩
  yes b s h0 h2 := by
    refine h.yes b s h0 ?_
    by_cases hz : (p b s).st = 0
    · exact hz
    · have h2 : (q b (p b s)).st = 0 := h2
      rw [k.stuck b _ hz] at h2
      exact h2
theorem leads_word {fits : List UInt8 → Bool} (f : St → List UInt8 → Nat → Nat → St) (hf : ∀ s w p e, (f s w p e).pos = p ∧ (f s w p e).st = e) (p : List UInt8 → St → St)
    (hp : ∀ b s, p b s = if s.st = 0 then f s (wordP b fits s.pos).1 (wordP b fits s.pos).2.1 (wordP b fits s.pos).2.2 else s) : Leads 32 p where
  no b s h0 h2 := by
    rw [hp, if_pos h0, (hf _ _ _ _).1, (hf _ _ _ _).2]
    have := (word_lead (fits := fits) b s.pos).1 h2
    rw [this]
    exact ⟨h2, rfl⟩
  yes b s h0 h2 := by
    rw [hp, if_pos h0, (hf _ _ _ _).2] at h2
    exact ((word_lead (fits := fits) b s.pos).2 h2).1
theorem leads_end : Leads 13 (textS [13, 10]) where
  no b s h0 h2 := by
    unfold textS
    rw [if_pos h0]
    have := (end_lead b s.pos).1 h2
    rw [this]
    exact ⟨h2, rfl⟩
  yes b s h0 h2 := by
    unfold textS at h2
    rw [if_pos h0] at h2
    exact (end_lead b s.pos).2 h2
/-- What comes behind a kind's word. -/
def tailS (k : Nat) (b : List UInt8) (s : St) : St :=
  textS [13, 10] b (bodyS k b ((fun s => if 0 < boOf k then sizeS (boOf k) b s else s) ((fun s => if tuOf k then tubeS b s else s) ((fun s => if 0 < nuOf k then numS (nuOf k) b s else s) ((fun s => if 0 < idOf k then idS (idOf k) b s else s) s)))))
theorem leads_tail (k : Nat) : Leads (sepOf k) (tailS k) := by
  have F5 := (fine_body k).comp (fine_text [13, 10])
  have F4 := ((fine_size (boOf k)).opt (0 < boOf k)).comp F5
  have F3 := (fine_tube.opt (tuOf k = true)).comp F4
  have F2 := ((fine_num (nuOf k)).opt (0 < nuOf k)).comp F3
  by_cases h1 : 0 < idOf k
  · rw [show sepOf k = 32 from if_pos (.inl h1)]
    have L : Leads 32 (idS (idOf k)) := leads_word (fits := numFits 1 (idOf k)) (fun s w p e => { s with pos := p, st := e, id := parseV w (idOf k) }) (fun _ _ _ _ => ⟨rfl, rfl⟩) _ (fun _ _ => rfl)
    have := L.comp F2
    unfold tailS
    simp only [if_pos h1]
    exact this
  by_cases h2 : 0 < nuOf k
  · rw [show sepOf k = 32 from if_pos (.inr (.inl h2))]
    have L : Leads 32 (numS (nuOf k)) := leads_word (fits := numFits 0 (nuOf k)) (fun s w p e => { s with pos := p, st := e, num := parseV w (nuOf k) }) (fun _ _ _ _ => ⟨rfl, rfl⟩) _ (fun _ _ => rfl)
    have := L.comp F3
    unfold tailS
    simp only [if_neg h1, if_pos h2]
    exact this
  by_cases h3 : tuOf k = true
  · rw [show sepOf k = 32 from if_pos (.inr (.inr (.inl h3)))]
    have L : Leads 32 tubeS := leads_word (fits := validB) (fun s w p e => { s with pos := p, st := e, tube := w }) (fun _ _ _ _ => ⟨rfl, rfl⟩) _ (fun _ _ => rfl)
    have := L.comp F4
    unfold tailS
    simp only [if_neg h1, if_neg h2, if_pos h3]
    exact this
  by_cases h4 : 0 < boOf k
  · rw [show sepOf k = 32 from if_pos (.inr (.inr (.inr h4)))]
    have L : Leads 32 (sizeS (boOf k)) := leads_word (fits := numFits 0 (boOf k)) (fun s w p e => { s with pos := p, st := e, size := parseV w (boOf k) }) (fun _ _ _ _ => ⟨rfl, rfl⟩) _ (fun _ _ => rfl)
    have := L.comp F5
    unfold tailS
    simp only [if_neg h1, if_neg h2, if_neg h3, if_pos h4]
    exact this
  · rw [show sepOf k = 13 from if_neg (fun h => by rcases h with h | h | h | h; exact h1 h; exact h2 h; exact h3 h; exact h4 h)]
    unfold tailS bodyS
    simp only [if_neg h1, if_neg h2, if_neg h3, if_neg h4]
    exact leads_end
theorem fine_tail (k : Nat) : Fine (tailS k) :=
  ((fine_id (idOf k)).opt (0 < idOf k)).comp (((fine_num (nuOf k)).opt (0 < nuOf k)).comp ((fine_tube.opt (tuOf k = true)).comp (((fine_size (boOf k)).opt (0 < boOf k)).comp ((fine_body k).comp (fine_text [13, 10])))))
theorem kind_tail (k : Nat) (b : List UInt8) : kindS k b = tailS k b (textS (wordOf k) b st0) := rfl
theorem kind_no (k : Nat) (b : List UInt8) (h : (textP b (leadL k) 0).2 = 2) : (kindS k b).st = 2 ∧ (kindS k b).pos = (textP b (leadL k) 0).1 := by
  unfold leadL at h ⊢
  rw [text_app] at h ⊢
  rw [kind_tail]
  have e : textS (wordOf k) b st0 = { st0 with pos := (textP b (wordOf k) 0).1, st := (textP b (wordOf k) 0).2 } := rfl
  by_cases hz : (textP b (wordOf k) 0).2 = 0
  · rw [if_pos hz] at h ⊢
    refine (leads_tail k).no b _ ?_ ?_
    · rw [e]; exact hz
    · rw [e]; exact h
  · rw [if_neg hz] at h ⊢
    rw [(fine_tail k).stuck b _ (by rw [e]; exact hz), e]
    exact ⟨h, rfl⟩
theorem kind_yes (k : Nat) (b : List UInt8) (h : (kindS k b).st = 0) : ∃ r, b = leadL k ++ r := by
  rw [kind_tail] at h
  have e : textS (wordOf k) b st0 = { st0 with pos := (textP b (wordOf k) 0).1, st := (textP b (wordOf k) 0).2 } := rfl
  have hz : (textP b (wordOf k) 0).2 = 0 := by
    by_cases hz : (textP b (wordOf k) 0).2 = 0
    · exact hz
    · rw [(fine_tail k).stuck b _ (by rw [e]; exact hz), e] at h
      exact h
  have h2 := (leads_tail k).yes b _ (by rw [e]; exact hz) h
  have h3 : (textP b (leadL k) 0).2 = 0 := by
    unfold leadL
    rw [text_app, if_pos hz]
    rw [e] at h2
    exact h2
  have := (text_good b (leadL k) 0 (Nat.zero_le _) h3).2.1
  rw [List.drop_zero] at this
  exact ⟨_, this⟩
theorem kind_lead (k : Nat) (b : List UInt8) (h : (kindS k b).st = 0) : (leadL k).length < (kindS k b).pos := by
  by_cases hlt : (leadL k).length < (kindS k b).pos
  · exact hlt
  · exfalso
    -- cut ahead of its last byte
    have hp := kind_good k b h
    obtain ⟨r, hr⟩ := kind_yes k b h
    have hb : b = b.take (leadL k).length ++ b.drop (leadL k).length := (List.take_append_drop _ _).symm
    have hl : (b.take (leadL k).length).length = (leadL k).length := by rw [hr]; simp
    have hk := kind_ext k (b.take (leadL k).length) (b.drop (leadL k).length)
    have hs := kind_strict k (b.take (leadL k).length) (b.drop (leadL k).length)
    rw [← hb] at hk hs
    by_cases h1 : (kindS k (b.take (leadL k).length)).st = 1
    · have := hs h1 h
      omega
    · have e := hk h1
      -- the last byte of a reply is 10
      have g0 : (kindS k (b.take (leadL k).length)).st = 0 := by rw [← e]; exact h
      have F := fine_all k
      obtain ⟨s5, e5⟩ : ∃ s, s = bodyS k (b.take (leadL k).length) (lineS k (b.take (leadL k).length) st0) := ⟨_, rfl⟩
      have hk5 : kindS k (b.take (leadL k).length) = textS [13, 10] (b.take (leadL k).length) s5 := by rw [e5]; rfl
      have g5 : s5.st = 0 := by
        by_cases hz : s5.st = 0
        · exact hz
        · rw [hk5, (fine_text _).stuck _ _ hz] at g0; exact g0
      have p5 : s5.pos ≤ (b.take (leadL k).length).length := by rw [e5] at g5 ⊢; exact F.good _ st0 rfl (Nat.zero_le _) g5
      have hlow : (wordOf k).length ≤ s5.pos := by
        have F2 := (((fine_id (idOf k)).opt (0 < idOf k)).comp (((fine_num (nuOf k)).opt (0 < nuOf k)).comp ((fine_tube.opt (tuOf k = true)).comp (((fine_size (boOf k)).opt (0 < boOf k)).comp (fine_body k)))))
        have es : s5 = (fun b s => bodyS k b ((fun s => if 0 < boOf k then sizeS (boOf k) b s else s) ((fun s => if tuOf k then tubeS b s else s) ((fun s => if 0 < nuOf k then numS (nuOf k) b s else s) ((fun s => if 0 < idOf k then idS (idOf k) b s else s) s))))) (b.take (leadL k).length) (textS (wordOf k) (b.take (leadL k).length) st0) := e5
        have hw : (textP (b.take (leadL k).length) (wordOf k) 0) = ((wordOf k).length, 0) := by
          rw [text_is _ (wordOf k) [sepOf k] 0 (by rw [List.drop_zero, hr, List.take_left']; rfl; rfl)]
          simp
        have ew : textS (wordOf k) (b.take (leadL k).length) st0 = { st0 with pos := (wordOf k).length, st := 0 } := by
          show { st0 with pos := (textP (b.take (leadL k).length) (wordOf k) 0).1, st := (textP (b.take (leadL k).length) (wordOf k) 0).2 } = _
          rw [hw]
        rw [ew] at es
        have := F2.low' (b.take (leadL k).length) { st0 with pos := (wordOf k).length, st := 0 } (fun _ => by rw [hl]; unfold leadL; simp)
        rw [es]
        exact this
      have q : (kindS k (b.take (leadL k).length)).pos = s5.pos + 2 := by
        rw [hk5] at g0 ⊢
        unfold textS at g0 ⊢
        rw [if_pos g5] at g0 ⊢
        exact (text_good _ [13, 10] s5.pos p5 g0).1
      have hle := kind_good k _ g0
      rw [hl] at hle
      have : (leadL k).length = (wordOf k).length + 1 := by unfold leadL; simp
      omega
/-- A whole reply of one kind is wrong for each other one, and that early. -/
theorem kind_other (i j : Nat) (b : List UInt8) (hi : 1 ≤ i ∧ i ≤ 23) (hj : 1 ≤ j ∧ j ≤ 23) (hij : i ≠ j) (h : (kindS j b).st = 0) : (kindS i b).st = 2 ∧ (kindS i b).pos < (kindS j b).pos := by
  obtain ⟨r, hr⟩ := kind_yes j b h
  obtain ⟨h1, h2⟩ := text_differ b (leadL i) (leadL j) r 0 (by rw [List.drop_zero]; exact hr) (unlike i (by omega) j (by omega) hi.1 hj.1 hij)
  obtain ⟨a, c⟩ := kind_no i b h1
  have := kind_lead j b h
  exact ⟨a, by omega⟩

theorem from_first (b : List UInt8) : ∀ (n k far j : Nat), k ≤ j → j < k + n → (∀ i, k ≤ i → i < j → (kindS i b).st = 2) → (kindS j b).st ≠ 2 → readFrom b n k far = (rpOf j (kindS j b), (kindS j b).pos, (kindS j b).st)
  | 0, k, far, j, h1, h2, _, _ => by omega
  | n + 1, k, far, j, h1, h2, h3, h4 => by
    rw [readFrom]
    by_cases e : k = j
    · subst e
      rw [if_neg h4]
    · rw [if_pos (h3 k (Nat.le_refl _) (by omega))]
      exact from_first b n (k + 1) _ j (by omega) (by omega) (fun i hi hi2 => h3 i (by omega) hi2) h4
theorem from_wrong (b : List UInt8) : ∀ (n k far : Nat), (∀ i, k ≤ i → i < k + n → (kindS i b).st = 2) → (far < b.length ∨ n ≠ 0) → far ≤ b.length - 1 → (readFrom b n k far).2.2 = 2 ∧ (readFrom b n k far).2.1 < b.length ∧ (readFrom b n k far).1 = rp0
  | 0, k, far, _, h, _ => ⟨rfl, by rcases h with h | h; exact h; exact absurd rfl h, rfl⟩
  | n + 1, k, far, h1, h2, h3 => by
    have hk := h1 k (Nat.le_refl _) (by omega)
    have hp := kind_wrong k b hk
    rw [readFrom, if_pos hk]
    exact from_wrong b n (k + 1) _ (fun i hi hi2 => h1 i (by omega) (by omega)) (.inl (by omega)) (by omega)
theorem from_pick (b : List UInt8) : ∀ (n k : Nat), (∃ j, k ≤ j ∧ j < k + n ∧ (∀ i, k ≤ i → i < j → (kindS i b).st = 2) ∧ (kindS j b).st ≠ 2) ∨ (∀ i, k ≤ i → i < k + n → (kindS i b).st = 2)
  | 0, k => .inr (fun i h1 h2 => by omega)
  | n + 1, k => by
    by_cases hk : (kindS k b).st = 2
    · rcases from_pick b n (k + 1) with ⟨j, h1, h2, h3, h4⟩ | h
      · refine .inl ⟨j, by omega, by omega, fun i hi hi2 => ?_, h4⟩
        by_cases e : i = k
        · rw [e]; exact hk
        · exact h3 i (by omega) hi2
      · refine .inr (fun i hi hi2 => ?_)
        by_cases e : i = k
        · rw [e]; exact hk
        · exact h i (by omega) (by omega)
    · exact .inl ⟨k, Nat.le_refl _, by omega, fun i h1 h2 => by omega, hk⟩
/-- How bytes are read: by the first kind that isn't wrong. -/
theorem read_pick (b : List UInt8) : (∃ j, 1 ≤ j ∧ j ≤ 23 ∧ (∀ i, 1 ≤ i → i < j → (kindS i b).st = 2) ∧ (kindS j b).st ≠ 2 ∧ readP b = (rpOf j (kindS j b), (kindS j b).pos, (kindS j b).st)) ∨ ((∀ i, 1 ≤ i → i ≤ 23 → (kindS i b).st = 2) ∧ (readP b).2.2 = 2 ∧ (readP b).2.1 < b.length ∧ (readP b).1 = rp0) := by
  rcases from_pick b 23 1 with ⟨j, h1, h2, h3, h4⟩ | h
  · exact .inl ⟨j, h1, by omega, h3, h4, from_first b 23 1 0 j h1 h2 h3 h4⟩
  · exact .inr ⟨fun i h1 h2 => h i h1 (by omega), from_wrong b 23 1 0 h (.inr (by decide)) (Nat.zero_le _)⟩
theorem from_ext (b x : List UInt8) : ∀ (n k far : Nat), (readFrom b n k far).2.2 ≠ 1 → readFrom (b ++ x) n k far = readFrom b n k far
  | 0, k, far, _ => rfl
  | n + 1, k, far, h => by
    simp only [readFrom] at h ⊢
    by_cases hk : (kindS k b).st = 2
    · rw [if_pos hk] at h
      have e := kind_ext k b x (by rw [hk]; decide)
      rw [e, if_pos hk, if_pos hk]
      exact from_ext b x n (k + 1) _ h
    · rw [if_neg hk] at h
      have e := kind_ext k b x h
      rw [e, if_neg hk, if_neg hk]
theorem read_ext (b x : List UInt8) (h : (readP b).2.2 ≠ 1) : readP (b ++ x) = readP b := from_ext b x 23 1 0 h
theorem read_three (b : List UInt8) : (readP b).2.2 ≤ 2 := by
  rcases read_pick b with ⟨j, _, _, _, _, e⟩ | ⟨_, h, _⟩
  · rw [e]; exact kind_three j b
  · omega
theorem lead_pos (k : Nat) : 1 ≤ (leadL k).length := by unfold leadL; simp
theorem read_good (b : List UInt8) (h : (readP b).2.2 = 0) : 2 ≤ (readP b).2.1 ∧ (readP b).2.1 ≤ b.length := by
  rcases read_pick b with ⟨j, _, _, _, _, e⟩ | ⟨_, h2, _⟩
  · rw [e] at h ⊢
    have := kind_lead j b h
    have := lead_pos j
    exact ⟨by show 2 ≤ (kindS j b).pos; omega, kind_good j b h⟩
  · omega
theorem read_wrong (b : List UInt8) (h : (readP b).2.2 = 2) : (readP b).2.1 < b.length ∧ (readP b).1 = rp0 := by
  rcases read_pick b with ⟨j, _, _, _, h4, e⟩ | ⟨_, _, h3⟩
  · rw [e] at h; exact absurd h h4
  · exact h3
theorem read_short (b : List UInt8) (h : (readP b).2.2 = 1) : b.length ≤ (readP b).2.1 := by
  rcases read_pick b with ⟨j, _, _, _, _, e⟩ | ⟨_, h2, _⟩
  · rw [e] at h ⊢
    exact (kind_short j b [] h).1
  · omega
/-- What stands behind a whole reply is not looked at. -/
theorem read_cut (b : List UInt8) (m : Nat) (h : (readP b).2.2 = 0) (hm : (readP b).2.1 ≤ m) : readP (b.take m) = readP b := by
  rcases read_pick b with ⟨j, h1, h2, h3, h4, e⟩ | ⟨_, h2, _⟩
  · rw [e] at h hm ⊢
    have h : (kindS j b).st = 0 := h
    have hm : (kindS j b).pos ≤ m := hm
    have hp := kind_good j b h
    have hb : b = b.take m ++ b.drop m := (List.take_append_drop _ _).symm
    have hl : (b.take m).length = min m b.length := List.length_take
    have same : ∀ i, 1 ≤ i → i ≤ j → kindS i (b.take m) = kindS i b := fun i hi hij => by
      have hx := kind_ext i (b.take m) (b.drop m)
      rw [← hb] at hx
      by_cases hs : (kindS i (b.take m)).st = 1
      · exfalso
        by_cases hij2 : i = j
        · subst hij2
          have := kind_strict i (b.take m) (b.drop m) hs (by rw [← hb]; exact h)
          rw [← hb] at this
          omega
        · have a := (kind_other i j b ⟨hi, by omega⟩ ⟨h1, h2⟩ hij2 h).2
          have c := (kind_short i (b.take m) (b.drop m) hs).2
          rw [← hb] at c
          omega
      · exact (hx hs).symm
    have := from_first (b.take m) 23 1 0 j h1 (by omega) (fun i hi hi2 => by rw [same i hi (by omega)]; exact h3 i hi hi2) (by rw [same j h1 (Nat.le_refl _)]; exact h4)
    show readFrom (b.take m) 23 1 0 = _
    rw [this, same j h1 (Nat.le_refl _)]
  · omega
end Go.Proofs.YtaaohoombjlhfaaDoor
