/-
  Plain facts: how the steps of a trial stand to bytes that are longer.
-/
import Derived.Test.YtaaohoombjlhfaaDoorPlainText
namespace Go.Proofs.YtaaohoombjlhfaaDoor
open Go.RowKit

theorem fits_dec {l m : Int} {s : List UInt8} : numFits l m s = true ↔ ∃ u : Nat, s = Lib.decDigits u ∧ l ≤ (u : Int) ∧ (u : Int) ≤ m := by
  unfold numFits decL
  simp only [Bool.and_eq_true, decide_eq_true_eq]
  constructor
  · rintro ⟨⟨h1, h2⟩, h3⟩
    refine ⟨(parseV s m).toNat, h3.symm, ?_⟩
    have hp := parsed m 0 (parseV s m).toNat
    simp only [List.replicate_zero, List.nil_append] at hp
    rw [h3, h1] at hp
    have := of_decide_eq_true hp.2.symm
    rw [if_pos this] at hp
    omega
  · rintro ⟨u, rfl, h1, h2⟩
    have hp := parsed m 0 u
    simp only [List.replicate_zero, List.nil_append] at hp
    rw [if_pos h2] at hp
    rw [hp.1, hp.2, decide_eq_true h2]
    simp [h1]
theorem dec_value {m : Int} {u : Nat} (h : (u : Int) ≤ m) : parseV (Lib.decDigits u) m = u := by
  have hp := parsed m 0 u
  simp only [List.replicate_zero, List.nil_append] at hp
  rw [hp.1, if_pos h]
theorem dec_inj {u v : Nat} (h : Lib.decDigits u = Lib.decDigits v) : u = v := by
  have a := dec_value (m := max u v) (u := u) (by omega)
  have b := dec_value (m := max u v) (u := v) (by omega)
  rw [h, b] at a
  omega
theorem num_closed {l m : Int} (hl : l ≤ 1) : Closed (numFits l m) := by
  intro s t hs
  induction h : t.length generalizing t with
  | zero =>
    obtain rfl := List.length_eq_zero_iff.1 h
    rw [List.append_nil]
    exact id
  | succ n ih =>
    intro hf
    obtain ⟨t', c, rfl⟩ : ∃ t' c, t = t' ++ [c] := by
      rcases List.eq_nil_or_concat t with rfl | ⟨t', c, rfl⟩
      · cases h
      · exact ⟨t', c, by simp⟩
    refine ih t' (by simpa using h) ?_
    obtain ⟨u, h1, h2, h3⟩ := fits_dec.1 hf
    rw [← List.append_assoc] at h1
    refine fits_dec.2 ⟨u / 10, ?_⟩
    by_cases h10 : u < 10
    · rw [dec_small h10] at h1
      have := congrArg List.length h1
      simp at this
      exact absurd (List.length_eq_zero_iff.1 (by omega)) hs
    · rw [dec_big h10] at h1
      exact ⟨(List.append_inj' h1 rfl).1, by omega, by omega⟩
theorem digit_of {u : Nat} : ∀ c ∈ Lib.decDigits u, 48 ≤ c.toNat ∧ c.toNat ≤ 57 := by
  induction u using Nat.strongRecOn with
  | _ u ih =>
    have hd : ∀ d, d < 10 → (UInt8.ofNat (48 + d)).toNat = 48 + d := fun d hd => by rw [UInt8.toNat_ofNat']; omega
    by_cases h : u < 10
    · rw [dec_small h]
      intro c hc
      obtain rfl := List.mem_singleton.1 hc
      rw [hd u h]; omega
    · rw [dec_big h]
      intro c hc
      rcases List.mem_append.1 hc with hc | hc
      · exact ih (u / 10) (by omega) c hc
      · obtain rfl := List.mem_singleton.1 hc
        rw [hd _ (by omega)]; omega
theorem num_ends {l m : Int} (s : List UInt8) (c : UInt8) (hc : c.toNat < 48) : numFits l m (s ++ [c]) = false := by
  cases h : numFits l m (s ++ [c]) with
  | false => rfl
  | true =>
    obtain ⟨u, h1, _, _⟩ := fits_dec.1 h
    have := digit_of (u := u) c (by rw [← h1]; simp)
    omega
theorem valid_closed : Closed validB := by
  intro s t hs h
  unfold validB at h ⊢
  simp only [Bool.and_eq_true, decide_eq_true_eq, List.length_append, List.all_append] at h ⊢
  obtain ⟨⟨⟨h1, h2⟩, h3⟩, h4, h5⟩ := h
  obtain ⟨c, r, rfl⟩ : ∃ c r, s = c :: r := by cases s with | nil => exact absurd rfl hs | cons c r => exact ⟨c, r, rfl⟩
  refine ⟨⟨⟨by simp, by omega⟩, ?_⟩, h4⟩
  simpa using h3
theorem valid_ends (s : List UInt8) (c : UInt8) (hc : okn c = false) : validB (s ++ [c]) = false := by
  unfold validB
  rw [List.all_append]
  simp [hc]

/-- A step of a trial: it stays where it is when it is over; more bytes turn nothing but where it was short. -/
structure Fine (p : List UInt8 → St → St) : Prop where
  stuck : ∀ b s, s.st ≠ 0 → p b s = s
  ext : ∀ b x s, s.st = 0 → s.pos ≤ b.length → (p b s).st ≠ 1 → p (b ++ x) s = p b s
  low : ∀ b s, s.st = 0 → s.pos ≤ b.length → s.pos ≤ (p b s).pos
  good : ∀ b s, s.st = 0 → s.pos ≤ b.length → (p b s).st = 0 → (p b s).pos ≤ b.length
  wrong : ∀ b s, s.st = 0 → s.pos ≤ b.length → (p b s).st = 2 → (p b s).pos < b.length
  three : ∀ b s, s.st = 0 → s.pos ≤ b.length → (p b s).st ≤ 2
  short : ∀ b x s, s.st = 0 → s.pos ≤ b.length → (p b s).st = 1 → b.length ≤ (p b s).pos ∧ b.length ≤ (p (b ++ x) s).pos

theorem Fine.skip : Fine (fun _ s => s) :=
  ⟨fun _ _ _ => rfl, fun _ _ _ _ _ _ => rfl, fun _ _ _ _ => Nat.le_refl _, fun _ _ _ h _ => h, fun b s h _ h2 => absurd (h.symm.trans h2) (by decide), fun _ s h _ => (by rw [h]; omega), fun b x s h _ h2 => absurd (h.symm.trans h2) (by decide)⟩
theorem Fine.opt {p : List UInt8 → St → St} (h : Fine p) (c : Prop) [Decidable c] : Fine (fun b s => if c then p b s else s) := by
  by_cases hc : c
  · simp only [if_pos hc]; exact h
  · simp only [if_neg hc]; exact Fine.skip
theorem Fine.low' {p : List UInt8 → St → St} (h : Fine p) (b : List UInt8) (s : St) (hs : s.st = 0 → s.pos ≤ b.length) : s.pos ≤ (p b s).pos := by
  by_cases h0 : s.st = 0
  · exact h.low b s h0 (hs h0)
  · rw [h.stuck b s h0]; exact Nat.le_refl _
theorem Fine.comp {p q : List UInt8 → St → St} (h : Fine p) (k : Fine q) : Fine (fun b s => q b (p b s)) where
  stuck b s h0 := by show q b (p b s) = s; rw [h.stuck b s h0, k.stuck b s h0]
  ext b x s h0 hp h1 := by
    show q (b ++ x) (p (b ++ x) s) = q b (p b s)
    have hs : (p b s).st ≠ 1 := fun e => h1 (by show (q b (p b s)).st = 1; rw [k.stuck b _ (by rw [e]; decide)]; exact e)
    rw [h.ext b x s h0 hp hs]
    by_cases hz : (p b s).st = 0
    · exact k.ext b x _ hz (h.good b s h0 hp hz) h1
    · rw [k.stuck _ _ hz, k.stuck _ _ hz]
  low b s h0 hp := Nat.le_trans (h.low b s h0 hp) (k.low' b _ (h.good b s h0 hp))
  good b s h0 hp hq := by
    by_cases hz : (p b s).st = 0
    · exact k.good b _ hz (h.good b s h0 hp hz) hq
    · exfalso
      have : (q b (p b s)).st = (p b s).st := by rw [k.stuck b _ hz]
      exact hz (this.symm.trans hq)
  wrong b s h0 hp hq := by
    by_cases hz : (p b s).st = 0
    · exact k.wrong b _ hz (h.good b s h0 hp hz) hq
    · have e : q b (p b s) = p b s := k.stuck b _ hz
      show (q b (p b s)).pos < _
      rw [e]
      exact h.wrong b s h0 hp (by rw [← e]; exact hq)
  three b s h0 hp := by
    by_cases hz : (p b s).st = 0
    · exact k.three b _ hz (h.good b s h0 hp hz)
    · show (q b (p b s)).st ≤ 2
      rw [k.stuck b _ hz]; exact h.three b s h0 hp
  short b x s h0 hp hq := by
    show b.length ≤ (q b (p b s)).pos ∧ b.length ≤ (q (b ++ x) (p (b ++ x) s)).pos
    have hq : (q b (p b s)).st = 1 := hq
    by_cases hz : (p b s).st = 0
    · rw [h.ext b x s h0 hp (by rw [hz]; decide)]
      exact k.short b x _ hz (h.good b s h0 hp hz) hq
    · rw [k.stuck b _ hz] at hq ⊢
      obtain ⟨a, c⟩ := h.short b x s h0 hp hq
      refine ⟨a, Nat.le_trans c (k.low' (b ++ x) _ (h.good (b ++ x) s h0 (by simp; omega)))⟩

theorem fine_text (w : List UInt8) : Fine (textS w) where
  stuck b s h0 := by unfold textS; rw [if_neg h0]
  ext b x s h0 hp h1 := by
    unfold textS at h1 ⊢
    rw [if_pos h0] at h1
    rw [if_pos h0, if_pos h0, text_ext b x w s.pos h1]
  low b s h0 hp := by unfold textS; rw [if_pos h0]; exact text_low b w s.pos
  good b s h0 hp h1 := by
    unfold textS at h1 ⊢
    rw [if_pos h0] at h1 ⊢
    obtain ⟨a, _, c⟩ := text_good b w s.pos hp h1
    show (textP b w s.pos).1 ≤ _
    omega
  wrong b s h0 hp h1 := by
    unfold textS at h1 ⊢
    rw [if_pos h0] at h1 ⊢
    exact text_wrong b w s.pos h1
  three b s h0 hp := by unfold textS; rw [if_pos h0]; exact text_three b w s.pos
  short b x s h0 hp h1 := by
    unfold textS at h1 ⊢
    rw [if_pos h0] at h1 ⊢
    rw [if_pos h0]
    obtain ⟨a, _, c⟩ := text_short b x w s.pos hp h1
    exact ⟨Nat.le_of_eq a.symm, c⟩
/-- A step that takes a word. -/
theorem fine_word {fits : List UInt8 → Bool} (hc : Closed fits) (f : St → List UInt8 → Nat → Nat → St) (hf : ∀ s w p e, (f s w p e).pos = p ∧ (f s w p e).st = e) (p : List UInt8 → St → St)
    (hp : ∀ b s, p b s = if s.st = 0 then f s (wordP b fits s.pos).1 (wordP b fits s.pos).2.1 (wordP b fits s.pos).2.2 else s) : Fine p where
  stuck b s h0 := by rw [hp, if_neg h0]
  ext b x s h0 h2 h1 := by
    rw [hp, if_pos h0, (hf _ _ _ _).2] at h1
    rw [hp, hp, if_pos h0, if_pos h0, word_ext hc b x s.pos h1]
  low b s h0 h2 := by rw [hp, if_pos h0, (hf _ _ _ _).1]; exact word_low fits b s.pos
  good b s h0 h2 h1 := by
    rw [hp, if_pos h0, (hf _ _ _ _).2] at h1
    rw [hp, if_pos h0, (hf _ _ _ _).1]
    exact Nat.le_of_lt (word_good hc b s.pos h1).2.2.2.2.1
  wrong b s h0 h2 h1 := by
    rw [hp, if_pos h0, (hf _ _ _ _).2] at h1
    rw [hp, if_pos h0, (hf _ _ _ _).1]
    exact word_wrong fits hc b s.pos h1
  three b s h0 h2 := by rw [hp, if_pos h0, (hf _ _ _ _).2]; exact word_three fits b s.pos
  short b x s h0 h2 h1 := by
    rw [hp, if_pos h0, (hf _ _ _ _).2] at h1
    rw [hp, hp, if_pos h0, if_pos h0, (hf _ _ _ _).1, (hf _ _ _ _).1]
    obtain ⟨a, c⟩ := word_short hc b x s.pos h2 h1
    exact ⟨Nat.le_of_eq a.symm, c⟩
theorem fine_id (m : Int) : Fine (idS m) := fine_word (num_closed (l := 1) (m := m) (by decide)) (fun s w p e => { s with pos := p, st := e, id := parseV w m }) (fun _ _ _ _ => ⟨rfl, rfl⟩) _ (fun _ _ => rfl)
theorem fine_num (m : Int) : Fine (numS m) := fine_word (num_closed (l := 0) (m := m) (by decide)) (fun s w p e => { s with pos := p, st := e, num := parseV w m }) (fun _ _ _ _ => ⟨rfl, rfl⟩) _ (fun _ _ => rfl)
theorem fine_size (m : Int) : Fine (sizeS m) := fine_word (num_closed (l := 0) (m := m) (by decide)) (fun s w p e => { s with pos := p, st := e, size := parseV w m }) (fun _ _ _ _ => ⟨rfl, rfl⟩) _ (fun _ _ => rfl)
theorem fine_tube : Fine tubeS := fine_word valid_closed (fun s w p e => { s with pos := p, st := e, tube := w }) (fun _ _ _ _ => ⟨rfl, rfl⟩) _ (fun _ _ => rfl)
theorem fine_take : Fine takeS where
  stuck b s h0 := by unfold takeS; rw [if_neg h0]
  ext b x s h0 hp h1 := by
    unfold takeS at h1 ⊢
    rw [if_pos h0] at h1
    rw [if_pos h0, if_pos h0]
    by_cases hl : b.length < s.pos + s.size.toNat
    · rw [if_pos hl] at h1; exact absurd rfl h1
    · rw [if_neg hl, if_neg (by simp; omega), List.drop_append_of_le_length hp, List.take_append_of_le_length (by simp; omega)]
  low b s h0 hp := by
    unfold takeS
    rw [if_pos h0]
    split
    · show s.pos ≤ s.pos + _; omega
    · show s.pos ≤ s.pos + _; omega
  good b s h0 hp h1 := by
    unfold takeS at h1 ⊢
    rw [if_pos h0] at h1 ⊢
    by_cases hl : b.length < s.pos + s.size.toNat
    · rw [if_pos hl] at h1; cases h1
    · rw [if_neg hl]; show s.pos + _ ≤ _; omega
  wrong b s h0 hp h1 := by
    unfold takeS at h1
    rw [if_pos h0] at h1
    by_cases hl : b.length < s.pos + s.size.toNat
    · rw [if_pos hl] at h1; cases h1
    · rw [if_neg hl] at h1; rw [show s.st = 2 from h1] at h0; cases h0
  three b s h0 hp := by
    unfold takeS
    rw [if_pos h0]
    split
    · show 1 ≤ 2; omega
    · show s.st ≤ 2; omega
  short b x s h0 hp h1 := by
    unfold takeS at h1 ⊢
    rw [if_pos h0] at h1 ⊢
    rw [if_pos h0]
    by_cases hl : b.length < s.pos + s.size.toNat
    · rw [if_pos hl]
      refine ⟨Nat.le_of_lt hl, ?_⟩
      split
      · exact Nat.le_of_lt hl
      · exact Nat.le_of_lt hl
    · rw [if_neg hl] at h1; rw [show s.st = 1 from h1] at h0; cases h0
theorem fine_line (k : Nat) : Fine (lineS k) :=
  ((((fine_text (wordOf k)).comp ((fine_id (idOf k)).opt (0 < idOf k))).comp ((fine_num (nuOf k)).opt (0 < nuOf k))).comp (fine_tube.opt (tuOf k = true))).comp ((fine_size (boOf k)).opt (0 < boOf k))
theorem fine_body (k : Nat) : Fine (bodyS k) := ((fine_text [13, 10]).comp fine_take).opt (0 < boOf k)
theorem fine_all (k : Nat) : Fine (fun b s => bodyS k b (lineS k b s)) := (fine_line k).comp (fine_body k)
theorem fine_kind (k : Nat) : Fine (fun b s => textS [13, 10] b (bodyS k b (lineS k b s))) := (fine_all k).comp (fine_text [13, 10])

/-- More bytes turn nothing but where a kind was short. -/
theorem kind_ext (k : Nat) (b x : List UInt8) (h : (kindS k b).st ≠ 1) : kindS k (b ++ x) = kindS k b := (fine_kind k).ext b x st0 rfl (Nat.zero_le _) h
theorem kind_three (k : Nat) (b : List UInt8) : (kindS k b).st ≤ 2 := (fine_kind k).three b st0 rfl (Nat.zero_le _)
theorem kind_good (k : Nat) (b : List UInt8) (h : (kindS k b).st = 0) : (kindS k b).pos ≤ b.length := (fine_kind k).good b st0 rfl (Nat.zero_le _) h
theorem kind_wrong (k : Nat) (b : List UInt8) (h : (kindS k b).st = 2) : (kindS k b).pos < b.length := (fine_kind k).wrong b st0 rfl (Nat.zero_le _) h
theorem kind_short (k : Nat) (b x : List UInt8) (h : (kindS k b).st = 1) : b.length ≤ (kindS k b).pos ∧ b.length ≤ (kindS k (b ++ x)).pos := (fine_kind k).short b x st0 rfl (Nat.zero_le _) h
/-- A reply that is whole ends behind what was short of it. -/
theorem kind_strict (k : Nat) (b x : List UInt8) (h : (kindS k b).st = 1) (h0 : (kindS k (b ++ x)).st = 0) : b.length < (kindS k (b ++ x)).pos := by
  have F := fine_all k
  obtain ⟨s5, e5⟩ : ∃ s, s = bodyS k b (lineS k b st0) := ⟨_, rfl⟩
  obtain ⟨s6, e6⟩ : ∃ s, s = bodyS k (b ++ x) (lineS k (b ++ x) st0) := ⟨_, rfl⟩
  have hk : kindS k b = textS [13, 10] b s5 := by rw [e5]; rfl
  have hk6 : kindS k (b ++ x) = textS [13, 10] (b ++ x) s6 := by rw [e6]; rfl
  rw [hk] at h
  rw [hk6] at h0 ⊢
  have g6 : s6.st = 0 := by
    by_cases hz : s6.st = 0
    · exact hz
    · rw [(fine_text _).stuck _ _ hz] at h0; exact h0
  have p6 : s6.pos ≤ (b ++ x).length := by rw [e6] at g6 ⊢; exact F.good (b ++ x) st0 rfl (Nat.zero_le _) g6
  unfold textS at h0 ⊢
  rw [if_pos g6] at h0 ⊢
  have q := (text_good (b ++ x) [13, 10] s6.pos p6 h0).1
  show b.length < (textP (b ++ x) [13, 10] s6.pos).1
  rw [q]
  by_cases hz : s5.st = 0
  · have p5 : s5.pos ≤ b.length := by rw [e5] at hz ⊢; exact F.good b st0 rfl (Nat.zero_le _) hz
    have e : s6 = s5 := by
      rw [e5, e6]
      exact F.ext b x st0 rfl (Nat.zero_le _) (by rw [e5] at hz; show (bodyS k b (lineS k b st0)).st ≠ 1; rw [hz]; decide)
    unfold textS at h
    rw [if_pos hz] at h
    have := (text_short b x [13, 10] s5.pos p5 h).2.1
    rw [e]
    exact this
  · rw [(fine_text _).stuck _ _ hz] at h
    have := (F.short b x st0 rfl (Nat.zero_le _) (by show (bodyS k b (lineS k b st0)).st = 1; rw [← e5]; exact h)).2
    have : b.length ≤ s6.pos := by rw [e6]; exact this
    simp only [List.length_cons, List.length_nil]
    omega
end Go.Proofs.YtaaohoombjlhfaaDoor
