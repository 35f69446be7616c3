/-
  PlainRd, PlainPut, PlainDoc, PlainDc, PlainBd, PlainDs, PlainDt, PlainDp.
-/
import Derived.Test.YtomgnailgddchaaDoorJB
namespace Go.Proofs.YtomgnailgddchaaDoor
open Go.RowKit

/-- How many bytes at the head are whole replies; behind them how many up to a wrong one and with it (0: none is). -/
def scanF : Nat → List UInt8 → Nat × Nat
  | 0, _ => (0, 0)
  | f + 1, b => if (readP b).2.2 = 0 then ((readP b).2.1 + (scanF f (b.drop (readP b).2.1)).1, (scanF f (b.drop (readP b).2.1)).2) else if (readP b).2.2 = 2 then (0, (readP b).2.1 + 1) else (0, 0)
def scan (b : List UInt8) : Nat × Nat := scanF (b.length + 1) b
theorem scan_fuel : ∀ (f g : Nat) (b : List UInt8), b.length < f → b.length < g → scanF f b = scanF g b
  | 0, _, _, h, _ => absurd h (Nat.not_lt_zero _)
  | _ + 1, 0, _, _, h => absurd h (Nat.not_lt_zero _)
  | f + 1, g + 1, b, h1, h2 => by
    unfold scanF
    by_cases h : (readP b).2.2 = 0
    · have := read_good b h
      rw [if_pos h, if_pos h, scan_fuel f g (b.drop (readP b).2.1) (by simp; omega) (by simp; omega)]
    · rw [if_neg h, if_neg h]
theorem scan_good {b : List UInt8} (h : (readP b).2.2 = 0) : scan b = ((readP b).2.1 + (scan (b.drop (readP b).2.1)).1, (scan (b.drop (readP b).2.1)).2) := by
  have hg := read_good b h
  have e : scan b = ((readP b).2.1 + (scanF b.length (b.drop (readP b).2.1)).1, (scanF b.length (b.drop (readP b).2.1)).2) := by
    show scanF (b.length + 1) b = _
    rw [scanF, if_pos h]
  rw [e, scan_fuel b.length ((b.drop (readP b).2.1).length + 1) (b.drop (readP b).2.1) (by simp; omega) (by omega)]
  rfl
theorem scan_wrong {b : List UInt8} (h : (readP b).2.2 = 2) : scan b = (0, (readP b).2.1 + 1) := by
  show scanF (b.length + 1) b = _
  rw [scanF, if_neg (by rw [h]; decide), if_pos h]
theorem scan_short {b : List UInt8} (h : (readP b).2.2 = 1) : scan b = (0, 0) := by
  show scanF (b.length + 1) b = _
  rw [scanF, if_neg (by rw [h]; decide), if_neg (by rw [h]; decide)]
theorem read_nil : (readP []).2 = (0, 1) := by decide
theorem scan_nil : scan [] = (0, 0) := scan_short (by rw [read_nil])
theorem read_first (b : List UInt8) (j : Nat) (h1 : 1 ≤ j) (h2 : j ≤ 23) (h3 : ∀ i, 1 ≤ i → i < j → (kindS i b).st = 2) (h4 : (kindS j b).st ≠ 2) : readP b = (rpOf j (kindS j b), (kindS j b).pos, (kindS j b).st) := from_first b 23 1 0 j h1 (by omega) h3 h4
theorem cases_read (b : List UInt8) : (readP b).2.2 = 0 ∨ (readP b).2.2 = 1 ∨ (readP b).2.2 = 2 := by
  have := read_three b
  omega
/-- By the replies that bytes have. -/
theorem by_replies {P : List UInt8 → Prop} (h0 : ∀ b, (readP b).2.2 ≠ 0 → P b) (h1 : ∀ b, (readP b).2.2 = 0 → P (b.drop (readP b).2.1) → P b) : ∀ b, P b := by
  intro b
  induction h : b.length using Nat.strongRecOn generalizing b with
  | _ n ih =>
    by_cases hz : (readP b).2.2 = 0
    · have := read_good b hz
      exact h1 b hz (ih (b.drop (readP b).2.1).length (by simp; omega) _ rfl)
    · exact h0 b hz
theorem scan_le (b : List UInt8) : (scan b).1 + (scan b).2 ≤ b.length := by
  refine by_replies (P := fun b => (scan b).1 + (scan b).2 ≤ b.length) (fun b h => ?_) (fun b h ih => ?_) b
  · rcases cases_read b with h0 | h0 | h0
    · exact absurd h0 h
    · rw [scan_short h0]; exact Nat.zero_le _
    · rw [scan_wrong h0]
      have := (read_wrong b h0).1
      show 0 + _ ≤ _
      omega
  · rw [scan_good h]
    have := read_good b h
    rw [List.length_drop] at ih
    show (readP b).2.1 + _ + _ ≤ _
    omega
theorem pair_eq {a b c d : Nat} (h1 : a = c) (h2 : b = d) : (a, b) = (c, d) := by rw [h1, h2]
theorem scan_rest (b : List UInt8) : scan (b.drop (scan b).1) = (0, (scan b).2) := by
  refine by_replies (P := fun b => scan (b.drop (scan b).1) = (0, (scan b).2)) (fun b h => ?_) (fun b h ih => ?_) b
  · rcases cases_read b with h0 | h0 | h0
    · exact absurd h0 h
    · have e := scan_short h0
      rw [e]; exact e
    · have e := scan_wrong h0
      rw [e]; exact e
  · rw [scan_good h]
    dsimp only
    rw [← List.drop_drop]
    exact ih
theorem scan_zero {b : List UInt8} (h : (scan b).1 = 0) : (readP b).2.2 ≠ 0 := by
  intro h0
  rw [scan_good h0] at h
  have := read_good b h0
  simp only at h
  omega
/-- What the rest is. -/
theorem rest_short {b : List UInt8} (h : (scan b).2 = 0) : (readP (b.drop (scan b).1)).2.2 = 1 := by
  have e := scan_rest b
  have h1 := scan_zero (b := b.drop (scan b).1) (by rw [e])
  rcases cases_read (b.drop (scan b).1) with h0 | h0 | h0
  · exact absurd h0 h1
  · exact h0
  · rw [scan_wrong h0, h] at e
    have := congrArg Prod.snd e
    simp at this
theorem scan_app (b x : List UInt8) : scan (b ++ x) = if (scan b).2 = 0 then ((scan b).1 + (scan (b.drop (scan b).1 ++ x)).1, (scan (b.drop (scan b).1 ++ x)).2) else scan b := by
  refine by_replies (P := fun b => scan (b ++ x) = if (scan b).2 = 0 then ((scan b).1 + (scan (b.drop (scan b).1 ++ x)).1, (scan (b.drop (scan b).1 ++ x)).2) else scan b) (fun b h => ?_) (fun b h ih => ?_) b
  · rcases cases_read b with h0 | h0 | h0
    · exact absurd h0 h
    · rw [scan_short h0, if_pos rfl]
      simp
    · have e := read_ext b x (by rw [h0]; decide)
      rw [scan_wrong h0, if_neg (by simp), scan_wrong (by rw [e]; exact h0), e]
  · have e := read_ext b x (by rw [h]; decide)
    have hl := read_good b h
    have h2 : scan (b ++ x) = ((readP b).2.1 + (scan (b.drop (readP b).2.1 ++ x)).1, (scan (b.drop (readP b).2.1 ++ x)).2) := by
      rw [scan_good (by rw [e]; exact h), e, List.drop_append_of_le_length hl.2]
    rw [h2, scan_good h, ih]
    by_cases hz : (scan (b.drop (readP b).2.1)).2 = 0
    · rw [if_pos hz, if_pos hz]
      dsimp only
      rw [← List.drop_drop]
      exact pair_eq (by omega) rfl
    · rw [if_neg hz, if_neg hz]

/-- A place of bytes where a reply, or what is no reply, begins. -/
def Bd (A : List UInt8) (g : Nat) : Prop := g ≤ A.length ∧ scan A = (g + (scan (A.drop g)).1, (scan (A.drop g)).2)
theorem Bd.zero (A : List UInt8) : Bd A 0 := ⟨Nat.zero_le _, by simp⟩
theorem Bd.le {A : List UInt8} {g : Nat} (h : Bd A g) : g ≤ (scan A).1 := by rw [h.2]; show g ≤ g + _; omega
theorem Bd.app {A : List UInt8} {g : Nat} (h : Bd A g) (x : List UInt8) : Bd (A ++ x) g := by
  obtain ⟨h1, h2⟩ := h
  refine ⟨by simp; omega, ?_⟩
  rw [scan_app A x, List.drop_append_of_le_length h1, scan_app (A.drop g) x]
  have e1 := congrArg Prod.fst h2
  have e2 := congrArg Prod.snd h2
  simp only at e1 e2
  rw [e2]
  by_cases hz : (scan (A.drop g)).2 = 0
  · rw [if_pos hz, if_pos hz]
    simp only [List.drop_drop, ← e1]
    exact pair_eq (by omega) rfl
  · rw [if_neg hz, if_neg hz]
    exact h2
/-- The next reply. -/
theorem Bd.next {A : List UInt8} {g : Nat} (h : Bd A g) (hlt : g < (scan A).1) : (readP (A.drop g)).2.2 = 0 ∧ g + (readP (A.drop g)).2.1 ≤ (scan A).1 ∧ readP ((A.drop g).take ((scan A).1 - g)) = readP (A.drop g) ∧ Bd A (g + (readP (A.drop g)).2.1) := by
  obtain ⟨h1, h2⟩ := h
  have e1 := congrArg Prod.fst h2
  simp only at e1
  have h0 : (readP (A.drop g)).2.2 = 0 := by
    rcases cases_read (A.drop g) with h0 | h0 | h0
    · exact h0
    · rw [scan_short h0] at e1; simp only at e1; omega
    · rw [scan_wrong h0] at e1; simp only at e1; omega
  have hg := read_good _ h0
  have hs := scan_good h0
  have e3 := congrArg Prod.fst hs
  simp only at e3
  refine ⟨h0, by omega, read_cut _ _ h0 (by omega), ?_, ?_⟩
  · rw [List.length_drop] at hg; omega
  · rw [h2, hs, ← List.drop_drop]
    dsimp only
    exact pair_eq (Nat.add_assoc _ _ _).symm rfl
theorem Bd.kk {A : List UInt8} {kk : Nat} (h : Bd A kk) (h0 : (readP (A.drop kk)).2.2 = 0) : Bd A (kk + (readP (A.drop kk)).2.1) := by
  refine (h.next ?_).2.2.2
  have := read_good _ h0
  rw [h.2, scan_good h0]
  show kk < kk + (_ + _)
  omega

/-- A step whose shortness is where the bytes end. -/
def Tight (p : List UInt8 → St → St) : Prop := ∀ b s, s.st = 0 → s.pos ≤ b.length → (p b s).st = 1 → (p b s).pos = b.length
theorem Tight.comp {p q : List UInt8 → St → St} (h : Tight p) (f : Fine p) (k : Tight q) (fq : Fine q) : Tight (fun b s => q b (p b s)) := by
  intro b s h0 hp h1
  have h1 : (q b (p b s)).st = 1 := h1
  show (q b (p b s)).pos = _
  by_cases hz : (p b s).st = 0
  · exact k b _ hz (f.good b s h0 hp hz) h1
  · rw [fq.stuck b _ hz] at h1 ⊢
    exact h b s h0 hp h1
theorem Tight.opt {p : List UInt8 → St → St} (h : Tight p) (c : Prop) [Decidable c] : Tight (fun b s => if c then p b s else s) := by
  intro b s h0 hp h1
  by_cases hc : c
  · simp only [if_pos hc] at h1 ⊢; exact h b s h0 hp h1
  · simp only [if_neg hc] at h1; rw [h0] at h1; cases h1
theorem tight_text (w : List UInt8) : Tight (textS w) := by
  intro b s h0 hp h1
  unfold textS at h1 ⊢
  rw [if_pos h0] at h1 ⊢
  exact (text_short b [] w s.pos hp h1).1
theorem tight_word {fits : List UInt8 → Bool} (hc : Closed fits) (f : St → List UInt8 → Nat → Nat → St) (hf : ∀ s w p e, (f s w p e).pos = p ∧ (f s w p e).st = e) (p : List UInt8 → St → St)
    (hp : ∀ b s, p b s = if s.st = 0 then f s (wordP b fits s.pos).1 (wordP b fits s.pos).2.1 (wordP b fits s.pos).2.2 else s) : Tight p := by
  intro b s h0 hq h1
  rw [hp, if_pos h0] at h1 ⊢
  rw [(hf _ _ _ _).2] at h1
  rw [(hf _ _ _ _).1]
  exact (word_short hc b [] s.pos hq h1).1
theorem tight_line (k : Nat) : Tight (lineS k) := by
  have a1 := tight_text (wordOf k)
  have a2 : Tight (idS (idOf k)) := tight_word (num_closed (l := 1) (m := idOf k) (by decide)) (fun s w p e => { s with pos := p, st := e, id := parseV w (idOf k) }) (fun _ _ _ _ => ⟨rfl, rfl⟩) _ (fun _ _ => rfl)
  have a3 : Tight (numS (nuOf k)) := tight_word (num_closed (l := 0) (m := nuOf k) (by decide)) (fun s w p e => { s with pos := p, st := e, num := parseV w (nuOf k) }) (fun _ _ _ _ => ⟨rfl, rfl⟩) _ (fun _ _ => rfl)
  have a4 : Tight tubeS := tight_word valid_closed (fun s w p e => { s with pos := p, st := e, tube := w }) (fun _ _ _ _ => ⟨rfl, rfl⟩) _ (fun _ _ => rfl)
  have a5 : Tight (sizeS (boOf k)) := tight_word (num_closed (l := 0) (m := boOf k) (by decide)) (fun s w p e => { s with pos := p, st := e, size := parseV w (boOf k) }) (fun _ _ _ _ => ⟨rfl, rfl⟩) _ (fun _ _ => rfl)
  have f1 := fine_text (wordOf k)
  have f2 := (fine_id (idOf k)).opt (0 < idOf k)
  have f3 := (fine_num (nuOf k)).opt (0 < nuOf k)
  have f4 := fine_tube.opt (tuOf k = true)
  have f5 := (fine_size (boOf k)).opt (0 < boOf k)
  exact (((a1.comp f1 (a2.opt _) f2).comp (f1.comp f2) (a3.opt _) f3).comp ((f1.comp f2).comp f3) (a4.opt _) f4).comp (((f1.comp f2).comp f3).comp f4) (a5.opt _) f5
theorem nil_of_le {b x : List UInt8} (h : (b ++ x).length ≤ b.length) : x = [] := by
  rw [List.length_append] at h
  exact List.length_eq_zero_iff.1 (by omega)
/-- A body that is still to come is not looked at. -/
theorem kind_skip (k : Nat) (b x : List UInt8) (h : (kindS k b).st = 1) (hx : (b ++ x).length ≤ (kindS k b).pos) : (kindS k (b ++ x)).st = 1 ∧ (kindS k (b ++ x)).pos = (kindS k b).pos := by
  have same : (kindS k b).pos = b.length → (kindS k (b ++ x)).st = 1 ∧ (kindS k (b ++ x)).pos = (kindS k b).pos := fun e => by
    rw [e] at hx
    rw [nil_of_le hx, List.append_nil]
    exact ⟨h, rfl⟩
  by_cases hc : 0 < boOf k
  · obtain ⟨s5, e5⟩ : ∃ s, s = textS [13, 10] b (lineS k b st0) := ⟨_, rfl⟩
    have hk : kindS k b = textS [13, 10] b (takeS b s5) := by unfold kindS bodyS; rw [if_pos hc, ← e5]
    have F5 := (fine_line k).comp (fine_text [13, 10])
    by_cases hz : s5.st = 0
    · have p5 : s5.pos ≤ b.length := by rw [e5] at hz ⊢; exact F5.good b st0 rfl (Nat.zero_le _) hz
      have e6 : textS [13, 10] (b ++ x) (lineS k (b ++ x) st0) = s5 := by
        rw [e5]
        exact F5.ext b x st0 rfl (Nat.zero_le _) (by rw [e5] at hz; show (textS [13, 10] b (lineS k b st0)).st ≠ 1; rw [hz]; decide)
      have hk6 : kindS k (b ++ x) = textS [13, 10] (b ++ x) (takeS (b ++ x) s5) := by unfold kindS bodyS; rw [if_pos hc, e6]
      by_cases hl : b.length < s5.pos + s5.size.toNat
      · have et : takeS b s5 = { s5 with pos := s5.pos + s5.size.toNat, st := 1 } := by unfold takeS; rw [if_pos hz, if_pos hl]
        have ek : kindS k b = { s5 with pos := s5.pos + s5.size.toNat, st := 1 } := by rw [hk, et, (fine_text _).stuck _ _ (by show (1 : Nat) ≠ 0; decide)]
        rw [ek] at hx ⊢
        have hx : (b ++ x).length ≤ s5.pos + s5.size.toNat := hx
        rw [hk6]
        by_cases hl2 : (b ++ x).length < s5.pos + s5.size.toNat
        · have : takeS (b ++ x) s5 = { s5 with pos := s5.pos + s5.size.toNat, st := 1 } := by unfold takeS; rw [if_pos hz, if_pos hl2]
          rw [this, (fine_text _).stuck _ _ (by show (1 : Nat) ≠ 0; decide)]
          exact ⟨rfl, rfl⟩
        · have : takeS (b ++ x) s5 = { s5 with pos := s5.pos + s5.size.toNat, body := ((b ++ x).drop s5.pos).take s5.size.toNat } := by unfold takeS; rw [if_pos hz, if_neg hl2]
          rw [this]
          have hn : (b ++ x)[s5.pos + s5.size.toNat]? = none := List.getElem?_eq_none (by omega)
          have ht : textP (b ++ x) [13, 10] (s5.pos + s5.size.toNat) = (s5.pos + s5.size.toNat, 1) := by rw [text_cons, hn]
          unfold textS
          dsimp only
          rw [if_pos hz, ht]
          exact ⟨rfl, rfl⟩
      · refine same ?_
        have et : takeS b s5 = { s5 with pos := s5.pos + s5.size.toNat, body := (b.drop s5.pos).take s5.size.toNat } := by unfold takeS; rw [if_pos hz, if_neg hl]
        rw [hk, et] at h ⊢
        exact tight_text [13, 10] b _ hz (by show s5.pos + s5.size.toNat ≤ _; omega) h
    · refine same ?_
      have et : takeS b s5 = s5 := fine_take.stuck b s5 hz
      rw [hk, et, (fine_text _).stuck _ _ hz] at h ⊢
      have T5 := (tight_line k).comp (fine_line k) (tight_text [13, 10]) (fine_text [13, 10])
      rw [e5] at h ⊢
      exact T5 b st0 rfl (Nat.zero_le _) h
  · refine same ?_
    have hk : kindS k b = textS [13, 10] b (lineS k b st0) := by unfold kindS bodyS; rw [if_neg hc]
    have T5 := (tight_line k).comp (fine_line k) (tight_text [13, 10]) (fine_text [13, 10])
    rw [hk] at h ⊢
    exact T5 b st0 rfl (Nat.zero_le _) h
theorem read_skip (b x : List UInt8) (h : (readP b).2.2 = 1) (hx : (b ++ x).length ≤ (readP b).2.1) : (readP (b ++ x)).2 = ((readP b).2.1, 1) := by
  rcases read_pick b with ⟨j, h1, h2, h3, h4, e⟩ | ⟨_, h2, _⟩
  · rw [e] at h hx ⊢
    obtain ⟨a, c⟩ := kind_skip j b x h hx
    have := read_first (b ++ x) j h1 h2 (fun i hi hi2 => by rw [kind_ext i b x (by rw [h3 i hi hi2]; decide)]; exact h3 i hi hi2) (by rw [a]; decide)
    rw [this, a, c]
  · omega

/-- A reader: what came, told up to gone, whole up to whole; where to look next; how many bytes are spoilt. -/
structure Rd where
  came : List UInt8
  gone : Nat
  whole : Nat
  look : Nat
  spoilt : Nat
/-- It stands where it should when A came and g bytes of it are told. -/
structure Inv (A : List UInt8) (g : Nat) (s : Rd) : Prop where
  bd : Bd A g
  whole : s.whole = s.gone + ((scan A).1 - g)
  fits : s.whole ≤ s.came.length
  spoilt : s.spoilt = (scan A).2
  held : s.came.drop s.gone = if (scan A).2 = 0 then A.drop g else (A.drop g).take ((scan A).1 - g)
  look : (scan A).2 = 0 → s.look = s.whole + (readP (A.drop (scan A).1)).2.1
/-- In the midst of Feed: whole up to kk. -/
structure Mid (A : List UInt8) (g : Nat) (s : Rd) (kk : Nat) : Prop where
  bd : Bd A g
  bk : Bd A kk
  le : g ≤ kk
  whole : s.whole = s.gone + (kk - g)
  fits : s.whole ≤ s.came.length
  spoilt : s.spoilt = 0
  held : s.came.drop s.gone = A.drop g
  look : s.look < s.came.length ∨ (s.look = s.whole + (readP (A.drop kk)).2.1 ∧ (readP (A.drop kk)).2.2 = 1)
theorem Mid.gone {A : List UInt8} {g kk : Nat} {s : Rd} (h : Mid A g s kk) : s.gone ≤ s.came.length := by have := h.whole; have := h.fits; omega
theorem Mid.len {A : List UInt8} {g kk : Nat} {s : Rd} (h : Mid A g s kk) : s.came.length = s.gone + (A.length - g) := by
  have := congrArg List.length h.held
  have := h.gone
  simp at *
  omega
theorem Mid.tail {A : List UInt8} {g kk : Nat} {s : Rd} (h : Mid A g s kk) : s.came.drop s.whole = A.drop kk := by
  have := h.le
  rw [h.whole, ← List.drop_drop, h.held, List.drop_drop]
  congr 1
  omega
/-- Feed begins. -/
theorem Inv.start {A : List UInt8} {g : Nat} {s : Rd} (h : Inv A g s) (h0 : s.spoilt = 0) (b : List UInt8) : Mid (A ++ b) g { s with came := s.came ++ b } (scan A).1 := by
  have hz : (scan A).2 = 0 := by rw [← h.spoilt]; exact h0
  have hle := scan_le A
  have hg := h.bd.le
  have hgone : s.gone ≤ s.came.length := by have := h.whole; have := h.fits; omega
  have hh := h.held
  rw [if_pos hz] at hh
  have hlen : s.came.length = s.gone + (A.length - g) := by
    have := congrArg List.length hh
    simp at this
    have := h.bd.1
    omega
  refine ⟨h.bd.app b, ?_, hg, h.whole, by have := h.fits; simp; omega, h0, ?_, ?_⟩
  · refine ⟨by simp; omega, ?_⟩
    rw [scan_app A b, if_pos hz, List.drop_append_of_le_length (by omega)]
  · show (s.came ++ b).drop s.gone = _
    rw [List.drop_append_of_le_length hgone, hh, List.drop_append_of_le_length h.bd.1]
  · show s.look < (s.came ++ b).length ∨ _
    by_cases hl : s.look < (s.came ++ b).length
    · exact .inl hl
    · right
      have e := h.look hz
      have hs := rest_short hz
      have hsk := read_skip (A.drop (scan A).1) b hs (by
        have := h.whole
        simp at hl ⊢
        omega)
      rw [List.drop_append_of_le_length (by omega), hsk]
      dsimp only
      exact ⟨e, rfl⟩
/-- A round of Feed finds a whole reply. -/
theorem Mid.good {A : List UInt8} {g kk : Nat} {s : Rd} (h : Mid A g s kk) (h0 : (readP (A.drop kk)).2.2 = 0) : Mid A g { s with whole := s.whole + (readP (A.drop kk)).2.1, look := s.whole + (readP (A.drop kk)).2.1 } (kk + (readP (A.drop kk)).2.1) := by
  have hg := read_good _ h0
  have hl := h.len
  have hw := h.whole
  have hle := h.le
  have hk := h.bk.1
  rw [List.length_drop] at hg
  refine ⟨h.bd, h.bk.kk h0, by omega, by show s.whole + _ = s.gone + _; omega, by show s.whole + _ ≤ s.came.length; omega, h.spoilt, h.held, ?_⟩
  show s.whole + _ < s.came.length ∨ _
  by_cases hlt : s.whole + (readP (A.drop kk)).2.1 < s.came.length
  · exact .inl hlt
  · right
    have e : A.drop (kk + (readP (A.drop kk)).2.1) = [] := List.drop_of_length_le (by omega)
    rw [e, read_nil]
    exact ⟨rfl, rfl⟩
theorem Mid.short {A : List UInt8} {g kk : Nat} {s : Rd} (h : Mid A g s kk) (h0 : (readP (A.drop kk)).2.2 = 1) : Mid A g { s with look := s.whole + (readP (A.drop kk)).2.1 } kk ∧ s.came.length ≤ s.whole + (readP (A.drop kk)).2.1 := by
  have hs := read_short _ h0
  have hl := h.len
  have hw := h.whole
  have hle := h.le
  have hk := h.bk.1
  rw [List.length_drop] at hs
  exact ⟨⟨h.bd, h.bk, h.le, h.whole, h.fits, h.spoilt, h.held, .inr ⟨rfl, h0⟩⟩, by omega⟩
theorem Mid.end {A : List UInt8} {g kk : Nat} {s : Rd} (h : Mid A g s kk) (hl : s.came.length ≤ s.look) : Inv A g s := by
  obtain ⟨e, h1⟩ : s.look = s.whole + (readP (A.drop kk)).2.1 ∧ (readP (A.drop kk)).2.2 = 1 := by
    rcases h.look with hlt | h2
    · omega
    · exact h2
  have es : scan A = (kk, 0) := by rw [h.bk.2, scan_short h1]; rfl
  refine ⟨h.bd, ?_, h.fits, ?_, ?_, fun _ => ?_⟩
  · rw [es]; exact h.whole
  · rw [es]; exact h.spoilt
  · rw [es, if_pos rfl]; exact h.held
  · rw [es]; exact e
theorem Mid.wrong {A : List UInt8} {g kk : Nat} {s : Rd} (h : Mid A g s kk) (h0 : (readP (A.drop kk)).2.2 = 2) (L : Nat) : Inv A g ⟨(s.came.drop s.gone).take (s.whole - s.gone), 0, s.whole - s.gone, L, (readP (A.drop kk)).2.1 + 1⟩ := by
  have es : scan A = (kk, (readP (A.drop kk)).2.1 + 1) := by rw [h.bk.2, scan_wrong h0]; rfl
  have hw := h.whole
  have hf := h.fits
  refine ⟨h.bd, ?_, ?_, ?_, ?_, fun hz => ?_⟩
  · rw [es]; show s.whole - s.gone = 0 + _; omega
  · show s.whole - s.gone ≤ ((s.came.drop s.gone).take _).length
    simp; omega
  · rw [es]
  · rw [es, if_neg (by simp)]
    show ((s.came.drop s.gone).take (s.whole - s.gone)).drop 0 = _
    rw [List.drop_zero, h.held]
    congr 1
    show s.whole - s.gone = kk - g
    omega
  · rw [es] at hz; simp at hz
theorem Inv.more {A : List UInt8} {g : Nat} {s : Rd} (h : Inv A g s) (h0 : s.spoilt ≠ 0) (b : List UInt8) : Inv (A ++ b) g s := by
  have hz : (scan A).2 ≠ 0 := by rw [← h.spoilt]; exact h0
  have hle := scan_le A
  have es : scan (A ++ b) = scan A := by rw [scan_app, if_neg hz]
  have hh := h.held
  rw [if_neg hz] at hh
  refine ⟨h.bd.app b, by rw [es]; exact h.whole, h.fits, by rw [es]; exact h.spoilt, ?_, fun h2 => absurd (by rw [es] at h2; exact h2) hz⟩
  rw [es, if_neg hz, hh, List.drop_append_of_le_length h.bd.1, List.take_append_of_le_length (by simp; omega)]
/-- What Held tells. -/
def heldN (A : List UInt8) (g : Nat) : Nat := if (scan A).2 = 0 then A.length - g else (scan A).1 - g + (scan A).2
theorem Inv.heldN {A : List UInt8} {g : Nat} {s : Rd} (h : Inv A g s) : s.came.length - s.gone + s.spoilt = heldN A g := by
  have hh := congrArg List.length h.held
  have hle := scan_le A
  have hg := h.bd.le
  have h1 := h.bd.1
  have hs := h.spoilt
  unfold Go.Proofs.YtomgnailgddchaaDoor.heldN
  by_cases hz : (scan A).2 = 0
  · rw [if_pos hz] at hh ⊢
    simp at hh
    omega
  · rw [if_neg hz] at hh ⊢
    simp at hh
    omega
/-- keep: what is told is let go, up to a place. -/
theorem Inv.keep {A : List UInt8} {g : Nat} {s : Rd} (h : Inv A g s) : Inv A g ⟨(s.came.drop s.gone).take (s.came.length - s.gone), 0, s.whole - s.gone, s.look - s.gone, s.spoilt⟩ := by
  have hw := h.whole
  have hf := h.fits
  refine ⟨h.bd, by show s.whole - s.gone = 0 + _; omega, ?_, h.spoilt, ?_, fun hz => ?_⟩
  · show s.whole - s.gone ≤ ((s.came.drop s.gone).take _).length
    simp; omega
  · show ((s.came.drop s.gone).take (s.came.length - s.gone)).drop 0 = _
    rw [List.drop_zero, List.take_of_length_le (by simp)]
    exact h.held
  · have := h.look hz
    show s.look - s.gone = s.whole - s.gone + _
    omega
/-- Next tells a reply. -/
theorem Inv.next {A : List UInt8} {g : Nat} {s : Rd} (h : Inv A g s) (hlt : g < (scan A).1) : (readP (A.drop g)).2.2 = 0 ∧ readP ((s.came.drop s.gone).take (s.whole - s.gone)) = readP (A.drop g) ∧ s.gone + (readP (A.drop g)).2.1 ≤ s.whole ∧ Inv A (g + (readP (A.drop g)).2.1) { s with gone := s.gone + (readP (A.drop g)).2.1 } := by
  obtain ⟨h0, h1, h2, h3⟩ := h.bd.next hlt
  have hw := h.whole
  have hh := h.held
  have e : (s.came.drop s.gone).take (s.whole - s.gone) = (A.drop g).take ((scan A).1 - g) := by
    rw [hh, show s.whole - s.gone = (scan A).1 - g by omega]
    split
    · rfl
    · rw [List.take_take]; congr 1; omega
  refine ⟨h0, by rw [e]; exact h2, by omega, h3, by show s.whole = s.gone + _ + _; omega, h.fits, h.spoilt, ?_, h.look⟩
  show s.came.drop (s.gone + _) = _
  rw [← List.drop_drop, hh]
  split
  · rw [List.drop_drop]
  · rw [List.drop_take, List.drop_drop]
    congr 1
    omega
theorem Inv.nil : Inv [] 0 ⟨[], 0, 0, 0, 0⟩ := by
  refine ⟨Bd.zero _, ?_, Nat.le_refl _, ?_, ?_, fun _ => ?_⟩
  · rw [scan_nil]; rfl
  · rw [scan_nil]
  · rw [scan_nil]; rfl
  · rw [scan_nil]; show 0 = 0 + (readP []).2.1; rw [read_nil]; rfl
end Go.Proofs.YtomgnailgddchaaDoor

namespace Go.Proofs.YtomgnailgddchaaDoor
open Go.RowKit

theorem St.keep_text (w b : List UInt8) (s : St) : (textS w b s).id = s.id ∧ (textS w b s).num = s.num ∧ (textS w b s).tube = s.tube ∧ (textS w b s).size = s.size ∧ (textS w b s).body = s.body := by
  unfold textS; split <;> exact ⟨rfl, rfl, rfl, rfl, rfl⟩
theorem St.keep_id (m : Int) (b : List UInt8) (s : St) : (idS m b s).num = s.num ∧ (idS m b s).tube = s.tube ∧ (idS m b s).size = s.size ∧ (idS m b s).body = s.body := by
  unfold idS; split <;> exact ⟨rfl, rfl, rfl, rfl⟩
theorem St.keep_num (m : Int) (b : List UInt8) (s : St) : (numS m b s).id = s.id ∧ (numS m b s).tube = s.tube ∧ (numS m b s).size = s.size ∧ (numS m b s).body = s.body := by
  unfold numS; split <;> exact ⟨rfl, rfl, rfl, rfl⟩
theorem St.keep_tube (b : List UInt8) (s : St) : (tubeS b s).id = s.id ∧ (tubeS b s).num = s.num ∧ (tubeS b s).size = s.size ∧ (tubeS b s).body = s.body := by
  unfold tubeS; split <;> exact ⟨rfl, rfl, rfl, rfl⟩
theorem St.keep_size (m : Int) (b : List UInt8) (s : St) : (sizeS m b s).id = s.id ∧ (sizeS m b s).num = s.num ∧ (sizeS m b s).tube = s.tube ∧ (sizeS m b s).body = s.body := by
  unfold sizeS; split <;> exact ⟨rfl, rfl, rfl, rfl⟩
theorem St.keep_take (b : List UInt8) (s : St) : (takeS b s).id = s.id ∧ (takeS b s).num = s.num ∧ (takeS b s).tube = s.tube ∧ (takeS b s).size = s.size := by
  unfold takeS; split
  · split <;> exact ⟨rfl, rfl, rfl, rfl⟩
  · exact ⟨rfl, rfl, rfl, rfl⟩
/-- So far a trial has found a text. -/
def Got (b : List UInt8) (s : St) (t : List UInt8) : Prop := s.st = 0 ∧ s.pos ≤ b.length ∧ b.take s.pos = t
theorem take_more {b w r : List UInt8} {p : Nat} (h : b.drop p = w ++ r) : b.take (p + w.length) = b.take p ++ w := by
  rw [List.take_add, h, List.take_left]
theorem got_text {w b t : List UInt8} {s : St} (h : Got b s t) (h0 : (textS w b s).st = 0) : Got b (textS w b s) (t ++ w) := by
  obtain ⟨g0, g1, g2⟩ := h
  unfold textS at h0 ⊢
  rw [if_pos g0] at h0 ⊢
  obtain ⟨a, c, d⟩ := text_good b w s.pos g1 h0
  refine ⟨h0, by show (textP b w s.pos).1 ≤ _; omega, ?_⟩
  show b.take (textP b w s.pos).1 = _
  rw [a, take_more c, g2]
theorem got_word {fits : List UInt8 → Bool} (hc : Closed fits) {b t : List UInt8} {p : Nat} (ht : b.take p = t) (h : (wordP b fits p).2.2 = 0) : (wordP b fits p).2.1 ≤ b.length ∧ b.take (wordP b fits p).2.1 = t ++ 32 :: (wordP b fits p).1 ∧ fits (wordP b fits p).1 = true := by
  obtain ⟨a, _, c, d, e, _⟩ := word_good hc b p h
  refine ⟨Nat.le_of_lt e, ?_, c⟩
  rw [d, show p + 1 + (wordP b fits p).1.length = p + (32 :: (wordP b fits p).1).length by simp; omega, take_more (r := b.drop (wordP b fits p).2.1) (by rw [a]; rfl), ht]
theorem fits_value {l m : Int} {s : List UInt8} (h : numFits l m s = true) : s = decL (parseV s m) ∧ l ≤ parseV s m ∧ parseV s m ≤ m ∧ 0 ≤ parseV s m := by
  obtain ⟨u, rfl, h1, h2⟩ := fits_dec.1 h
  rw [dec_value h2]
  exact ⟨rfl, h1, h2, by omega⟩
theorem got_id {m : Int} {b t : List UInt8} {s : St} (h : Got b s t) (h0 : (idS m b s).st = 0) : Got b (idS m b s) (t ++ 32 :: decL (idS m b s).id) ∧ 1 ≤ (idS m b s).id ∧ (idS m b s).id ≤ m := by
  obtain ⟨g0, g1, g2⟩ := h
  unfold idS at h0 ⊢
  rw [if_pos g0] at h0 ⊢
  obtain ⟨a, c, d⟩ := got_word (num_closed (l := 1) (m := m) (by decide)) g2 h0
  obtain ⟨e1, e2, e3, _⟩ := fits_value d
  refine ⟨⟨h0, a, ?_⟩, e2, e3⟩
  show b.take (wordP b (numFits 1 m) s.pos).2.1 = _
  rw [c]
  exact congrArg (fun x => t ++ 32 :: x) e1
theorem got_num {m : Int} {b t : List UInt8} {s : St} (h : Got b s t) (h0 : (numS m b s).st = 0) : Got b (numS m b s) (t ++ 32 :: decL (numS m b s).num) ∧ 0 ≤ (numS m b s).num ∧ (numS m b s).num ≤ m := by
  obtain ⟨g0, g1, g2⟩ := h
  unfold numS at h0 ⊢
  rw [if_pos g0] at h0 ⊢
  obtain ⟨a, c, d⟩ := got_word (num_closed (l := 0) (m := m) (by decide)) g2 h0
  obtain ⟨e1, e2, e3, _⟩ := fits_value d
  refine ⟨⟨h0, a, ?_⟩, e2, e3⟩
  show b.take (wordP b (numFits 0 m) s.pos).2.1 = _
  rw [c]
  exact congrArg (fun x => t ++ 32 :: x) e1
theorem got_size {m : Int} {b t : List UInt8} {s : St} (h : Got b s t) (h0 : (sizeS m b s).st = 0) : Got b (sizeS m b s) (t ++ 32 :: decL (sizeS m b s).size) ∧ 0 ≤ (sizeS m b s).size ∧ (sizeS m b s).size ≤ m := by
  obtain ⟨g0, g1, g2⟩ := h
  unfold sizeS at h0 ⊢
  rw [if_pos g0] at h0 ⊢
  obtain ⟨a, c, d⟩ := got_word (num_closed (l := 0) (m := m) (by decide)) g2 h0
  obtain ⟨e1, e2, e3, _⟩ := fits_value d
  refine ⟨⟨h0, a, ?_⟩, e2, e3⟩
  show b.take (wordP b (numFits 0 m) s.pos).2.1 = _
  rw [c]
  exact congrArg (fun x => t ++ 32 :: x) e1
theorem got_tube {b t : List UInt8} {s : St} (h : Got b s t) (h0 : (tubeS b s).st = 0) : Got b (tubeS b s) (t ++ 32 :: (tubeS b s).tube) ∧ validB (tubeS b s).tube = true := by
  obtain ⟨g0, g1, g2⟩ := h
  unfold tubeS at h0 ⊢
  rw [if_pos g0] at h0 ⊢
  obtain ⟨a, c, d⟩ := got_word valid_closed g2 h0
  exact ⟨⟨h0, a, c⟩, d⟩
theorem got_take {b t : List UInt8} {s : St} (h : Got b s t) (h0 : (takeS b s).st = 0) : Got b (takeS b s) (t ++ (takeS b s).body) ∧ (takeS b s).body.length = s.size.toNat := by
  obtain ⟨g0, g1, g2⟩ := h
  unfold takeS at h0 ⊢
  rw [if_pos g0] at h0 ⊢
  by_cases hl : b.length < s.pos + s.size.toNat
  · rw [if_pos hl] at h0; cases h0
  · rw [if_neg hl] at h0 ⊢
    have hb : ((b.drop s.pos).take s.size.toNat).length = s.size.toNat := by simp; omega
    refine ⟨⟨h0, by show s.pos + _ ≤ _; omega, ?_⟩, hb⟩
    show b.take (s.pos + s.size.toNat) = t ++ _
    rw [List.take_add, g2]
theorem Fine.was {p : List UInt8 → St → St} (h : Fine p) {b : List UInt8} {s : St} (h0 : (p b s).st = 0) : s.st = 0 := by
  by_cases hz : s.st = 0
  · exact hz
  · rw [h.stuck b s hz] at h0; exact h0
theorem table : ∀ k, k < 24 → 0 ≤ idOf k ∧ 0 ≤ nuOf k ∧ 0 ≤ boOf k ∧ idOf k ≤ 4611686018427387903 ∧ nuOf k ≤ 4294967295 ∧ boOf k ≤ 4294967295 := by decide
/-- What is read is written just so. -/
theorem kind_put (k : Nat) (hk : 1 ≤ k ∧ k ≤ 23) (b : List UInt8) (h : (kindS k b).st = 0) : b.take (kindS k b).pos = putL (rpOf k (kindS k b)) ∧ rightB (rpOf k (kindS k b)) = true := by
  obtain ⟨t1, t2, t3, _⟩ := table k (by omega)
  obtain ⟨s1, e1⟩ : ∃ s, s = textS (wordOf k) b st0 := ⟨_, rfl⟩
  obtain ⟨s2, e2⟩ : ∃ s, s = if 0 < idOf k then idS (idOf k) b s1 else s1 := ⟨_, rfl⟩
  obtain ⟨s3, e3⟩ : ∃ s, s = if 0 < nuOf k then numS (nuOf k) b s2 else s2 := ⟨_, rfl⟩
  obtain ⟨s4, e4⟩ : ∃ s, s = if tuOf k = true then tubeS b s3 else s3 := ⟨_, rfl⟩
  obtain ⟨s5, e5⟩ : ∃ s, s = if 0 < boOf k then sizeS (boOf k) b s4 else s4 := ⟨_, rfl⟩
  obtain ⟨s6, e6⟩ : ∃ s, s = bodyS k b s5 := ⟨_, rfl⟩
  obtain ⟨s7, e7⟩ : ∃ s, s = textS [13, 10] b s6 := ⟨_, rfl⟩
  have ek : kindS k b = s7 := by rw [e7, e6, e5, e4, e3, e2, e1]; rfl
  rw [ek] at h ⊢
  have z6 : s6.st = 0 := (fine_text [13, 10]).was (by rw [← e7]; exact h)
  have z5 : s5.st = 0 := (fine_body k).was (by rw [← e6]; exact z6)
  have z4 : s4.st = 0 := ((fine_size (boOf k)).opt (0 < boOf k)).was (b := b) (by show (if 0 < boOf k then sizeS (boOf k) b s4 else s4).st = 0; rw [← e5]; exact z5)
  have z3 : s3.st = 0 := (fine_tube.opt (tuOf k = true)).was (b := b) (by show (if tuOf k = true then tubeS b s3 else s3).st = 0; rw [← e4]; exact z4)
  have z2 : s2.st = 0 := ((fine_num (nuOf k)).opt (0 < nuOf k)).was (b := b) (by show (if 0 < nuOf k then numS (nuOf k) b s2 else s2).st = 0; rw [← e3]; exact z3)
  have z1 : s1.st = 0 := ((fine_id (idOf k)).opt (0 < idOf k)).was (b := b) (by show (if 0 < idOf k then idS (idOf k) b s1 else s1).st = 0; rw [← e2]; exact z2)
  have k1 := St.keep_text (wordOf k) b st0
  rw [← e1] at k1
  have g1 : Got b s1 (wordOf k) := by
    have := got_text (w := wordOf k) (b := b) (t := []) (s := st0) ⟨rfl, Nat.zero_le _, rfl⟩ (by rw [← e1]; exact z1)
    rw [← e1] at this
    exact this
  have g2 : Got b s2 (wordOf k ++ if 0 < idOf k then 32 :: decL s2.id else []) ∧ min (idOf k) 1 ≤ s2.id ∧ s2.id ≤ idOf k ∧ s2.num = 0 ∧ s2.tube = [] ∧ s2.body = [] := by
    by_cases hc : 0 < idOf k
    · rw [if_pos hc] at e2
      rw [if_pos hc]
      obtain ⟨a, c, d⟩ := got_id (m := idOf k) g1 (by rw [← e2]; exact z2)
      have kk := St.keep_id (idOf k) b s1
      rw [← e2] at a c d kk
      exact ⟨a, by omega, d, kk.1.trans k1.2.1, kk.2.1.trans k1.2.2.1, kk.2.2.2.trans k1.2.2.2.2⟩
    · rw [if_neg hc] at e2
      rw [if_neg hc, List.append_nil, e2, k1.1]
      exact ⟨g1, by show min (idOf k) 1 ≤ 0; omega, t1, k1.2.1, k1.2.2.1, k1.2.2.2.2⟩
  have g3 : Got b s3 (wordOf k ++ (if 0 < idOf k then 32 :: decL s3.id else []) ++ if 0 < nuOf k then 32 :: decL s3.num else []) ∧ s3.id = s2.id ∧ 0 ≤ s3.num ∧ s3.num ≤ nuOf k ∧ s3.tube = [] ∧ s3.body = [] := by
    by_cases hc : 0 < nuOf k
    · rw [if_pos hc] at e3
      rw [if_pos hc]
      obtain ⟨a, c, d⟩ := got_num (m := nuOf k) g2.1 (by rw [← e3]; exact z3)
      have kk := St.keep_num (nuOf k) b s2
      rw [← e3] at a c d kk
      rw [kk.1]
      exact ⟨a, rfl, c, d, kk.2.1.trans g2.2.2.2.2.1, kk.2.2.2.trans g2.2.2.2.2.2⟩
    · rw [if_neg hc] at e3
      rw [if_neg hc, List.append_nil, e3, g2.2.2.2.1]
      exact ⟨g2.1, rfl, Int.le_refl _, t2, g2.2.2.2.2⟩
  have g4 : Got b s4 (wordOf k ++ (if 0 < idOf k then 32 :: decL s4.id else []) ++ (if 0 < nuOf k then 32 :: decL s4.num else []) ++ if tuOf k = true then 32 :: s4.tube else []) ∧ s4.id = s3.id ∧ s4.num = s3.num ∧ (if tuOf k = true then validB s4.tube else s4.tube.isEmpty) = true ∧ s4.body = [] := by
    by_cases hc : tuOf k = true
    · rw [if_pos hc] at e4
      rw [if_pos hc, if_pos hc]
      obtain ⟨a, c⟩ := got_tube g3.1 (by rw [← e4]; exact z4)
      have kk := St.keep_tube b s3
      rw [← e4] at a c kk
      rw [kk.1, kk.2.1]
      exact ⟨a, rfl, rfl, c, kk.2.2.2.trans g3.2.2.2.2.2⟩
    · rw [if_neg hc] at e4
      rw [if_neg hc, if_neg hc, List.append_nil, e4, g3.2.2.2.2.1]
      exact ⟨g3.1, rfl, rfl, rfl, g3.2.2.2.2.2⟩
  have g5 : Got b s5 (wordOf k ++ (if 0 < idOf k then 32 :: decL s5.id else []) ++ (if 0 < nuOf k then 32 :: decL s5.num else []) ++ (if tuOf k = true then 32 :: s5.tube else []) ++ if 0 < boOf k then 32 :: decL s5.size else []) ∧ s5.id = s4.id ∧ s5.num = s4.num ∧ s5.tube = s4.tube ∧ (0 < boOf k → 0 ≤ s5.size ∧ s5.size ≤ boOf k) ∧ s5.body = [] := by
    by_cases hc : 0 < boOf k
    · rw [if_pos hc] at e5
      rw [if_pos hc]
      obtain ⟨a, c, d⟩ := got_size (m := boOf k) g4.1 (by rw [← e5]; exact z5)
      have kk := St.keep_size (boOf k) b s4
      rw [← e5] at a c d kk
      rw [kk.1, kk.2.1, kk.2.2.1]
      exact ⟨a, rfl, rfl, rfl, fun _ => ⟨c, d⟩, kk.2.2.2.trans g4.2.2.2.2⟩
    · rw [if_neg hc] at e5
      rw [if_neg hc, List.append_nil, e5]
      exact ⟨g4.1, rfl, rfl, rfl, fun h => absurd h hc, g4.2.2.2.2⟩
  have g6 : Got b s6 (wordOf k ++ (if 0 < idOf k then 32 :: decL s6.id else []) ++ (if 0 < nuOf k then 32 :: decL s6.num else []) ++ (if tuOf k = true then 32 :: s6.tube else []) ++ (if 0 < boOf k then 32 :: decL s6.body.length else []) ++ if 0 < boOf k then 13 :: 10 :: s6.body else []) ∧ s6.id = s5.id ∧ s6.num = s5.num ∧ s6.tube = s5.tube ∧ (s6.body.length : Int) ≤ boOf k := by
    by_cases hc : 0 < boOf k
    · unfold bodyS at e6
      rw [if_pos hc] at e6
      rw [if_pos hc] at g5
      rw [if_pos hc, if_pos hc]
      have zt : (textS [13, 10] b s5).st = 0 := fine_take.was (by rw [← e6]; exact z6)
      have a1 := got_text (w := [13, 10]) g5.1 zt
      obtain ⟨a2, a3⟩ := got_take a1 (by rw [← e6]; exact z6)
      have kt := St.keep_text [13, 10] b s5
      have kk := St.keep_take b (textS [13, 10] b s5)
      rw [← e6] at a2 a3 kk
      rw [kk.1.trans kt.1, kk.2.1.trans kt.2.1, kk.2.2.1.trans kt.2.2.1]
      obtain ⟨q1, q2⟩ := g5.2.2.2.2.1 hc
      rw [kt.2.2.2.1] at a3
      have hs : (s6.body.length : Int) = s5.size := by omega
      rw [hs]
      refine ⟨?_, rfl, rfl, rfl, q2⟩
      have : ∀ (x : List UInt8), x ++ [13, 10] ++ s6.body = x ++ 13 :: 10 :: s6.body := fun x => by simp
      rw [this] at a2
      exact a2
    · unfold bodyS at e6
      rw [if_neg hc] at e6
      rw [if_neg hc] at g5
      rw [if_neg hc, if_neg hc, List.append_nil, e6, g5.2.2.2.2.2]
      exact ⟨g5.1, rfl, rfl, rfl, t3⟩
  have g7 := got_text (w := [13, 10]) g6.1 (by rw [← e7]; exact h)
  have k7 := St.keep_text [13, 10] b s6
  rw [← e7] at g7 k7
  constructor
  · rw [g7.2.2]
    unfold putL fieldsL rpOf
    simp only [Int.toNat_natCast]
    rw [k7.1, k7.2.1, k7.2.2.1, k7.2.2.2.2]
    by_cases hc : 0 < boOf k
    · simp [hc]
    · simp [hc]
  · unfold rightB rpOf
    simp only [Int.toNat_natCast]
    rw [k7.1, k7.2.1, k7.2.2.1, k7.2.2.2.2, g6.2.1, g6.2.2.1, g6.2.2.2.1, g5.2.1, g5.2.2.1, g5.2.2.2.1, g4.2.1, g4.2.2.1, g3.2.1]
    simp only [Bool.and_eq_true, decide_eq_true_eq]
    exact ⟨⟨⟨⟨⟨⟨⟨by omega, by omega⟩, g2.2.1⟩, g2.2.2.1⟩, g3.2.2.1⟩, g3.2.2.2.1⟩, g6.2.2.2.2⟩, g4.2.2.2.1⟩

theorem right_facts {r : Rp} (h : rightB r = true) : 1 ≤ r.kind ∧ r.kind ≤ 23 ∧ min (idOf r.kind.toNat) 1 ≤ r.id ∧ r.id ≤ idOf r.kind.toNat ∧ 0 ≤ r.num ∧ r.num ≤ nuOf r.kind.toNat ∧ (r.body.length : Int) ≤ boOf r.kind.toNat ∧ (if tuOf r.kind.toNat = true then validB r.tube else r.tube.isEmpty) = true := by
  unfold rightB at h
  simp only [Bool.and_eq_true, decide_eq_true_eq] at h
  obtain ⟨⟨⟨⟨⟨⟨⟨a, b⟩, c⟩, d⟩, e⟩, f⟩, g⟩, i⟩ := h
  exact ⟨a, b, c, d, e, f, g, i⟩
theorem dec_short {n : Int} (h1 : n ≤ 4611686018427387903) : (decL n).length ≤ 200 := by
  unfold decL
  have := Lib.itoa_length_le (n.toNat : Int) (by omega) (by omega)
  rw [Lib.itoa_nonneg] at this
  exact Nat.le_trans this (by decide)
theorem num_is {l m : Int} (hl : l ≤ 1) {b : List UInt8} {p : Nat} {n : Int} {c : UInt8} {r : List UInt8} (h : b.drop p = 32 :: (decL n ++ c :: r)) (h0 : 0 ≤ n) (h1 : l ≤ n) (h2 : n ≤ m) (hm : m ≤ 4611686018427387903) (hc : c = 32 ∨ c = 13) :
    wordP b (numFits l m) p = (decL n, p + 1 + (decL n).length, 0) ∧ parseV (decL n) m = n := by
  have hf : numFits l m (decL n) = true := fits_dec.2 ⟨n.toNat, rfl, by omega, by omega⟩
  refine ⟨word_is (num_closed hl) b p (decL n) c r h (dec_ne _) hf (dec_short (by omega)) (num_ends _ c (by rcases hc with rfl | rfl <;> decide)), ?_⟩
  have := dec_value (m := m) (u := n.toNat) (by omega)
  rw [show (n.toNat : Int) = n by omega] at this
  exact this
theorem drop_on {b w r : List UInt8} {p : Nat} (h : b.drop p = w ++ r) : b.drop (p + w.length) = r := by
  rw [← List.drop_drop, h, List.drop_left]
theorem heads {c : Prop} [Decidable c] {w T : List UInt8} (h : ∃ x r, T = x :: r ∧ (x = 32 ∨ x = 13)) : ∃ x r, (if c then 32 :: w else []) ++ T = x :: r ∧ (x = 32 ∨ x = 13) := by
  by_cases hc : c
  · rw [if_pos hc]; exact ⟨32, w ++ T, rfl, .inl rfl⟩
  · rw [if_neg hc]; exact h
/-- What is written is read. -/
theorem kind_read {r : Rp} (h : rightB r = true) (x : List UInt8) : ∃ z, kindS r.kind.toNat (putL r ++ x) = ⟨(putL r).length, 0, r.id, r.num, r.tube, z, r.body⟩ := by
  obtain ⟨h1, h2, h3, h4, h5, h6, h7, h8⟩ := right_facts h
  obtain ⟨k, hk⟩ : ∃ k, k = r.kind.toNat := ⟨_, rfl⟩
  rw [← hk] at h3 h4 h6 h7 h8 ⊢
  obtain ⟨t1, t2, t3, t4, t5, t6⟩ := table k (by omega)
  obtain ⟨B, hB⟩ : ∃ B, B = putL r ++ x := ⟨_, rfl⟩
  obtain ⟨T5, hT5⟩ : ∃ T, T = [13, 10] ++ ((if 0 < boOf k then r.body ++ [13, 10] else []) ++ x) := ⟨_, rfl⟩
  obtain ⟨T4, hT4⟩ : ∃ T, T = (if 0 < boOf k then 32 :: decL r.body.length else []) ++ T5 := ⟨_, rfl⟩
  obtain ⟨T3, hT3⟩ : ∃ T, T = (if tuOf k = true then 32 :: r.tube else []) ++ T4 := ⟨_, rfl⟩
  obtain ⟨T2, hT2⟩ : ∃ T, T = (if 0 < nuOf k then 32 :: decL r.num else []) ++ T3 := ⟨_, rfl⟩
  obtain ⟨T1, hT1⟩ : ∃ T, T = (if 0 < idOf k then 32 :: decL r.id else []) ++ T2 := ⟨_, rfl⟩
  have b0 : B.drop 0 = wordOf k ++ T1 := by
    rw [List.drop_zero, hB, hT1, hT2, hT3, hT4, hT5]
    unfold putL fieldsL
    rw [← hk]
    simp
  rw [← hB]
  have n5 : ∃ y s, T5 = y :: s ∧ (y = 32 ∨ y = 13) := ⟨13, _, hT5, .inr rfl⟩
  have n4 : ∃ y s, T4 = y :: s ∧ (y = 32 ∨ y = 13) := by rw [hT4]; exact heads n5
  have n3 : ∃ y s, T3 = y :: s ∧ (y = 32 ∨ y = 13) := by rw [hT3]; exact heads n4
  have n2 : ∃ y s, T2 = y :: s ∧ (y = 32 ∨ y = 13) := by rw [hT2]; exact heads n3
  -- the word
  obtain ⟨p1, hp1⟩ : ∃ p, p = (wordOf k).length := ⟨_, rfl⟩
  have s1 : textS (wordOf k) B st0 = ⟨p1, 0, 0, 0, [], 0, []⟩ := by
    show (⟨(textP B (wordOf k) 0).1, (textP B (wordOf k) 0).2, 0, 0, [], 0, []⟩ : St) = _
    rw [text_is B (wordOf k) T1 0 b0, hp1]
    simp
  have b1 : B.drop p1 = T1 := by
    have := drop_on b0
    rw [Nat.zero_add] at this
    rw [hp1]; exact this
  -- the id
  obtain ⟨p2, s2, b2⟩ : ∃ p2, (if 0 < idOf k then idS (idOf k) B ⟨p1, 0, 0, 0, [], 0, []⟩ else ⟨p1, 0, 0, 0, [], 0, []⟩) = (⟨p2, 0, r.id, 0, [], 0, []⟩ : St) ∧ B.drop p2 = T2 := by
    by_cases hc : 0 < idOf k
    · rw [if_pos hc] at hT1 ⊢
      obtain ⟨y, s, e, hy⟩ := n2
      obtain ⟨a, c⟩ := num_is (l := 1) (m := idOf k) (by decide) (b := B) (p := p1) (n := r.id) (c := y) (r := s) (by rw [b1, hT1, e]; rfl) (by omega) (by omega) h4 t4 hy
      refine ⟨p1 + 1 + (decL r.id).length, ?_, ?_⟩
      · unfold idS
        rw [if_pos rfl, a, c]
      · rw [hT1] at b1
        have := drop_on b1
        rw [List.length_cons, Nat.add_comm _ 1, ← Nat.add_assoc] at this
        exact this
    · rw [if_neg hc] at hT1 ⊢
      refine ⟨p1, ?_, by rw [b1, hT1]; rfl⟩
      rw [show r.id = 0 by omega]
  obtain ⟨p3, s3, b3⟩ : ∃ p3, (if 0 < nuOf k then numS (nuOf k) B ⟨p2, 0, r.id, 0, [], 0, []⟩ else ⟨p2, 0, r.id, 0, [], 0, []⟩) = (⟨p3, 0, r.id, r.num, [], 0, []⟩ : St) ∧ B.drop p3 = T3 := by
    by_cases hc : 0 < nuOf k
    · rw [if_pos hc] at hT2 ⊢
      obtain ⟨y, s, e, hy⟩ := n3
      obtain ⟨a, c⟩ := num_is (l := 0) (m := nuOf k) (by decide) (b := B) (p := p2) (n := r.num) (c := y) (r := s) (by rw [b2, hT2, e]; rfl) h5 h5 h6 (by omega) hy
      refine ⟨p2 + 1 + (decL r.num).length, ?_, ?_⟩
      · unfold numS
        rw [if_pos rfl, a, c]
      · rw [hT2] at b2
        have := drop_on b2
        rw [List.length_cons, Nat.add_comm _ 1, ← Nat.add_assoc] at this
        exact this
    · rw [if_neg hc] at hT2 ⊢
      refine ⟨p2, ?_, by rw [b2, hT2]; rfl⟩
      rw [show r.num = 0 by omega]
  obtain ⟨p4, s4, b4⟩ : ∃ p4, (if tuOf k = true then tubeS B ⟨p3, 0, r.id, r.num, [], 0, []⟩ else ⟨p3, 0, r.id, r.num, [], 0, []⟩) = (⟨p4, 0, r.id, r.num, r.tube, 0, []⟩ : St) ∧ B.drop p4 = T4 := by
    by_cases hc : tuOf k = true
    · rw [if_pos hc] at hT3 h8 ⊢
      obtain ⟨y, s, e, hy⟩ := n4
      have hv : 1 ≤ r.tube.length ∧ r.tube.length ≤ 200 := by
        unfold validB at h8
        simp only [Bool.and_eq_true, decide_eq_true_eq] at h8
        exact h8.1.1
      have a := word_is valid_closed B p3 r.tube y s (by rw [b3, hT3, e]; rfl) (fun e => by rw [e] at hv; simp at hv) h8 hv.2 (valid_ends _ y (by rcases hy with rfl | rfl <;> decide))
      refine ⟨p3 + 1 + r.tube.length, ?_, ?_⟩
      · unfold tubeS
        rw [if_pos rfl, a]
      · rw [hT3] at b3
        have := drop_on b3
        rw [List.length_cons, Nat.add_comm _ 1, ← Nat.add_assoc] at this
        exact this
    · rw [if_neg hc] at hT3 h8 ⊢
      refine ⟨p3, ?_, by rw [b3, hT3]; rfl⟩
      rw [List.isEmpty_iff.1 h8]
  obtain ⟨p5, z, s5, b5, hz⟩ : ∃ p5 z, (if 0 < boOf k then sizeS (boOf k) B ⟨p4, 0, r.id, r.num, r.tube, 0, []⟩ else ⟨p4, 0, r.id, r.num, r.tube, 0, []⟩) = (⟨p5, 0, r.id, r.num, r.tube, z, []⟩ : St) ∧ B.drop p5 = T5 ∧ (0 < boOf k → z = r.body.length) := by
    by_cases hc : 0 < boOf k
    · rw [if_pos hc] at hT4 ⊢
      obtain ⟨y, s, e, hy⟩ := n5
      obtain ⟨a, c⟩ := num_is (l := 0) (m := boOf k) (by decide) (b := B) (p := p4) (n := r.body.length) (c := y) (r := s) (by rw [b4, hT4, e]; rfl) (by omega) (by omega) h7 (by omega) hy
      refine ⟨p4 + 1 + (decL r.body.length).length, r.body.length, ?_, ?_, fun _ => rfl⟩
      · unfold sizeS
        rw [if_pos rfl, a, c]
      · rw [hT4] at b4
        have := drop_on b4
        rw [List.length_cons, Nat.add_comm _ 1, ← Nat.add_assoc] at this
        exact this
    · rw [if_neg hc] at hT4 ⊢
      exact ⟨p4, 0, rfl, by rw [b4, hT4]; rfl, fun h => absurd h hc⟩
  have hline : lineS k B st0 = ⟨p5, 0, r.id, r.num, r.tube, z, []⟩ := by
    unfold lineS
    simp only
    rw [s1, s2, s3, s4, s5]
  obtain ⟨p6, s6, b6⟩ : ∃ p6, bodyS k B ⟨p5, 0, r.id, r.num, r.tube, z, []⟩ = ⟨p6, 0, r.id, r.num, r.tube, z, r.body⟩ ∧ B.drop p6 = [13, 10] ++ x := by
    unfold bodyS
    by_cases hc : 0 < boOf k
    · rw [if_pos hc]
      rw [if_pos hc] at hT5
      have hz := hz hc
      have st : textS [13, 10] B ⟨p5, 0, r.id, r.num, r.tube, z, []⟩ = ⟨p5 + 2, 0, r.id, r.num, r.tube, z, []⟩ := by
        unfold textS
        rw [if_pos rfl, text_is B [13, 10] _ p5 (by rw [b5, hT5])]
        rfl
      have bt : B.drop (p5 + 2) = r.body ++ ([13, 10] ++ x) := by
        rw [hT5] at b5
        have := drop_on b5
        rw [show p5 + 2 = p5 + ([13, 10] : List UInt8).length from rfl, this]
        simp
      have hlen : p5 + 2 + r.body.length ≤ B.length := by
        have e := congrArg List.length bt
        simp only [List.length_append, List.length_cons, List.length_drop, List.length_nil] at e
        omega
      refine ⟨p5 + 2 + r.body.length, ?_, ?_⟩
      · rw [st]
        unfold takeS
        rw [if_pos rfl]
        dsimp only
        rw [hz, Int.toNat_natCast, if_neg (by omega), bt, List.take_left]
      · exact drop_on bt
    · rw [if_neg hc]
      rw [if_neg hc] at hT5
      refine ⟨p5, ?_, by rw [b5, hT5]; simp⟩
      have : r.body = [] := List.length_eq_zero_iff.1 (by omega)
      rw [this]
  have s7 : kindS k B = ⟨p6 + 2, 0, r.id, r.num, r.tube, z, r.body⟩ := by
    unfold kindS
    rw [hline, s6]
    unfold textS
    rw [if_pos rfl, text_is B [13, 10] x p6 b6]
    rfl
  refine ⟨z, ?_⟩
  rw [s7]
  congr 1
  have e := drop_on b6
  have hl := congrArg List.length e
  rw [hB] at hl
  simp only [List.length_append, List.length_cons, List.length_drop, List.length_nil] at hl
  have e2 := congrArg List.length b6
  rw [hB] at e2
  simp only [List.length_append, List.length_cons, List.length_drop, List.length_nil] at e2
  omega
theorem put_read {r : Rp} (h : rightB r = true) (x : List UInt8) : readP (putL r ++ x) = (r, (putL r).length, 0) := by
  obtain ⟨z, hz⟩ := kind_read h x
  obtain ⟨h1, h2, _⟩ := right_facts h
  have h0 : (kindS r.kind.toNat (putL r ++ x)).st = 0 := by rw [hz]
  have := from_first (putL r ++ x) 23 1 0 r.kind.toNat (by omega) (by omega) (fun i hi hi2 => (kind_other i r.kind.toNat _ (by omega) (by omega) (by omega) h0).1) (by rw [h0]; decide)
  show readFrom (putL r ++ x) 23 1 0 = _
  rw [this, hz]
  unfold rpOf
  rw [show ((r.kind.toNat : Nat) : Int) = r.kind by omega]
theorem read_put {b : List UInt8} (h : (readP b).2.2 = 0) : b.take (readP b).2.1 = putL (readP b).1 ∧ rightB (readP b).1 = true := by
  rcases read_pick b with ⟨j, h1, h2, _, _, e⟩ | ⟨_, h2, _⟩
  · rw [e] at h ⊢
    exact kind_put j ⟨h1, h2⟩ b h
  · omega
end Go.Proofs.YtomgnailgddchaaDoor

namespace Go.Proofs.YtomgnailgddchaaDoor
open Go.RowKit

/-- Do two lists agree as far as both go? -/
def agree : List UInt8 → List UInt8 → Bool
  | [], _ => true
  | _ :: _, [] => true
  | x :: a, c :: w => (x == c) && agree a w
theorem agree_nil (a : List UInt8) : agree a [] = true := by cases a <;> rfl
theorem text_agree (b : List UInt8) : ∀ (w : List UInt8) (p : Nat), (textP b w p).2 = if agree (b.drop p) w = true then (if w.length ≤ (b.drop p).length then 0 else 1) else 2
  | [], p => by rw [agree_nil]; simp [textP]
  | c :: w, p => by
    rw [text_cons]
    cases h : b[p]? with
    | none =>
      have hl : b.length ≤ p := List.getElem?_eq_none_iff.1 h
      rw [List.drop_of_length_le hl]
      simp [agree]
    | some x =>
      rw [drop_get h]
      dsimp only
      by_cases hx : x = c
      · subst hx
        rw [if_pos rfl, text_agree b w (p + 1)]
        simp [agree]
      · rw [if_neg hx]
        simp [agree, hx]
/-- Which bytes end a number, a name. -/
def stopB (nm : Bool) (c : UInt8) : Bool := c == 13 || c == 32 || !(nm || (decide (48 ≤ c.toNat) && decide (c.toNat ≤ 57)))
def runR (nm : Bool) (l : List UInt8) : List UInt8 := l.takeWhile (fun c => !stopB nm c)
/-- The fields of a kind, by letters. -/
def fsOf (k : Nat) : List UInt8 := (if 0 < idOf k then [73] else []) ++ ((if 0 < nuOf k then [78] else []) ++ ((if tuOf k = true then [84] else []) ++ (if 0 < boOf k then [66] else [])))
def mostX (k : Nat) (x : UInt8) : Int := if x = 73 then idOf k else if x = 78 then nuOf k else boOf k
def leastX (x : UInt8) : Int := if x = 73 then 1 else 0
def fitsX (k : Nat) (x : UInt8) : List UInt8 → Bool := if x = 84 then validB else numFits (leastX x) (mostX k x)
theorem closed_X (k : Nat) (x : UInt8) : Closed (fitsX k x) := by
  unfold fitsX
  split
  · exact valid_closed
  · refine num_closed ?_
    unfold leastX
    split <;> decide
/-- A field's place: where it got to, and 0: go on, 1: the line ends, 2: no. -/
def fldM (k : Nat) (l : List UInt8) (x : UInt8) (p : Nat) : Nat × Nat :=
  if l.length ≤ p then (p, 1) else if l[p]? ≠ some 32 then (p, 2) else if l.length = p + 1 then (p + 1, 1)
  else if fitsX k x (runR (x == 84) (l.drop (p + 1))) = true then (p + 1 + (runR (x == 84) (l.drop (p + 1))).length, 0) else (p, 2)
def fldsM (k : Nat) (l : List UInt8) : List UInt8 → Nat → Nat × Nat
  | [], p => (p, 0)
  | x :: fs, p => if (fldM k l x p).2 = 0 then fldsM k l fs (fldM k l x p).1 else fldM k l x p
/-- The document's match. -/
def matchR (l : List UInt8) (k : Nat) : Bool × Bool :=
  if agree l (wordOf k) = false then (false, false)
  else if (fldsM k l (fsOf k) (wordOf k).length).2 = 1 then (true, false)
  else if (fldsM k l (fsOf k) (wordOf k).length).2 = 2 then (false, false)
  else if l.length ≤ (fldsM k l (fsOf k) (wordOf k).length).1 then (true, false)
  else (l.drop (fldsM k l (fsOf k) (wordOf k).length).1 == [13] || l.drop (fldsM k l (fsOf k) (wordOf k).length).1 == [13, 10], l.drop (fldsM k l (fsOf k) (wordOf k).length).1 == [13, 10])
/-- A field's step. -/
def stepX (k : Nat) (x : UInt8) (b : List UInt8) (s : St) : St := if x = 73 then idS (idOf k) b s else if x = 78 then numS (nuOf k) b s else if x = 84 then tubeS b s else sizeS (boOf k) b s
def stepsX (k : Nat) (b : List UInt8) : List UInt8 → St → St
  | [], s => s
  | x :: fs, s => stepsX k b fs (stepX k x b s)
theorem line_steps (k : Nat) (b : List UInt8) (s : St) : lineS k b s = stepsX k b (fsOf k) (textS (wordOf k) b s) := by
  unfold lineS fsOf
  by_cases h1 : 0 < idOf k <;> by_cases h2 : 0 < nuOf k <;> by_cases h3 : tuOf k = true <;> by_cases h4 : 0 < boOf k <;> simp [h1, h2, h3, h4, stepsX, stepX]
theorem stepX_stuck (k : Nat) (x : UInt8) (b : List UInt8) (s : St) (h : s.st ≠ 0) : stepX k x b s = s := by
  unfold stepX idS numS tubeS sizeS
  simp [h]
theorem stepsX_stuck (k : Nat) (b : List UInt8) : ∀ (fs : List UInt8) (s : St), s.st ≠ 0 → stepsX k b fs s = s
  | [], _, _ => rfl
  | x :: fs, s, h => by
    show stepsX k b fs (stepX k x b s) = s
    rw [stepX_stuck k x b s h]
    exact stepsX_stuck k b fs s h
theorem stepX_pos (k : Nat) (x : UInt8) (hx : x = 73 ∨ x = 78 ∨ x = 84 ∨ x = 66) (b : List UInt8) (s : St) (h : s.st = 0) : (stepX k x b s).pos = (wordP b (fitsX k x) s.pos).2.1 ∧ (stepX k x b s).st = (wordP b (fitsX k x) s.pos).2.2 := by
  unfold stepX idS numS tubeS sizeS fitsX leastX mostX
  rcases hx with rfl | rfl | rfl | rfl <;> simp [h]
theorem run_split (nm : Bool) (l : List UInt8) : (runR nm l).length ≤ l.length ∧ l.take (runR nm l).length = runR nm l ∧ (∀ c ∈ runR nm l, stopB nm c = false) ∧ ∀ c, l[(runR nm l).length]? = some c → stopB nm c = true := by
  unfold runR
  induction l with
  | nil => simp
  | cons x r ih =>
    rw [List.takeWhile_cons]
    cases hx : stopB nm x with
    | true => simp [hx]
    | false =>
      simp only [Bool.not_false, if_true, List.length_cons, List.take_succ_cons, List.mem_cons, List.getElem?_cons_succ]
      refine ⟨by omega, by rw [ih.2.1], fun c hc => ?_, ih.2.2.2⟩
      rcases hc with rfl | hc
      · exact hx
      · exact ih.2.2.1 c hc
/-- What fits a field has none of the bytes that end it. -/
theorem fits_stop (k : Nat) (x : UInt8) (s : List UInt8) (c : UInt8) (hc : stopB (x == 84) c = true) : fitsX k x (s ++ [c]) = false := by
  unfold fitsX
  by_cases hx : x = 84
  · rw [if_pos hx]
    refine valid_ends s c ?_
    rw [show (x == 84) = true by simp [hx]] at hc
    unfold stopB at hc
    simp at hc
    rcases hc with rfl | rfl <;> decide
  · rw [if_neg hx]
    rw [show (x == 84) = false by simp [hx]] at hc
    cases hf : numFits (leastX x) (mostX k x) (s ++ [c]) with
    | false => rfl
    | true =>
      exfalso
      obtain ⟨u, hu, _⟩ := fits_dec.1 hf
      have hd := digit_of (u := u) c (by rw [← hu]; simp)
      unfold stopB at hc
      simp at hc
      rcases hc with (rfl | rfl) | hc
      · revert hd; decide
      · revert hd; decide
      · omega
theorem fits_ne (k : Nat) (x : UInt8) : fitsX k x [] = false := by
  unfold fitsX
  split
  · rfl
  · cases hf : numFits (leastX x) (mostX k x) [] with
    | false => rfl
    | true =>
      obtain ⟨u, hu, _⟩ := fits_dec.1 hf
      exact absurd hu.symm (by rw [dec_ahead]; simp)
theorem dec_len (u : Nat) (h : u ≤ 1099511627776) : (Lib.decDigits u).length ≤ 20 := by
  have step : ∀ (n m u : Nat), (∀ v, v < m → (Lib.decDigits v).length ≤ n) → u < 10 * m → (Lib.decDigits u).length ≤ n + 1 := fun n m u ih hu => by
    rw [dec_ahead, List.length_append]
    unfold ahead
    split
    · simp
    · have := ih (u / 10) (by omega)
      simp
      omega
  have h1 : ∀ v, v < 10 → (Lib.decDigits v).length ≤ 1 := fun v hv => by rw [dec_small hv]; simp
  have h2 := fun v => step 1 10 v h1
  have h3 := fun v => step 2 100 v (fun v hv => h2 v (by omega))
  have h4 := fun v => step 3 1000 v (fun v hv => h3 v (by omega))
  have h5 := fun v => step 4 10000 v (fun v hv => h4 v (by omega))
  have h6 := fun v => step 5 100000 v (fun v hv => h5 v (by omega))
  have h7 := fun v => step 6 1000000 v (fun v hv => h6 v (by omega))
  have h8 := fun v => step 7 10000000 v (fun v hv => h7 v (by omega))
  have h9 := fun v => step 8 100000000 v (fun v hv => h8 v (by omega))
  have h10 := fun v => step 9 1000000000 v (fun v hv => h9 v (by omega))
  have h11 := fun v => step 10 10000000000 v (fun v hv => h10 v (by omega))
  have h12 := fun v => step 11 100000000000 v (fun v hv => h11 v (by omega))
  have h13 := fun v => step 12 1000000000000 v (fun v hv => h12 v (by omega))
  have := h13 u (by omega)
  omega
theorem fits_len (k : Nat) (hk : k < 24) (x : UInt8) (s : List UInt8) (h : fitsX k x s = true) : s.length ≤ 200 := by
  unfold fitsX at h
  by_cases hx : x = 84
  · rw [if_pos hx] at h
    unfold validB at h
    simp only [Bool.and_eq_true, decide_eq_true_eq] at h
    omega
  · rw [if_neg hx] at h
    obtain ⟨u, rfl, _, hu⟩ := fits_dec.1 h
    have hm : mostX k x ≤ 1099511627776 := by
      have t : ∀ j, j < 24 → idOf j ≤ 1099511627776 ∧ nuOf j ≤ 1099511627776 ∧ boOf j ≤ 1099511627776 := by decide
      obtain ⟨a, b, c⟩ := t k hk
      unfold mostX
      split
      · exact a
      · split
        · exact b
        · exact c
    have hl : (Lib.decDigits u).length ≤ 20 := dec_len u (by omega)
    omega
theorem step_fld (k : Nat) (hk : k < 24) (x : UInt8) (b : List UInt8) (p : Nat) :
    ((fldM k b x p).2 = 0 → (wordP b (fitsX k x) p).2 = ((fldM k b x p).1, if (fldM k b x p).1 = b.length then 1 else 0) ∧ (fldM k b x p).1 ≤ b.length) ∧
    ((fldM k b x p).2 = 1 → (wordP b (fitsX k x) p).2.2 = 1) ∧
    ((fldM k b x p).2 = 2 → (wordP b (fitsX k x) p).2.2 = 2 ∨ ((wordP b (fitsX k x) p).2.2 = 0 ∧ ∃ c, b[(wordP b (fitsX k x) p).2.1]? = some c ∧ c ≠ 32 ∧ c ≠ 13)) := by
  have hcl := closed_X k x
  cases h : b[p]? with
  | none =>
    have hl : b.length ≤ p := List.getElem?_eq_none_iff.1 h
    have e : fldM k b x p = (p, 1) := by unfold fldM; rw [if_pos hl]
    rw [e, word_none h]
    exact ⟨fun h => (by cases h), fun _ => rfl, fun h => (by cases h)⟩
  | some y =>
    have hl : ¬ b.length ≤ p := by have := (List.getElem?_eq_some_iff.1 h).1; omega
    by_cases hy : y = 32
    · subst hy
      obtain ⟨s, hs⟩ : ∃ s, s = runR (x == 84) (b.drop (p + 1)) := ⟨_, rfl⟩
      have hw := word_blank (fits := fitsX k x) h
      obtain ⟨n, hn⟩ : ∃ n, n = fitN (fitsX k x) (runOf b p) := ⟨_, rfl⟩
      rw [← hn] at hw
      have hrl := run_len b p
      have sp := fit_spec hcl (runOf b p)
      rw [← hn] at sp
      by_cases h1 : b.length = p + 1
      · have e : fldM k b x p = (p + 1, 1) := by unfold fldM; rw [if_neg hl, if_neg (by rw [h]; simp), if_pos h1]
        have n0 : n = 0 := by omega
        rw [e, hw, n0]
        exact ⟨fun h => (by cases h), fun _ => (by rw [if_pos (by omega)]), fun h => (by cases h)⟩
      · obtain ⟨q1, q2, q3, q4⟩ := run_split (x == 84) (b.drop (p + 1))
        rw [← hs] at q1 q2 q3 q4
        rw [List.length_drop] at q1
        have takeR : ∀ i, i ≤ s.length → i ≤ 200 → (runOf b p).take i = s.take i := fun i hi h2 => by
          unfold runOf
          rw [List.take_take, Nat.min_eq_left h2, ← q2, List.take_take, Nat.min_eq_left hi]
        by_cases hf : fitsX k x s = true
        · have e : fldM k b x p = (p + 1 + s.length, 0) := by unfold fldM; rw [if_neg hl, if_neg (by rw [h]; simp), if_neg h1, ← hs, if_pos hf]
          have s200 := fits_len k hk x s hf
          have sne : s.length ≠ 0 := fun h0 => by
            rw [List.eq_nil_of_length_eq_zero h0, fits_ne] at hf
            cases hf
          have en : n = s.length := by
            rw [hn]
            refine fit_is hcl (runOf b p) s.length (by omega) (fun i hi => ?_) (fun hlt => ?_)
            · rw [takeR (i + 1) (by omega) (by omega)]
              exact take_closed hcl s i (s.length - 1) (by omega) hi (by rw [show s.length - 1 + 1 = s.length by omega, List.take_length]; exact hf)
            · obtain ⟨c, hc⟩ : ∃ c, (b.drop (p + 1))[s.length]? = some c := ⟨_, List.getElem?_eq_getElem (by rw [List.length_drop]; omega)⟩
              have : (runOf b p).take (s.length + 1) = s ++ [c] := by
                unfold runOf
                rw [List.take_take, Nat.min_eq_left (by omega), List.take_add_one, hc, q2]
                rfl
              rw [this]
              exact fits_stop k x s c (q4 c hc)
          rw [e, hw, en]
          refine ⟨fun _ => ⟨?_, by show p + 1 + s.length ≤ _; omega⟩, fun h => (by cases h), fun h => (by cases h)⟩
          dsimp only
          by_cases hz : p + 1 + s.length = b.length
          · rw [if_pos hz, if_pos hz]
          · rw [if_neg hz, if_neg hz, if_neg sne]
        · have e : fldM k b x p = (p, 2) := by unfold fldM; rw [if_neg hl, if_neg (by rw [h]; simp), if_neg h1, ← hs, if_neg hf]
          rw [e, hw]
          refine ⟨fun h => (by cases h), fun h => (by cases h), fun _ => ?_⟩
          dsimp only
          by_cases hnr : n < s.length
          · by_cases n0 : n = 0
            · left
              rw [if_neg (by omega), if_pos n0]
            · right
              rw [if_neg (by omega), if_neg n0]
              obtain ⟨c, hc⟩ : ∃ c, s[n]? = some c := ⟨_, List.getElem?_eq_getElem hnr⟩
              have hb : b[p + 1 + n]? = some c := by
                have : (b.drop (p + 1))[n]? = some c := by
                  rw [← q2, List.getElem?_take_of_lt hnr] at hc
                  exact hc
                rw [List.getElem?_drop] at this
                exact this
              have hst := q3 c (List.mem_of_getElem? hc)
              unfold stopB at hst
              simp at hst
              exact ⟨rfl, c, hb, hst.1.2, hst.1.1⟩
          · left
            have n0 : n = 0 := by
              refine Classical.byContradiction fun hn0 => ?_
              by_cases s0 : s.length = 0
              · obtain ⟨c, hc⟩ : ∃ c, (b.drop (p + 1))[0]? = some c := ⟨_, List.getElem?_eq_getElem (by rw [List.length_drop]; omega)⟩
                have h5 := sp.2.1 0 (by omega)
                have : (runOf b p).take (0 + 1) = [] ++ [c] := by
                  unfold runOf
                  rw [List.take_take, Nat.min_eq_left (by omega), List.take_add_one, hc]
                  rfl
                rw [this, fits_stop k x [] c (q4 c (by rw [s0]; exact hc))] at h5
                cases h5
              · have h5 := sp.2.1 (s.length - 1) (by omega)
                rw [show s.length - 1 + 1 = s.length by omega, takeR s.length (Nat.le_refl _) (by omega), List.take_length] at h5
                exact hf h5
            rw [if_neg (by omega), if_pos n0]
    · have e : fldM k b x p = (p, 2) := by unfold fldM; rw [if_neg hl, if_pos (by rw [h]; simpa using hy)]
      rw [e, word_other h hy]
      exact ⟨fun h => (by cases h), fun h => (by cases h), fun _ => .inl rfl⟩
/-- Where a byte stands that neither goes on nor ends the line. -/
theorem dead (k : Nat) (b : List UInt8) (c : UInt8) (h32 : c ≠ 32) (h13 : c ≠ 13) : ∀ (fs : List UInt8) (s : St), (∀ x ∈ fs, x = 73 ∨ x = 78 ∨ x = 84 ∨ x = 66) → s.st = 0 → b[s.pos]? = some c → (textS [13, 10] b (stepsX k b fs s)).st = 2
  | [], s, _, h0, hc => by
    unfold stepsX textS
    rw [if_pos h0]
    show (textP b [13, 10] s.pos).2 = 2
    rw [text_cons, hc]
    dsimp only
    rw [if_neg h13]
  | x :: fs, s, hx, h0, hc => by
    have hp := stepX_pos k x (hx x (List.mem_cons_self ..)) b s h0
    rw [word_other hc h32] at hp
    have h2 : (stepX k x b s).st = 2 := hp.2
    show (textS [13, 10] b (stepsX k b fs (stepX k x b s))).st = 2
    rw [stepsX_stuck k b fs _ (by rw [h2]; decide)]
    unfold textS
    rw [if_neg (by rw [h2]; decide)]
    exact h2
theorem flds_end (k : Nat) (b : List UInt8) (fs : List UInt8) (p : Nat) (hp : b.length ≤ p) : (fldsM k b fs p).2 = 1 ∨ fldsM k b fs p = (p, 0) := by
  cases fs with
  | nil => exact .inr rfl
  | cons x fs =>
    left
    have e : fldM k b x p = (p, 1) := by unfold fldM; rw [if_pos hp]
    unfold fldsM
    rw [e]
    rfl
theorem chain (k : Nat) (hk : k < 24) (b : List UInt8) : ∀ (fs : List UInt8) (s : St), (∀ x ∈ fs, x = 73 ∨ x = 78 ∨ x = 84 ∨ x = 66) → s.st = 0 → s.pos ≤ b.length →
    ((fldsM k b fs s.pos).2 = 1 → (textS [13, 10] b (stepsX k b fs s)).st = 1) ∧ ((fldsM k b fs s.pos).2 = 2 → (textS [13, 10] b (stepsX k b fs s)).st = 2) ∧
    ((fldsM k b fs s.pos).2 = 0 → (b.length ≤ (fldsM k b fs s.pos).1 ∧ (textS [13, 10] b (stepsX k b fs s)).st = 1) ∨ ((fldsM k b fs s.pos).1 < b.length ∧ ((textS [13, 10] b (stepsX k b fs s)).pos, (textS [13, 10] b (stepsX k b fs s)).st) = textP b [13, 10] (fldsM k b fs s.pos).1)) ∧ (fldsM k b fs s.pos).2 ≤ 2
  | [], s, _, h0, hp => by
    have e : textS [13, 10] b (stepsX k b [] s) = { s with pos := (textP b [13, 10] s.pos).1, st := (textP b [13, 10] s.pos).2 } := by
      unfold stepsX textS
      rw [if_pos h0]
    refine ⟨fun h => (by cases h), fun h => (by cases h), fun _ => ?_, Nat.zero_le _⟩
    rw [e]
    by_cases hl : b.length ≤ s.pos
    · left
      refine ⟨hl, ?_⟩
      show (textP b [13, 10] s.pos).2 = 1
      rw [text_cons, List.getElem?_eq_none hl]
    · right
      exact ⟨by show s.pos < _; omega, rfl⟩
  | x :: fs, s, hx, h0, hp => by
    have hpos := stepX_pos k x (hx x (List.mem_cons_self ..)) b s h0
    obtain ⟨f0, f1, f2⟩ := step_fld k hk x b s.pos
    have hx' : ∀ y ∈ fs, y = 73 ∨ y = 78 ∨ y = 84 ∨ y = 66 := fun y hy => hx y (List.mem_cons_of_mem _ hy)
    have est : stepsX k b (x :: fs) s = stepsX k b fs (stepX k x b s) := rfl
    rw [est]
    have stk : ∀ q, (stepX k x b s).st = q → q ≠ 0 → (textS [13, 10] b (stepsX k b fs (stepX k x b s))).st = q := fun q hq h => by
      rw [stepsX_stuck k b fs _ (by rw [hq]; exact h)]
      unfold textS
      rw [if_neg (by rw [hq]; exact h)]
      exact hq
    have hM : fldsM k b (x :: fs) s.pos = if (fldM k b x s.pos).2 = 0 then fldsM k b fs (fldM k b x s.pos).1 else fldM k b x s.pos := rfl
    have h3 : (fldM k b x s.pos).2 = 0 ∨ (fldM k b x s.pos).2 = 1 ∨ (fldM k b x s.pos).2 = 2 := by
      unfold fldM
      split
      · exact .inr (.inl rfl)
      · split
        · exact .inr (.inr rfl)
        · split
          · exact .inr (.inl rfl)
          · split
            · exact .inl rfl
            · exact .inr (.inr rfl)
    rcases h3 with h | h | h
    · obtain ⟨g1, g2⟩ := f0 h
      rw [hM, if_pos h]
      obtain ⟨p', hp'⟩ : ∃ p', p' = (fldM k b x s.pos).1 := ⟨_, rfl⟩
      rw [← hp'] at g1 g2 ⊢
      by_cases hl : p' = b.length
      · rw [if_pos hl] at g1
        have h1 : (stepX k x b s).st = 1 := by rw [hpos.2, g1]
        have hT := stk 1 h1 (by decide)
        rcases flds_end k b fs p' (by omega) with h5 | h5
        · exact ⟨fun _ => hT, fun h6 => (by rw [h5] at h6; cases h6), fun h6 => (by rw [h5] at h6; cases h6), by rw [h5]; decide⟩
        · rw [h5]
          exact ⟨fun h6 => (by cases h6), fun h6 => (by cases h6), fun _ => .inl ⟨by show b.length ≤ p'; omega, hT⟩, Nat.zero_le _⟩
      · rw [if_neg hl] at g1
        have h1 : (stepX k x b s).st = 0 := by rw [hpos.2, g1]
        have h2 : (stepX k x b s).pos = p' := by rw [hpos.1, g1]
        have := chain k hk b fs (stepX k x b s) hx' h1 (by rw [h2]; exact g2)
        rw [h2] at this
        exact this
    · rw [hM, if_neg (by rw [h]; decide)]
      have h1 : (stepX k x b s).st = 1 := by rw [hpos.2]; exact f1 h
      exact ⟨fun _ => stk 1 h1 (by decide), fun h6 => (by rw [h] at h6; cases h6), fun h6 => (by rw [h] at h6; cases h6), by rw [h]; decide⟩
    · rw [hM, if_neg (by rw [h]; decide)]
      refine ⟨fun h6 => (by rw [h] at h6; cases h6), fun _ => ?_, fun h6 => (by rw [h] at h6; cases h6), by rw [h]; decide⟩
      rcases f2 h with h5 | ⟨h5, c, hc, h32, h13⟩
      · exact stk 2 (by rw [hpos.2]; exact h5) (by decide)
      · exact dead k b c h32 h13 fs (stepX k x b s) hx' (by rw [hpos.2]; exact h5) (by rw [hpos.1]; exact hc)
theorem fs_letters (k : Nat) : ∀ x ∈ fsOf k, x = 73 ∨ x = 78 ∨ x = 84 ∨ x = 66 := by
  intro x hx
  unfold fsOf at hx
  simp only [List.mem_append] at hx
  rcases hx with hx | hx | hx | hx
  all_goals
    split at hx
    · simp at hx; simp [hx]
    · cases hx
/-- How a line is held against a kind's first line. -/
def lnS (k : Nat) (b : List UInt8) : St := textS [13, 10] b (lineS k b st0)
theorem match_is (k : Nat) (hk : k < 24) (l : List UInt8) : ((lnS k l).st = 2 → matchR l k = (false, false)) ∧ ((lnS k l).st = 1 → matchR l k = (true, false)) ∧ ((lnS k l).st = 0 → matchR l k = (decide ((lnS k l).pos = l.length), decide ((lnS k l).pos = l.length))) ∧ (lnS k l).st ≤ 2 := by
  have hta := text_agree l (wordOf k) 0
  rw [List.drop_zero] at hta
  unfold lnS
  rw [line_steps]
  have e0 : textS (wordOf k) l st0 = { st0 with pos := (textP l (wordOf k) 0).1, st := (textP l (wordOf k) 0).2 } := rfl
  unfold matchR
  have stk : ∀ q, (textS (wordOf k) l st0).st = q → q ≠ 0 → (textS [13, 10] l (stepsX k l (fsOf k) (textS (wordOf k) l st0))).st = q := fun q hq h => by
    rw [stepsX_stuck k l _ _ (by rw [hq]; exact h)]
    unfold textS at hq ⊢
    rw [if_neg (by rw [hq]; exact h)]
    exact hq
  by_cases ha : agree l (wordOf k) = true
  · rw [if_pos ha] at hta
    rw [if_neg (by rw [ha]; simp)]
    by_cases hw : (wordOf k).length ≤ l.length
    · rw [if_pos hw] at hta
      have hg := text_good l (wordOf k) 0 (Nat.zero_le _) hta
      rw [Nat.zero_add] at hg
      have c := chain k hk l (fsOf k) (textS (wordOf k) l st0) (fs_letters k) (by rw [e0]; exact hta) (by rw [e0]; show (textP l (wordOf k) 0).1 ≤ _; rw [hg.1]; exact hw)
      rw [show (textS (wordOf k) l st0).pos = (wordOf k).length by rw [e0]; exact hg.1] at c
      obtain ⟨c1, c2, c3, c4⟩ := c
      generalize textS [13, 10] l (stepsX k l (fsOf k) (textS (wordOf k) l st0)) = T at c1 c2 c3 ⊢
      generalize fldsM k l (fsOf k) (wordOf k).length = M at c1 c2 c3 c4 ⊢
      have h3 : M.2 = 0 ∨ M.2 = 1 ∨ M.2 = 2 := by omega
      rcases h3 with h | h | h
      · rw [if_neg (by rw [h]; decide), if_neg (by rw [h]; decide)]
        rcases c3 h with ⟨d1, d2⟩ | ⟨d1, d2⟩
        · rw [if_pos d1]
          exact ⟨fun h => (by rw [d2] at h; cases h), fun _ => rfl, fun h => (by rw [d2] at h; cases h), by omega⟩
        · rw [if_neg (by omega)]
          have hd := text_agree l [13, 10] M.1
          have p1 : T.pos = (textP l [13, 10] M.1).1 := congrArg Prod.fst d2
          have p2 : T.st = (textP l [13, 10] M.1).2 := congrArg Prod.snd d2
          rw [p2]
          have hgd := text_good l [13, 10] M.1 (by omega)
          rw [p1]
          obtain ⟨t, ht⟩ : ∃ t, t = l.drop M.1 := ⟨_, rfl⟩
          have htl : t.length = l.length - M.1 := by rw [ht, List.length_drop]
          rw [← ht] at hd ⊢
          match t, htl, hd with
          | [], htl, _ => simp at htl; omega
          | [y], htl, hd =>
            simp at htl
            by_cases hy : y = 13
            · subst hy
              rw [hd]
              simp [agree]
            · rw [hd]
              simp [agree, hy]
          | y :: z :: u, htl, hd =>
            simp at htl
            by_cases hy : y = 13
            · by_cases hz : z = 10
              · subst hy hz
                have h0 : (textP l [13, 10] M.1).2 = 0 := by rw [hd]; simp [agree, agree_nil]
                have hp : (textP l [13, 10] M.1).1 = M.1 + 2 := (hgd h0).1
                rw [h0, hp]
                have : (M.1 + 2 = l.length) ↔ u = [] := by
                  rw [← List.length_eq_zero_iff]
                  omega
                simp [this]
                cases u <;> simp
              · subst hy
                rw [hd]
                simp [agree, hz]
            · rw [hd]
              simp [agree, hy]
      · rw [if_pos h]
        have := c1 h
        exact ⟨fun h => (by rw [this] at h; cases h), fun _ => rfl, fun h => (by rw [this] at h; cases h), by omega⟩
      · rw [if_neg (by rw [h]; decide), if_pos h]
        have := c2 h
        exact ⟨fun _ => rfl, fun h => (by rw [this] at h; cases h), fun h => (by rw [this] at h; cases h), by omega⟩
    · rw [if_neg hw] at hta
      have hT := stk 1 (by rw [e0]; exact hta) (by decide)
      rw [hT]
      refine ⟨fun h => (by cases h), fun _ => ?_, fun h => (by cases h), by decide⟩
      rcases flds_end k l (fsOf k) (wordOf k).length (by omega) with h5 | h5
      · rw [if_pos h5]
      · rw [h5, if_neg (show ¬ (0 : Nat) = 1 by decide), if_neg (show ¬ (0 : Nat) = 2 by decide), if_pos (by show l.length ≤ _; omega)]
  · rw [if_neg ha] at hta
    have hT := stk 2 (by rw [e0]; exact hta) (by decide)
    rw [hT, if_pos (by simpa using ha)]
    exact ⟨fun _ => rfl, fun h => (by cases h), fun h => (by cases h), by decide⟩
end Go.Proofs.YtomgnailgddchaaDoor

namespace Go.Proofs.YtomgnailgddchaaDoor
open Go.RowKit

theorem fine_ln (k : Nat) : Fine (fun b s => textS [13, 10] b (lineS k b s)) := (fine_line k).comp (fine_text [13, 10])
theorem ln_ext (k : Nat) (b x : List UInt8) (h : (lnS k b).st ≠ 1) : lnS k (b ++ x) = lnS k b := (fine_ln k).ext b x st0 rfl (Nat.zero_le _) h
theorem ln_good (k : Nat) (b : List UInt8) (h : (lnS k b).st = 0) : (lnS k b).pos ≤ b.length := (fine_ln k).good b st0 rfl (Nat.zero_le _) h
theorem ln_three (k : Nat) (b : List UInt8) : (lnS k b).st ≤ 2 := (fine_ln k).three b st0 rfl (Nat.zero_le _)
/-- A line that is whole ends behind what was not. -/
theorem ln_strict (k : Nat) (b x : List UInt8) (h : (lnS k b).st ≠ 0) (h0 : (lnS k (b ++ x)).st = 0) : b.length < (lnS k (b ++ x)).pos := by
  have h1 : (lnS k b).st = 1 := by
    refine Classical.byContradiction fun hn => ?_
    rw [ln_ext k b x hn] at h0
    exact h h0
  have F := fine_line k
  obtain ⟨s5, e5⟩ : ∃ s, s = lineS k b st0 := ⟨_, rfl⟩
  obtain ⟨s6, e6⟩ : ∃ s, s = lineS k (b ++ x) st0 := ⟨_, rfl⟩
  have hk : lnS k b = textS [13, 10] b s5 := by rw [e5]; rfl
  have hk6 : lnS k (b ++ x) = textS [13, 10] (b ++ x) s6 := by rw [e6]; rfl
  rw [hk] at h1
  rw [hk6] at h0 ⊢
  have g6 : s6.st = 0 := by
    by_cases hz : s6.st = 0
    · exact hz
    · rw [(fine_text _).stuck _ _ hz] at h0; exact h0
  have p6 : s6.pos ≤ (b ++ x).length := by rw [e6] at g6 ⊢; exact F.good (b ++ x) st0 rfl (Nat.zero_le _) g6
  unfold textS at h0 ⊢
  rw [if_pos g6] at h0 ⊢
  have q := (text_good (b ++ x) [13, 10] s6.pos p6 h0).1
  show b.length < (textP (b ++ x) [13, 10] s6.pos).1
  rw [q]
  by_cases hz : s5.st = 0
  · have p5 : s5.pos ≤ b.length := by rw [e5] at hz ⊢; exact F.good b st0 rfl (Nat.zero_le _) hz
    have e : s6 = s5 := by
      rw [e5, e6]
      exact F.ext b x st0 rfl (Nat.zero_le _) (by rw [e5] at hz; rw [hz]; decide)
    unfold textS at h1
    rw [if_pos hz] at h1
    have := (text_short b x [13, 10] s5.pos p5 h1).2.1
    rw [e]
    exact this
  · rw [(fine_text _).stuck _ _ hz] at h1
    have := (F.short b x st0 rfl (Nat.zero_le _) (by rw [← e5]; exact h1)).2
    have : b.length ≤ s6.pos := by rw [e6]; exact this
    simp only [List.length_cons, List.length_nil]
    omega
theorem fs_sep (k : Nat) : (fsOf k = [] ∧ sepOf k = 13) ∨ ∃ x fs, fsOf k = x :: fs ∧ sepOf k = 32 := by
  unfold fsOf sepOf
  by_cases h1 : 0 < idOf k
  · right; exact ⟨73, _, by rw [if_pos h1]; rfl, if_pos (.inl h1)⟩
  · by_cases h2 : 0 < nuOf k
    · right; exact ⟨78, _, by rw [if_neg h1, if_pos h2]; rfl, if_pos (.inr (.inl h2))⟩
    · by_cases h3 : tuOf k = true
      · right; exact ⟨84, _, by rw [if_neg h1, if_neg h2, if_pos h3]; rfl, if_pos (.inr (.inr (.inl h3)))⟩
      · by_cases h4 : 0 < boOf k
        · right; exact ⟨66, _, by rw [if_neg h1, if_neg h2, if_neg h3, if_pos h4]; rfl, if_pos (.inr (.inr (.inr h4)))⟩
        · left; exact ⟨by rw [if_neg h1, if_neg h2, if_neg h3, if_neg h4]; rfl, if_neg (by rintro (h | h | h | h) <;> contradiction)⟩
/-- A whole line begins with its kind's word and what is behind it. -/
theorem ln_lead (k : Nat) (b : List UInt8) (h : (lnS k b).st = 0) : ∃ r, b = leadL k ++ r := by
  unfold lnS at h
  rw [line_steps] at h
  have e0 : textS (wordOf k) b st0 = { st0 with pos := (textP b (wordOf k) 0).1, st := (textP b (wordOf k) 0).2 } := rfl
  have hz : (textS (wordOf k) b st0).st = 0 := by
    refine Classical.byContradiction fun hn => ?_
    rw [stepsX_stuck k b _ _ hn, (fine_text _).stuck b _ hn] at h
    exact hn h
  have hg := text_good b (wordOf k) 0 (Nat.zero_le _) hz
  rw [Nat.zero_add] at hg
  have hpos : (textS (wordOf k) b st0).pos = (wordOf k).length := hg.1
  have key : b[(wordOf k).length]? = some (sepOf k) := by
    rcases fs_sep k with ⟨e1, e2⟩ | ⟨x, fs, e1, e2⟩
    · rw [e1] at h
      unfold stepsX at h
      rw [e2]
      unfold textS at h hz hpos
      rw [if_pos hz] at h
      have h : (textP b [13, 10] (textS (wordOf k) b st0).pos).2 = 0 := h
      rw [show (textS (wordOf k) b st0).pos = (wordOf k).length from hpos, text_cons] at h
      cases hb : b[(wordOf k).length]? with
      | none => rw [hb] at h; cases h
      | some y =>
        rw [hb] at h
        dsimp only at h
        by_cases hy : y = 13
        · rw [hy]
        · rw [if_neg hy] at h; cases h
    · rw [e1] at h
      rw [e2]
      have hx : x = 73 ∨ x = 78 ∨ x = 84 ∨ x = 66 := fs_letters k x (by rw [e1]; exact List.mem_cons_self ..)
      have hp := stepX_pos k x hx b (textS (wordOf k) b st0) hz
      have h : (textS [13, 10] b (stepsX k b fs (stepX k x b (textS (wordOf k) b st0)))).st = 0 := h
      have h0 : (stepX k x b (textS (wordOf k) b st0)).st = 0 := by
        refine Classical.byContradiction fun hn => ?_
        rw [stepsX_stuck k b _ _ hn, (fine_text _).stuck b _ hn] at h
        exact hn h
      rw [hp.2, hpos] at h0
      cases hb : b[(wordOf k).length]? with
      | none => rw [word_none hb] at h0; cases h0
      | some y =>
        by_cases hy : y = 32
        · rw [hy]
        · rw [word_other hb hy] at h0; cases h0
  refine ⟨b.drop ((wordOf k).length + 1), ?_⟩
  have h2 := hg.2.1
  rw [List.drop_zero] at h2
  unfold leadL
  rw [List.append_assoc]
  show b = wordOf k ++ (sepOf k :: b.drop ((wordOf k).length + 1))
  rw [← drop_get key]
  exact h2
theorem ln_other (i j : Nat) (b : List UInt8) (hi : 1 ≤ i ∧ i ≤ 23) (hj : 1 ≤ j ∧ j ≤ 23) (hij : i ≠ j) (h : (lnS j b).st = 0) : (kindS i b).st = 2 ∧ (lnS i b).st ≠ 0 := by
  obtain ⟨r, hr⟩ := ln_lead j b h
  obtain ⟨h1, _⟩ := text_differ b (leadL i) (leadL j) r 0 (by rw [List.drop_zero]; exact hr) (unlike i (by omega) j (by omega) hi.1 hj.1 hij)
  refine ⟨(kind_no i b h1).1, fun h0 => ?_⟩
  obtain ⟨r', hr'⟩ := ln_lead i b h0
  rw [text_is b (leadL i) r' 0 (by rw [List.drop_zero]; exact hr')] at h1
  cases h1
/-- A kind's reply, by its line. -/
theorem kind_ln (k : Nat) (b : List UInt8) : kindS k b = if 0 < boOf k then textS [13, 10] b (takeS b (lnS k b)) else lnS k b := by
  unfold kindS bodyS lnS
  split <;> rfl
theorem kind_st_ln (k : Nat) (b : List UInt8) (h : (lnS k b).st ≠ 0) : (kindS k b).st = (lnS k b).st ∧ kindS k b = lnS k b := by
  rw [kind_ln]
  split
  · rw [fine_take.stuck b _ h, (fine_text _).stuck b _ h]
    exact ⟨rfl, rfl⟩
  · exact ⟨rfl, rfl⟩
/-- The document's begins. -/
def begF (l : List UInt8) : Nat → Nat → Bool → Bool × Nat
  | 0, _, any => (any, 0)
  | n + 1, k, any => if (matchR l k).2 = true then (true, k) else begF l n (k + 1) (any || (matchR l k).1)
def beginsR (l : List UInt8) : Bool × Nat := begF l 23 1 false
theorem beg_whole (l : List UInt8) (j : Nat) (hw : (matchR l j).2 = true) : ∀ (n k : Nat) (any : Bool), k ≤ j → j < k + n → (∀ i, k ≤ i → i < j → (matchR l i).2 = false) → begF l n k any = (true, j)
  | 0, k, any, h1, h2, _ => by omega
  | n + 1, k, any, h1, h2, h3 => by
    unfold begF
    by_cases e : k = j
    · rw [e, if_pos hw]
    · rw [if_neg (by rw [h3 k (Nat.le_refl _) (by omega)]; simp)]
      exact beg_whole l j hw n (k + 1) _ (by omega) (by omega) (fun i hi => h3 i (by omega))
theorem beg_none (l : List UInt8) : ∀ (n k : Nat) (any : Bool), (∀ i, k ≤ i → i < k + n → (matchR l i).2 = false) → (begF l n k any).2 = 0 ∧ ((begF l n k any).1 = true ↔ any = true ∨ ∃ i, k ≤ i ∧ i < k + n ∧ (matchR l i).1 = true)
  | 0, k, any, _ => ⟨rfl, ⟨fun h => .inl h, fun h => h.elim id (fun ⟨i, h1, h2, _⟩ => by omega)⟩⟩
  | n + 1, k, any, h => by
    unfold begF
    rw [if_neg (by rw [h k (Nat.le_refl _) (by omega)]; simp)]
    obtain ⟨a, b⟩ := beg_none l n (k + 1) (any || (matchR l k).1) (fun i h1 h2 => h i (by omega) (by omega))
    refine ⟨a, b.trans ?_⟩
    constructor
    · rintro (h1 | ⟨i, h1, h2, h3⟩)
      · rcases Bool.or_eq_true_iff.1 h1 with h1 | h1
        · exact .inl h1
        · exact .inr ⟨k, Nat.le_refl _, by omega, h1⟩
      · exact .inr ⟨i, by omega, by omega, h3⟩
    · rintro (h1 | ⟨i, h1, h2, h3⟩)
      · exact .inl (by rw [h1]; rfl)
      · by_cases e : i = k
        · subst e
          exact .inl (by rw [h3]; simp)
        · exact .inr ⟨i, by omega, by omega, h3⟩
/-- The reply of a whole line, and how many bytes its body has. -/
def lineRp (k : Nat) (s : St) : Rp := ⟨k, s.id, s.num, s.tube, []⟩
def sizeR (k : Nat) (s : St) : Int := if 0 < boOf k then s.size else -1
/-- The document's reader. -/
structure Dc where
  L : List (Rp × Nat)
  line : List UInt8
  inB : Bool
  r : Rp
  left : Int
  cnt : Nat
  bad : Bool
def doneR (d : Dc) : Dc := { d with L := d.L ++ [(d.r, d.line.length + (if d.inB = true then d.r.body.length + 2 else 0))], line := [], inB := false, r := rp0 }
def oneR (d : Dc) (c : UInt8) : Dc :=
  if d.inB = true then
    (if (d.left - 1 = 1 ∧ c ≠ 13) ∨ (d.left - 1 = 0 ∧ c ≠ 10) then { d with cnt := d.cnt + 1, left := d.left - 1, bad := true }
     else if d.left - 1 = 0 then doneR { d with cnt := d.cnt + 1, left := d.left - 1 }
     else if 1 < d.left - 1 then { d with cnt := d.cnt + 1, left := d.left - 1, r := { d.r with body := d.r.body ++ [c] } }
     else { d with cnt := d.cnt + 1, left := d.left - 1 })
  else if (beginsR (d.line ++ [c])).1 = false then { d with cnt := d.cnt + 1, line := d.line ++ [c], bad := true }
  else if (beginsR (d.line ++ [c])).2 = 0 then { d with cnt := d.cnt + 1, line := d.line ++ [c] }
  else if sizeR (beginsR (d.line ++ [c])).2 (lnS (beginsR (d.line ++ [c])).2 (d.line ++ [c])) < 0 then doneR { d with cnt := d.cnt + 1, line := d.line ++ [c], r := lineRp (beginsR (d.line ++ [c])).2 (lnS (beginsR (d.line ++ [c])).2 (d.line ++ [c])) }
  else { d with cnt := d.cnt + 1, line := d.line ++ [c], r := lineRp (beginsR (d.line ++ [c])).2 (lnS (beginsR (d.line ++ [c])).2 (d.line ++ [c])), inB := true, left := sizeR (beginsR (d.line ++ [c])).2 (lnS (beginsR (d.line ++ [c])).2 (d.line ++ [c])) + 2 }
end Go.Proofs.YtomgnailgddchaaDoor

namespace Go.Proofs.YtomgnailgddchaaDoor
open Go.RowKit

theorem pparse_pos (most : Int) : ∀ (l : List UInt8) (n : Int), 0 ≤ n → ∀ v, parseFrom most l n = some v → 0 ≤ v
  | [], n, hn, v, h => by rw [parseFrom] at h; cases h; exact hn
  | c :: r, n, hn, v, h => by
    rw [parseFrom] at h
    split at h
    · rename_i hc
      split at h
      · cases h
      · exact pparse_pos most r _ (by omega) v h
    · cases h
theorem pparse_le (most : Int) : ∀ (l : List UInt8) (n : Int), n ≤ most → ∀ v, parseFrom most l n = some v → v ≤ most
  | [], n, hn, v, h => by rw [parseFrom] at h; cases h; exact hn
  | c :: r, n, hn, v, h => by
    rw [parseFrom] at h
    split at h
    · rename_i hc
      split at h
      · cases h
      · exact pparse_le most r _ (by omega) v h
    · cases h
theorem pV_pos (l : List UInt8) (most : Int) : 0 ≤ parseV l most := by
  unfold parseV
  split
  · exact Int.le_refl _
  · cases h : parseFrom most l 0 with
    | none => exact Int.le_refl _
    | some v => exact pparse_pos most l 0 (Int.le_refl _) v h
theorem pV_le (l : List UInt8) (most : Int) (hm : 0 ≤ most) : parseV l most ≤ most := by
  unfold parseV
  split
  · exact hm
  · cases h : parseFrom most l 0 with
    | none => exact hm
    | some v => exact pparse_le most l 0 hm v h

theorem size_bound (k : Nat) (hk : k < 24) (b : List UInt8) : 0 ≤ (lineS k b st0).size ∧ (lineS k b st0).size ≤ 4294967295 := by
  have ht : boOf k ≤ 4294967295 := by
    have : ∀ k, k < 24 → boOf k ≤ 4294967295 := by decide
    exact this k hk
  obtain ⟨s4, e4⟩ : ∃ s, s = (fun s => if tuOf k then tubeS b s else s) ((fun s => if 0 < nuOf k then numS (nuOf k) b s else s) ((fun s => if 0 < idOf k then idS (idOf k) b s else s) (textS (wordOf k) b st0))) := ⟨_, rfl⟩
  have z4 : s4.size = 0 := by
    have a1 : (textS (wordOf k) b st0).size = 0 := by unfold textS; split <;> rfl
    have a2 : ∀ s : St, s.size = 0 → (if 0 < idOf k then idS (idOf k) b s else s).size = 0 := fun s h => by
      split
      · unfold idS; split <;> exact h
      · exact h
    have a3 : ∀ s : St, s.size = 0 → (if 0 < nuOf k then numS (nuOf k) b s else s).size = 0 := fun s h => by
      split
      · unfold numS; split <;> exact h
      · exact h
    have a4 : ∀ s : St, s.size = 0 → (if tuOf k then tubeS b s else s).size = 0 := fun s h => by
      split
      · unfold tubeS; split <;> exact h
      · exact h
    rw [e4]
    exact a4 _ (a3 _ (a2 _ a1))
  have e5 : lineS k b st0 = if 0 < boOf k then sizeS (boOf k) b s4 else s4 := by rw [e4]; rfl
  rw [e5]
  by_cases hc : 0 < boOf k
  · rw [if_pos hc]
    unfold sizeS
    by_cases hz : s4.st = 0
    · rw [if_pos hz]
      have h1 := pV_pos (wordP b (numFits 0 (boOf k)) s4.pos).1 (boOf k)
      have h2 := pV_le (wordP b (numFits 0 (boOf k)) s4.pos).1 (boOf k) (by omega)
      exact ⟨h1, Int.le_trans h2 ht⟩
    · rw [if_neg hz, z4]; omega
  · rw [if_neg hc, z4]; omega
theorem kind_bound (k : Nat) (hk : k < 24) (b : List UInt8) : (kindS k b).pos ≤ b.length + 4294967295 := by
  have h3 := kind_three k b
  by_cases h0 : (kindS k b).st = 0
  · have := kind_good k b h0; omega
  by_cases h2 : (kindS k b).st = 2
  · have := kind_wrong k b h2; omega
  have h : (kindS k b).st = 1 := by omega
  have same : (kindS k b).pos = b.length → (kindS k b).pos ≤ b.length + 4294967295 := fun e => by omega
  by_cases hc : 0 < boOf k
  · obtain ⟨s5, e5⟩ : ∃ s, s = textS [13, 10] b (lineS k b st0) := ⟨_, rfl⟩
    have hk5 : kindS k b = textS [13, 10] b (takeS b s5) := by unfold kindS bodyS; rw [if_pos hc, ← e5]
    have F5 := (fine_line k).comp (fine_text [13, 10])
    by_cases hz : s5.st = 0
    · have p5 : s5.pos ≤ b.length := by rw [e5] at hz ⊢; exact F5.good b st0 rfl (Nat.zero_le _) hz
      by_cases hl : b.length < s5.pos + s5.size.toNat
      · have et : takeS b s5 = { s5 with pos := s5.pos + s5.size.toNat, st := 1 } := by unfold takeS; rw [if_pos hz, if_pos hl]
        have ek : kindS k b = { s5 with pos := s5.pos + s5.size.toNat, st := 1 } := by rw [hk5, et, (fine_text _).stuck _ _ (by show (1 : Nat) ≠ 0; decide)]
        rw [ek]
        have hs := size_bound k hk b
        have : s5.size = (lineS k b st0).size := by rw [e5]; unfold textS; split <;> rfl
        show s5.pos + s5.size.toNat ≤ _
        omega
      · refine same ?_
        have et : takeS b s5 = { s5 with pos := s5.pos + s5.size.toNat, body := (b.drop s5.pos).take s5.size.toNat } := by unfold takeS; rw [if_pos hz, if_neg hl]
        rw [hk5, et] at h ⊢
        exact tight_text [13, 10] b _ hz (by show s5.pos + s5.size.toNat ≤ _; omega) h
    · refine same ?_
      have et : takeS b s5 = s5 := fine_take.stuck b s5 hz
      rw [hk5, et, (fine_text _).stuck _ _ hz] at h ⊢
      have T5 := (tight_line k).comp (fine_line k) (tight_text [13, 10]) (fine_text [13, 10])
      rw [e5] at h ⊢
      exact T5 b st0 rfl (Nat.zero_le _) h
  · refine same ?_
    have hk5 : kindS k b = textS [13, 10] b (lineS k b st0) := by unfold kindS bodyS; rw [if_neg hc]
    have T5 := (tight_line k).comp (fine_line k) (tight_text [13, 10]) (fine_text [13, 10])
    rw [hk5] at h ⊢
    exact T5 b st0 rfl (Nat.zero_le _) h
theorem read_bound (b : List UInt8) : (readP b).2.1 ≤ b.length + 4294967295 := by
  rcases read_pick b with ⟨j, h1, h2, _, _, e⟩ | ⟨_, _, h3, _⟩
  · rw [e]; exact kind_bound j (by omega) b
  · omega

end Go.Proofs.YtomgnailgddchaaDoor

namespace Go.Proofs.YtomgnailgddchaaDoor
open Go.RowKit

/-- What stands of bytes that are short of a reply. -/
structure Rel (U : List UInt8) (d : Dc) : Prop where
  short : (readP U).2.2 = 1
  st : (d.inB = false ∧ d.line = U ∧ d.r = rp0 ∧ ∀ k, 1 ≤ k → k ≤ 23 → (lnS k U).st ≠ 0) ∨
    ∃ k, 1 ≤ k ∧ k ≤ 23 ∧ 0 < boOf k ∧ (lnS k U).st = 0 ∧ d.inB = true ∧ d.line = U.take (lnS k U).pos ∧
      d.r = { lineRp k (lnS k U) with body := (U.drop (lnS k U).pos).take (lnS k U).size.toNat } ∧ d.left = (lnS k U).size + 2 - ((U.length : Int) - (lnS k U).pos) ∧ 1 ≤ d.left ∧ 0 ≤ (lnS k U).size
theorem rel_nil (d : Dc) (h1 : d.inB = false) (h2 : d.line = []) (h3 : d.r = rp0) : Rel [] d := by
  refine ⟨by rw [read_nil], .inl ⟨h1, h2, h3, fun k h4 h5 => ?_⟩⟩
  have : ∀ j, j < 24 → 1 ≤ j → (lnS j []).st ≠ 0 := by decide
  exact this k (by omega) h4
theorem ln_size (k : Nat) (hk : k < 24) (b : List UInt8) : 0 ≤ (lnS k b).size := by
  have h := (size_bound k hk b).1
  unfold lnS textS
  split
  · exact h
  · exact h
theorem beg_is (l : List UInt8) (hno : ∀ k, 1 ≤ k → k ≤ 23 → (lnS k l).st = 0 → (lnS k l).pos = l.length) :
    (∃ k, 1 ≤ k ∧ k ≤ 23 ∧ (lnS k l).st = 0 ∧ beginsR l = (true, k)) ∨
    ((∀ k, 1 ≤ k → k ≤ 23 → (lnS k l).st ≠ 0) ∧ (beginsR l).2 = 0 ∧ ((beginsR l).1 = true ↔ ∃ k, 1 ≤ k ∧ k ≤ 23 ∧ (lnS k l).st = 1)) := by
  by_cases h : ∃ k, 1 ≤ k ∧ k ≤ 23 ∧ (lnS k l).st = 0
  · obtain ⟨k, h1, h2, h3⟩ := h
    left
    refine ⟨k, h1, h2, h3, ?_⟩
    have hm := (match_is k (by omega) l).2.2.1 h3
    refine beg_whole l k (by rw [hm, hno k h1 h2 h3]; simp) 23 1 false h1 (by omega) (fun i hi hi2 => ?_)
    have ho := (ln_other i k l ⟨hi, by omega⟩ ⟨h1, h2⟩ (by omega) h3).2
    obtain ⟨m1, m2, _, m4⟩ := match_is i (by omega) l
    have : (lnS i l).st = 1 ∨ (lnS i l).st = 2 := by omega
    rcases this with e | e
    · rw [m2 e]
    · rw [m1 e]
  · right
    have hall : ∀ k, 1 ≤ k → k ≤ 23 → (lnS k l).st ≠ 0 := fun k h1 h2 h3 => h ⟨k, h1, h2, h3⟩
    have hw : ∀ i, 1 ≤ i → i < 1 + 23 → (matchR l i).2 = false ∧ ((matchR l i).1 = true ↔ (lnS i l).st = 1) := fun i h1 h2 => by
      obtain ⟨m1, m2, _, m4⟩ := match_is i (by omega) l
      have := hall i h1 (by omega)
      have : (lnS i l).st = 1 ∨ (lnS i l).st = 2 := by omega
      rcases this with e | e
      · rw [m2 e, e]; simp
      · rw [m1 e, e]; simp
    obtain ⟨b1, b2⟩ := beg_none l 23 1 false (fun i h1 h2 => (hw i h1 h2).1)
    refine ⟨hall, b1, b2.trans ?_⟩
    constructor
    · rintro (h0 | ⟨i, h1, h2, h3⟩)
      · cases h0
      · exact ⟨i, h1, by omega, (hw i h1 h2).2.1 h3⟩
    · rintro ⟨i, h1, h2, h3⟩
      exact .inr ⟨i, h1, by omega, (hw i h1 (by omega)).2.2 h3⟩
theorem read_of (b : List UInt8) (j : Nat) (h1 : 1 ≤ j) (h2 : j ≤ 23) (h3 : ∀ i, 1 ≤ i → i ≤ 23 → i ≠ j → (kindS i b).st = 2) (h4 : (kindS j b).st ≠ 2) : readP b = (rpOf j (kindS j b), (kindS j b).pos, (kindS j b).st) :=
  read_first b j h1 h2 (fun i hi hi2 => h3 i hi (by omega) (by omega)) h4
theorem read_no (b : List UInt8) (h : ∀ i, 1 ≤ i → i ≤ 23 → (kindS i b).st = 2) : (readP b).2.2 = 2 := by
  rcases read_pick b with ⟨j, h1, h2, _, h4, _⟩ | ⟨_, h2, _⟩
  · exact absurd (h j h1 h2) h4
  · exact h2
theorem read_one (b : List UInt8) (h : ∀ i, 1 ≤ i → i ≤ 23 → (kindS i b).st ≠ 0) (hj : ∃ j, 1 ≤ j ∧ j ≤ 23 ∧ (kindS j b).st = 1) : (readP b).2.2 = 1 := by
  rcases read_pick b with ⟨j, h1, h2, _, h4, e⟩ | ⟨h1, _, _⟩
  · rw [e]
    have := kind_three j b
    have := h j h1 h2
    show (kindS j b).st = 1
    omega
  · obtain ⟨j, h3, h4, h5⟩ := hj
    rw [h1 j h3 (by omega)] at h5
    cases h5
theorem textS_body (w b : List UInt8) (s : St) : (textS w b s).body = s.body := by unfold textS; split <;> rfl
theorem stepX_body (k : Nat) (x : UInt8) (b : List UInt8) (s : St) : (stepX k x b s).body = s.body := by
  unfold stepX idS numS tubeS sizeS
  repeat' split
  all_goals rfl
theorem stepsX_body (k : Nat) (b : List UInt8) : ∀ (fs : List UInt8) (s : St), (stepsX k b fs s).body = s.body
  | [], _ => rfl
  | x :: fs, s => (stepsX_body k b fs (stepX k x b s)).trans (stepX_body k x b s)
theorem ln_body (k : Nat) (b : List UInt8) : (lnS k b).body = [] := by
  unfold lnS
  rw [textS_body, line_steps, stepsX_body, textS_body]
  rfl
/-- A byte comes. -/
theorem Rel.one {U : List UInt8} {d : Dc} (h : Rel U d) (hb : d.bad = false) (c : UInt8) :
    ((readP (U ++ [c])).2.2 = 1 ∧ Rel (U ++ [c]) (oneR d c) ∧ (oneR d c).bad = false ∧ (oneR d c).L = d.L ∧ (oneR d c).cnt = d.cnt + 1) ∨
    ((readP (U ++ [c])).2.2 = 0 ∧ (readP (U ++ [c])).2.1 = U.length + 1 ∧ Rel [] (oneR d c) ∧ (oneR d c).bad = false ∧ (oneR d c).L = d.L ++ [((readP (U ++ [c])).1, U.length + 1)] ∧ (oneR d c).cnt = d.cnt + 1) ∨
    ((readP (U ++ [c])).2.2 = 2 ∧ (oneR d c).bad = true ∧ (oneR d c).L = d.L ∧ (oneR d c).cnt = d.cnt + 1) := by
  obtain ⟨hs, ⟨a1, a2, a3, a4⟩ | ⟨k, k1, k2, k3, k4, k5, k6, k7, k8, k9, k10⟩⟩ := h
  · have hlen : (U ++ [c]).length = U.length + 1 := by simp
    have hno : ∀ k, 1 ≤ k → k ≤ 23 → (lnS k (U ++ [c])).st = 0 → (lnS k (U ++ [c])).pos = (U ++ [c]).length := fun k h1 h2 h3 => by
      have q1 := ln_strict k U [c] (a4 k h1 h2) h3
      have q2 := ln_good k (U ++ [c]) h3
      omega
    have one0 : oneR d c = if (beginsR (U ++ [c])).1 = false then { d with cnt := d.cnt + 1, line := U ++ [c], bad := true }
      else if (beginsR (U ++ [c])).2 = 0 then { d with cnt := d.cnt + 1, line := U ++ [c] }
      else if sizeR (beginsR (U ++ [c])).2 (lnS (beginsR (U ++ [c])).2 (U ++ [c])) < 0 then doneR { d with cnt := d.cnt + 1, line := U ++ [c], r := lineRp (beginsR (U ++ [c])).2 (lnS (beginsR (U ++ [c])).2 (U ++ [c])) }
      else { d with cnt := d.cnt + 1, line := U ++ [c], r := lineRp (beginsR (U ++ [c])).2 (lnS (beginsR (U ++ [c])).2 (U ++ [c])), inB := true, left := sizeR (beginsR (U ++ [c])).2 (lnS (beginsR (U ++ [c])).2 (U ++ [c])) + 2 } := by
      unfold oneR
      rw [if_neg (by rw [a1]; simp), a2]
    rcases beg_is (U ++ [c]) hno with ⟨k, h1, h2, h3, h4⟩ | ⟨h1, h2, h3⟩
    · have hp := hno k h1 h2 h3
      rw [h4] at one0
      rw [if_neg (by simp), if_neg (by show ¬ k = 0; omega)] at one0
      have oth : ∀ i, 1 ≤ i → i ≤ 23 → i ≠ k → (kindS i (U ++ [c])).st = 2 := fun i hi hi2 hne => (ln_other i k (U ++ [c]) ⟨hi, hi2⟩ ⟨h1, h2⟩ hne h3).1
      by_cases hbo : 0 < boOf k
      · have hsz := ln_size k (by omega) (U ++ [c])
        have esz : sizeR k (lnS k (U ++ [c])) = (lnS k (U ++ [c])).size := by unfold sizeR; rw [if_pos hbo]
        rw [if_neg (by rw [esz]; omega)] at one0
        have hk1 : (kindS k (U ++ [c])).st = 1 := by
          rw [kind_ln, if_pos hbo]
          unfold takeS
          rw [if_pos h3]
          split
          · rw [(fine_text _).stuck _ _ (by show (1 : Nat) ≠ 0; decide)]
          · rename_i hl
            have e0 : (lnS k (U ++ [c])).size.toNat = 0 := by omega
            unfold textS
            dsimp only
            rw [if_pos h3]
            show (textP (U ++ [c]) [13, 10] ((lnS k (U ++ [c])).pos + (lnS k (U ++ [c])).size.toNat)).2 = 1
            rw [text_cons, List.getElem?_eq_none (by omega)]
        have hr := read_of (U ++ [c]) k h1 h2 oth (by rw [hk1]; decide)
        left
        rw [hr, one0]
        refine ⟨hk1, ⟨by rw [hr]; exact hk1, .inr ⟨k, h1, h2, hbo, h3, rfl, ?_, ?_, ?_, ?_, hsz⟩⟩, hb, rfl, rfl⟩
        · show U ++ [c] = (U ++ [c]).take (lnS k (U ++ [c])).pos
          rw [hp, List.take_length]
        · show lineRp k _ = _
          rw [hp, List.drop_length, List.take_nil]
          rfl
        · show sizeR k _ + 2 = _
          rw [esz, hp]
          omega
        · show 1 ≤ sizeR k _ + 2
          rw [esz]
          omega
      · have esz : sizeR k (lnS k (U ++ [c])) = -1 := by unfold sizeR; rw [if_neg hbo]
        rw [if_pos (by rw [esz]; omega)] at one0
        have hk0 : kindS k (U ++ [c]) = lnS k (U ++ [c]) := by rw [kind_ln, if_neg hbo]
        have hr := read_of (U ++ [c]) k h1 h2 oth (by rw [hk0, h3]; decide)
        rw [hk0] at hr
        right; left
        rw [hr, one0]
        refine ⟨h3, by rw [← hlen]; exact hp, rel_nil _ rfl rfl rfl, hb, ?_, rfl⟩
        show d.L ++ [(lineRp k _, (U ++ [c]).length + (if d.inB = true then _ else 0))] = _
        rw [if_neg (by rw [a1]; simp), hlen]
        have hbody := ln_body k (U ++ [c])
        unfold rpOf lineRp
        rw [hbody]
    · have hk : ∀ i, 1 ≤ i → i ≤ 23 → (kindS i (U ++ [c])).st = (lnS i (U ++ [c])).st := fun i hi hi2 => (kind_st_ln i _ (h1 i hi hi2)).1
      by_cases hany : ∃ k, 1 ≤ k ∧ k ≤ 23 ∧ (lnS k (U ++ [c])).st = 1
      · have hr := read_one (U ++ [c]) (fun i hi hi2 => by rw [hk i hi hi2]; exact h1 i hi hi2) (by
          obtain ⟨k, q1, q2, q3⟩ := hany
          exact ⟨k, q1, q2, by rw [hk k q1 q2]; exact q3⟩)
        rw [if_neg (by rw [h3.2 hany]; simp), if_pos h2] at one0
        left
        rw [one0]
        exact ⟨hr, ⟨hr, .inl ⟨a1, rfl, a3, h1⟩⟩, hb, rfl, rfl⟩
      · have hr := read_no (U ++ [c]) (fun i hi hi2 => by
          rw [hk i hi hi2]
          have := ln_three i (U ++ [c])
          have := h1 i hi hi2
          have : (lnS i (U ++ [c])).st ≠ 1 := fun e => hany ⟨i, hi, hi2, e⟩
          omega)
        have hf : (beginsR (U ++ [c])).1 = false := by
          cases hx : (beginsR (U ++ [c])).1 with
          | false => rfl
          | true => exact absurd (h3.1 hx) hany
        rw [if_pos hf] at one0
        right; right
        rw [one0]
        exact ⟨hr, rfl, rfl, rfl⟩
  · have hlen : (U ++ [c]).length = U.length + 1 := by simp
    have eln : lnS k (U ++ [c]) = lnS k U := ln_ext k U [c] (by rw [k4]; decide)
    have oth : ∀ i, 1 ≤ i → i ≤ 23 → i ≠ k → (kindS i (U ++ [c])).st = 2 := fun i hi hi2 hne => (ln_other i k (U ++ [c]) ⟨hi, hi2⟩ ⟨k1, k2⟩ hne (by rw [eln]; exact k4)).1
    have hp := ln_good k U k4
    obtain ⟨s, hs5⟩ : ∃ s, s = lnS k U := ⟨_, rfl⟩
    have hkind : kindS k (U ++ [c]) = textS [13, 10] (U ++ [c]) (takeS (U ++ [c]) s) := by rw [kind_ln, if_pos k3, eln, hs5]
    rw [← hs5] at k4 k6 k7 k8 k10 hp
    obtain ⟨z, hz⟩ : ∃ z : Nat, z = s.size.toNat := ⟨_, rfl⟩
    have hzI : s.size = (z : Int) := by omega
    obtain ⟨n, hn⟩ : ∃ n, n = U.length - s.pos := ⟨_, rfl⟩
    have hleft : d.left = (z : Int) + 2 - n := by omega
    have hnz : n ≤ z + 1 := by omega
    have one0 : oneR d c = if (d.left - 1 = 1 ∧ c ≠ 13) ∨ (d.left - 1 = 0 ∧ c ≠ 10) then { d with cnt := d.cnt + 1, left := d.left - 1, bad := true }
     else if d.left - 1 = 0 then doneR { d with cnt := d.cnt + 1, left := d.left - 1 }
     else if 1 < d.left - 1 then { d with cnt := d.cnt + 1, left := d.left - 1, r := { d.r with body := d.r.body ++ [c] } }
     else { d with cnt := d.cnt + 1, left := d.left - 1 } := by
      unfold oneR
      rw [if_pos k5]
    have hdrop : (U ++ [c]).drop s.pos = U.drop s.pos ++ [c] := List.drop_append_of_le_length hp
    have hdl : (U.drop s.pos).length = n := by rw [List.length_drop]; omega
    have htk : (U ++ [c]).take s.pos = U.take s.pos := List.take_append_of_le_length hp
    by_cases c1 : n < z
    · -- a byte of the body
      rw [if_neg (by omega), if_neg (by omega), if_pos (by omega)] at one0
      have hk1 : (kindS k (U ++ [c])).st = 1 := by
        rw [hkind]
        unfold takeS
        rw [if_pos k4]
        by_cases hl : (U ++ [c]).length < s.pos + s.size.toNat
        · rw [if_pos hl, (fine_text _).stuck _ _ (by show (1 : Nat) ≠ 0; decide)]
        · rw [if_neg hl]
          unfold textS
          dsimp only
          rw [if_pos k4]
          show (textP (U ++ [c]) [13, 10] (s.pos + s.size.toNat)).2 = 1
          rw [text_cons, List.getElem?_eq_none (by omega)]
      have hr := read_of (U ++ [c]) k k1 k2 oth (by rw [hk1]; decide)
      left
      rw [hr, one0]
      refine ⟨hk1, ⟨by rw [hr]; exact hk1, .inr ⟨k, k1, k2, k3, by rw [eln, ← hs5]; exact k4, k5, ?_, ?_, ?_, ?_, by rw [eln, ← hs5]; exact k10⟩⟩, hb, rfl, rfl⟩
      · show d.line = _
        rw [eln, ← hs5, htk]
        exact k6
      · show { d.r with body := d.r.body ++ [c] } = _
        rw [eln, ← hs5, k7, hdrop]
        dsimp only
        rw [List.take_of_length_le (by rw [hdl]; omega), List.take_of_length_le (by rw [List.length_append, hdl]; simp; omega)]
      · show d.left - 1 = _
        rw [eln, ← hs5]
        omega
      · show 1 ≤ d.left - 1
        omega
    · -- its end
      have htake : takeS (U ++ [c]) s = { s with pos := s.pos + z, body := ((U ++ [c]).drop s.pos).take z } := by
        unfold takeS
        rw [if_pos k4, if_neg (by omega), ← hz]
      have hks : kindS k (U ++ [c]) = { s with pos := (textP (U ++ [c]) [13, 10] (s.pos + z)).1, st := (textP (U ++ [c]) [13, 10] (s.pos + z)).2, body := ((U ++ [c]).drop s.pos).take z } := by
        rw [hkind, htake]
        unfold textS
        rw [if_pos k4]
      have hbody : ((U ++ [c]).drop s.pos).take z = (U.drop s.pos).take z := by
        rw [hdrop, List.take_append_of_le_length (by rw [hdl]; omega)]
      by_cases c2 : n = z
      · have hat : (U ++ [c])[s.pos + z]? = some c := by
          rw [show s.pos + z = U.length by omega]
          simp
        have ht : textP (U ++ [c]) [13, 10] (s.pos + z) = if c = 13 then (s.pos + z + 1, 1) else (s.pos + z, 2) := by
          rw [text_cons, hat]
          dsimp only
          by_cases hc : c = 13
          · rw [if_pos hc, if_pos hc, text_cons, List.getElem?_eq_none (by omega)]
          · rw [if_neg hc, if_neg hc]
        by_cases hc : c = 13
        · rw [if_neg (by rintro (⟨_, h⟩ | ⟨h, _⟩); exact h hc; omega), if_neg (by omega), if_neg (by omega)] at one0
          rw [if_pos hc] at ht
          have hk1 : (kindS k (U ++ [c])).st = 1 := by rw [hks, ht]
          have hr := read_of (U ++ [c]) k k1 k2 oth (by rw [hk1]; decide)
          left
          rw [hr, one0]
          refine ⟨hk1, ⟨by rw [hr]; exact hk1, .inr ⟨k, k1, k2, k3, by rw [eln, ← hs5]; exact k4, k5, ?_, ?_, ?_, ?_, by rw [eln, ← hs5]; exact k10⟩⟩, hb, rfl, rfl⟩
          · show d.line = _
            rw [eln, ← hs5, htk]
            exact k6
          · show d.r = _
            rw [eln, ← hs5, ← hz, hbody, hz]
            exact k7
          · show d.left - 1 = _
            rw [eln, ← hs5]
            omega
          · show 1 ≤ d.left - 1
            omega
        · rw [if_pos (.inl ⟨by omega, hc⟩)] at one0
          rw [if_neg hc] at ht
          have hk2 : (kindS k (U ++ [c])).st = 2 := by rw [hks, ht]
          have hr := read_no (U ++ [c]) (fun i hi hi2 => by
            by_cases e : i = k
            · rw [e]; exact hk2
            · exact oth i hi hi2 e)
          right; right
          rw [one0]
          exact ⟨hr, rfl, rfl, rfl⟩
      · have hn1 : n = z + 1 := by omega
        -- the byte ahead is 13, else it was bad
        have h13 : (U ++ [c])[s.pos + z]? = some 13 := by
          have hU : (readP U).2.2 = 1 := hs
          have oU : ∀ i, 1 ≤ i → i ≤ 23 → i ≠ k → (kindS i U).st = 2 := fun i hi hi2 hne => (ln_other i k U ⟨hi, hi2⟩ ⟨k1, k2⟩ hne (by rw [← hs5]; exact k4)).1
          have hkU : kindS k U = textS [13, 10] U (takeS U s) := by rw [kind_ln, if_pos k3, hs5]
          have htU : takeS U s = { s with pos := s.pos + z, body := (U.drop s.pos).take z } := by
            unfold takeS
            rw [if_pos k4, if_neg (by omega), ← hz]
          have hksU : (kindS k U).st = (textP U [13, 10] (s.pos + z)).2 := by
            rw [hkU, htU]
            unfold textS
            rw [if_pos k4]
          obtain ⟨y, hy⟩ : ∃ y, U[s.pos + z]? = some y := ⟨_, List.getElem?_eq_getElem (by omega)⟩
          rw [text_cons, hy] at hksU
          dsimp only at hksU
          by_cases hy13 : y = 13
          · rw [hy13] at hy
            exact get_app hy
          · rw [if_neg hy13] at hksU
            rw [read_no U (fun i hi hi2 => by
              by_cases e : i = k
              · rw [e]; exact hksU
              · exact oU i hi hi2 e)] at hU
            cases hU
        have hat : (U ++ [c])[s.pos + z + 1]? = some c := by
          rw [show s.pos + z + 1 = U.length by omega]
          simp
        have ht : textP (U ++ [c]) [13, 10] (s.pos + z) = if c = 10 then (s.pos + z + 2, 0) else (s.pos + z + 1, 2) := by
          rw [text_cons, h13]
          dsimp only
          rw [if_pos rfl, text_cons, hat]
          dsimp only
          by_cases hc : c = 10
          · rw [if_pos hc, if_pos hc]; rfl
          · rw [if_neg hc, if_neg hc]
        by_cases hc : c = 10
        · rw [if_neg (by rintro (⟨h, _⟩ | ⟨_, h⟩); omega; exact h hc), if_pos (by omega)] at one0
          rw [if_pos hc] at ht
          have hk0 : (kindS k (U ++ [c])).st = 0 := by rw [hks, ht]
          have hkp : (kindS k (U ++ [c])).pos = U.length + 1 := by
            rw [hks, ht]
            show s.pos + z + 2 = _
            omega
          have hr := read_of (U ++ [c]) k k1 k2 oth (by rw [hk0]; decide)
          right; left
          rw [hr, one0]
          refine ⟨hk0, hkp, rel_nil _ rfl rfl rfl, hb, ?_, rfl⟩
          show d.L ++ [(d.r, d.line.length + (if d.inB = true then d.r.body.length + 2 else 0))] = _
          rw [if_pos k5, k7, k6]
          have e1 : rpOf k (kindS k (U ++ [c])) = { lineRp k s with body := (U.drop s.pos).take s.size.toNat } := by
            rw [hks, hbody, ← hz]
            rfl
          rw [e1]
          congr 3
          dsimp only
          rw [List.length_take, List.length_take, hdl]
          omega
        · rw [if_pos (.inr ⟨by omega, hc⟩)] at one0
          rw [if_neg hc] at ht
          have hk2 : (kindS k (U ++ [c])).st = 2 := by rw [hks, ht]
          have hr := read_no (U ++ [c]) (fun i hi hi2 => by
            by_cases e : i = k
            · rw [e]; exact hk2
            · exact oth i hi hi2 e)
          right; right
          rw [one0]
          exact ⟨hr, rfl, rfl, rfl⟩
end Go.Proofs.YtomgnailgddchaaDoor

namespace Go.Proofs.YtomgnailgddchaaDoor
open Go.RowKit

/-- The whole replies of bytes, with their sizes. -/
def repsF : Nat → List UInt8 → List (Rp × Nat)
  | 0, _ => []
  | f + 1, b => if (readP b).2.2 = 0 then ((readP b).1, (readP b).2.1) :: repsF f (b.drop (readP b).2.1) else []
def reps (b : List UInt8) : List (Rp × Nat) := repsF (b.length + 1) b
theorem reps_fuel : ∀ (f g : Nat) (b : List UInt8), b.length < f → b.length < g → repsF f b = repsF g b
  | 0, _, _, h, _ => absurd h (Nat.not_lt_zero _)
  | _ + 1, 0, _, _, h => absurd h (Nat.not_lt_zero _)
  | f + 1, g + 1, b, h1, h2 => by
    unfold repsF
    by_cases h : (readP b).2.2 = 0
    · have := read_good b h
      rw [if_pos h, if_pos h, reps_fuel f g (b.drop (readP b).2.1) (by simp; omega) (by simp; omega)]
    · rw [if_neg h, if_neg h]
theorem reps_good {b : List UInt8} (h : (readP b).2.2 = 0) : reps b = ((readP b).1, (readP b).2.1) :: reps (b.drop (readP b).2.1) := by
  have hg := read_good b h
  have e : reps b = ((readP b).1, (readP b).2.1) :: repsF b.length (b.drop (readP b).2.1) := by
    show repsF (b.length + 1) b = _
    rw [repsF, if_pos h]
  rw [e, reps_fuel b.length ((b.drop (readP b).2.1).length + 1) (b.drop (readP b).2.1) (by simp; omega) (by omega)]
  rfl
theorem reps_none {b : List UInt8} (h : (readP b).2.2 ≠ 0) : reps b = [] := by
  show repsF (b.length + 1) b = _
  rw [repsF, if_neg h]
theorem reps_nil : reps [] = [] := reps_none (by rw [read_nil]; decide)
theorem reps_one (c : UInt8) (X : List UInt8) : (scan X).2 = 0 → ((readP (X.drop (scan X).1 ++ [c])).2.2 ≠ 0 → reps (X ++ [c]) = reps X) ∧
    ((readP (X.drop (scan X).1 ++ [c])).2.2 = 0 → (readP (X.drop (scan X).1 ++ [c])).2.1 = (X.drop (scan X).1).length + 1 → reps (X ++ [c]) = reps X ++ [((readP (X.drop (scan X).1 ++ [c])).1, (X.drop (scan X).1).length + 1)]) := by
  refine by_replies (P := fun X => (scan X).2 = 0 → ((readP (X.drop (scan X).1 ++ [c])).2.2 ≠ 0 → reps (X ++ [c]) = reps X) ∧
    ((readP (X.drop (scan X).1 ++ [c])).2.2 = 0 → (readP (X.drop (scan X).1 ++ [c])).2.1 = (X.drop (scan X).1).length + 1 → reps (X ++ [c]) = reps X ++ [((readP (X.drop (scan X).1 ++ [c])).1, (X.drop (scan X).1).length + 1)])) (fun b h hs => ?_) (fun b h ih hs => ?_) X
  · rcases cases_read b with h0 | h0 | h0
    · exact absurd h0 h
    · rw [scan_short h0, List.drop_zero, reps_none h]
      refine ⟨fun h1 => reps_none h1, fun h1 h2 => ?_⟩
      rw [reps_good h1, h2, show b.length + 1 = (b ++ [c]).length by simp, List.drop_length, reps_nil]
      rfl
    · rw [scan_wrong h0] at hs
      cases hs
  · have e := read_ext b [c] (by rw [h]; decide)
    have hl := read_good b h
    have hb : reps (b ++ [c]) = ((readP b).1, (readP b).2.1) :: reps (b.drop (readP b).2.1 ++ [c]) := by
      rw [reps_good (by rw [e]; exact h), e, List.drop_append_of_le_length hl.2]
    rw [scan_good h] at hs ⊢
    dsimp only at hs ⊢
    rw [← List.drop_drop, hb, reps_good h]
    obtain ⟨i1, i2⟩ := ih hs
    exact ⟨fun h1 => by rw [i1 h1], fun h1 h2 => by rw [i2 h1 h2]; rfl⟩
theorem reps_bad (x X : List UInt8) : (scan X).2 ≠ 0 → reps (X ++ x) = reps X := by
  refine by_replies (P := fun X => (scan X).2 ≠ 0 → reps (X ++ x) = reps X) (fun b h hs => ?_) (fun b h ih hs => ?_) X
  · rcases cases_read b with h0 | h0 | h0
    · exact absurd h0 h
    · rw [scan_short h0] at hs
      exact absurd rfl hs
    · have e := read_ext b x (by rw [h0]; decide)
      have e2 : reps b = [] := reps_none h
      have e3 : reps (b ++ x) = [] := reps_none (by rw [e]; exact h)
      exact e3.trans e2.symm
  · have e := read_ext b x (by rw [h]; decide)
    have hl := read_good b h
    have hs2 : (scan (b.drop (readP b).2.1)).2 ≠ 0 := by
      intro h2
      refine hs ?_
      rw [scan_good h]
      dsimp only
      exact h2
    have e1 : (readP (b ++ x)).2.2 = 0 := by rw [e]; exact h
    have e2 := reps_good e1
    rw [e, List.drop_append_of_le_length hl.2, ih hs2] at e2
    exact e2.trans (reps_good h).symm
/-- How far the farthest kind got. -/
theorem from_max (b : List UInt8) : ∀ (n k far : Nat), (∀ i, k ≤ i → i < k + n → (kindS i b).st = 2) → far ≤ (readFrom b n k far).2.1 ∧ ∀ j, k ≤ j → j < k + n → (kindS j b).pos ≤ (readFrom b n k far).2.1
  | 0, k, far, _ => ⟨Nat.le_refl _, fun j h1 h2 => by omega⟩
  | n + 1, k, far, h => by
    have e : readFrom b (n + 1) k far = readFrom b n (k + 1) (max far (kindS k b).pos) := by
      rw [readFrom, if_pos (h k (Nat.le_refl _) (by omega))]
    rw [e]
    obtain ⟨a, c⟩ := from_max b n (k + 1) (max far (kindS k b).pos) (fun i h1 h2 => h i (by omega) (by omega))
    refine ⟨by omega, fun j h1 h2 => ?_⟩
    by_cases hj : j = k
    · subst hj; omega
    · exact c j (by omega) (by omega)
theorem wrong_at {U : List UInt8} {c : UInt8} (h : (readP U).2.2 = 1) (h2 : (readP (U ++ [c])).2.2 = 2) : (readP (U ++ [c])).2.1 = U.length := by
  have h3 := (read_wrong _ h2).1
  have h4 : U.length ≤ (readP (U ++ [c])).2.1 := by
    rcases read_pick U with ⟨j, h5, h6, _, h8, e⟩ | ⟨_, h5, _⟩
    · rw [e] at h
      have hall : ∀ i, 1 ≤ i → i < 1 + 23 → (kindS i (U ++ [c])).st = 2 := by
        rcases read_pick (U ++ [c]) with ⟨i, q1, q2, q3, q4, q5⟩ | ⟨q1, _, _⟩
        · rw [q5] at h2
          exact absurd h2 q4
        · exact fun i h1 h2 => q1 i h1 (by omega)
      have := (from_max (U ++ [c]) 23 1 0 hall).2 j h5 (by omega)
      have q := (kind_short j U [c] h).2
      exact Nat.le_trans q this
    · rw [h5] at h
      cases h
  simp at h3
  omega
/-- The document's reader to which A came and of which g bytes are told. -/
structure DRel (A : List UInt8) (g : Nat) (d : Dc) : Prop where
  bd : Bd A g
  L : d.L = reps (A.drop g)
  bad : d.bad = decide ((scan A).2 ≠ 0)
  cnt : d.cnt + g = if (scan A).2 = 0 then A.length else (scan A).1 + (scan A).2
  rel : (scan A).2 = 0 → Rel (A.drop (scan A).1) d
theorem DRel.one {A : List UInt8} {g : Nat} {d : Dc} (h : DRel A g d) (hb : d.bad = false) (c : UInt8) : DRel (A ++ [c]) g (oneR d c) := by
  have hz : (scan A).2 = 0 := by
    have := h.bad
    rw [hb] at this
    simpa using this.symm
  have hrel := h.rel hz
  have hcnt := h.cnt
  rw [if_pos hz] at hcnt
  have hle := scan_le A
  have hsa : scan (A ++ [c]) = ((scan A).1 + (scan (A.drop (scan A).1 ++ [c])).1, (scan (A.drop (scan A).1 ++ [c])).2) := by rw [scan_app, if_pos hz]
  have hgl : g ≤ A.length := h.bd.1
  have hdg : (A ++ [c]).drop g = A.drop g ++ [c] := List.drop_append_of_le_length hgl
  have hsg := h.bd.2
  have hsg1 : (scan A).1 = g + (scan (A.drop g)).1 := congrArg Prod.fst hsg
  have hsg2 : (scan (A.drop g)).2 = 0 := by rw [← hz]; exact (congrArg Prod.snd hsg).symm
  have hU : (A.drop g).drop (scan (A.drop g)).1 = A.drop (scan A).1 := by rw [List.drop_drop, hsg1]
  have hone := reps_one c (A.drop g) hsg2
  rw [hU] at hone
  have hdU : (A ++ [c]).drop (scan A).1 = A.drop (scan A).1 ++ [c] := List.drop_append_of_le_length (by omega)
  have hUl : (A.drop (scan A).1).length = A.length - (scan A).1 := List.length_drop ..
  rcases hrel.one hb c with ⟨h1, h2, h3, h4, h5⟩ | ⟨h1, h2, h3, h4, h5, h6⟩ | ⟨h1, h2, h3, h4⟩
  · have e := scan_short h1
    rw [e] at hsa
    have e1 : (scan (A ++ [c])).1 = (scan A).1 := by rw [hsa]; rfl
    have e2 : (scan (A ++ [c])).2 = 0 := by rw [hsa]
    refine ⟨h.bd.app [c], by rw [h4, hdg, hone.1 (by rw [h1]; decide)]; exact h.L, by rw [h3, e2]; rfl, by rw [if_pos e2, h5]; simp; omega, fun _ => by rw [e1, hdU]; exact h2⟩
  · have e := scan_good h1
    rw [h2, show (A.drop (scan A).1).length + 1 = (A.drop (scan A).1 ++ [c]).length by simp, List.drop_length, scan_nil] at e
    rw [e] at hsa
    have e1 : (scan (A ++ [c])).1 = (A ++ [c]).length := by
      rw [hsa]
      show (scan A).1 + ((A.drop (scan A).1 ++ [c]).length + 0) = _
      simp
      omega
    have e2 : (scan (A ++ [c])).2 = 0 := by rw [hsa]
    refine ⟨h.bd.app [c], by rw [h5, hdg, hone.2 h1 h2, h.L], by rw [h4, e2]; rfl, by rw [if_pos e2, h6]; simp; omega, fun _ => by rw [e1, List.drop_length]; exact h3⟩
  · have e := scan_wrong h1
    have hp := wrong_at hrel.short h1
    rw [hp] at e
    rw [e] at hsa
    have e1 : (scan (A ++ [c])).1 = (scan A).1 := by rw [hsa]; rfl
    have e2 : (scan (A ++ [c])).2 = (A.drop (scan A).1).length + 1 := by rw [hsa]
    have e3 : (scan (A ++ [c])).2 ≠ 0 := by rw [e2]; omega
    refine ⟨h.bd.app [c], by rw [h3, hdg, hone.1 (by rw [h1]; decide)]; exact h.L, by rw [h2]; simp [e3], ?_, fun h0 => absurd h0 e3⟩
    rw [if_neg e3, h4, e1, e2, hUl]
    omega
theorem DRel.stuck {A : List UInt8} {g : Nat} {d : Dc} (h : DRel A g d) (hb : d.bad = true) (x : List UInt8) : DRel (A ++ x) g d := by
  have hz : (scan A).2 ≠ 0 := by
    have := h.bad
    rw [hb] at this
    simpa using this.symm
  have hsa : scan (A ++ x) = scan A := by rw [scan_app, if_neg hz]
  have hcnt := h.cnt
  rw [if_neg hz] at hcnt
  have hsg2 : (scan (A.drop g)).2 ≠ 0 := by
    have := congrArg Prod.snd h.bd.2
    rw [this] at hz
    exact hz
  refine ⟨h.bd.app x, by rw [List.drop_append_of_le_length h.bd.1, reps_bad x _ hsg2]; exact h.L, by rw [hsa]; exact h.bad, by rw [hsa, if_neg hz]; exact hcnt, fun h0 => by rw [hsa] at h0; exact absurd h0 hz⟩
/-- Bytes come. -/
def feedR : Dc → List UInt8 → Dc
  | d, [] => d
  | d, c :: b => if d.bad = true then d else feedR (oneR d c) b
theorem DRel.feed : ∀ {A : List UInt8} {g : Nat} {d : Dc} (_ : DRel A g d) (b : List UInt8), DRel (A ++ b) g (feedR d b)
  | A, g, d, h, [] => by rw [List.append_nil]; exact h
  | A, g, d, h, c :: b => by
    unfold feedR
    cases hb : d.bad with
    | true => rw [if_pos rfl]; exact h.stuck hb (c :: b)
    | false =>
      rw [if_neg (by simp), show A ++ c :: b = (A ++ [c]) ++ b by simp]
      exact (h.one hb c).feed b
theorem drel_new : DRel [] 0 ⟨[], [], false, rp0, 0, 0, false⟩ :=
  ⟨Bd.zero _, by rw [List.drop_zero, reps_nil], by rw [scan_nil]; decide, by rw [scan_nil]; decide, fun _ => by rw [scan_nil]; exact rel_nil _ rfl rfl rfl⟩
/-- The next one. -/
theorem DRel.next {A : List UInt8} {g : Nat} {d : Dc} (h : DRel A g d) (hlt : g < (scan A).1) : ∃ L', d.L = ((readP (A.drop g)).1, (readP (A.drop g)).2.1) :: L' ∧ DRel A (g + (readP (A.drop g)).2.1) { d with L := L', cnt := d.cnt - (readP (A.drop g)).2.1 } ∧ (readP (A.drop g)).2.1 ≤ d.cnt := by
  obtain ⟨h0, h1, _, h3⟩ := h.bd.next hlt
  have hL := h.L
  have e0 := reps_good h0
  have hd : (A.drop g).drop (readP (A.drop g)).2.1 = A.drop (g + (readP (A.drop g)).2.1) := by rw [List.drop_drop]
  rw [hd] at e0
  have hc := h.cnt
  have hle := scan_le A
  have hbad := h.bad
  have hrel := h.rel
  generalize (readP (A.drop g)).2.1 = z at *
  generalize (readP (A.drop g)).1 = v at *
  have hpc : z ≤ d.cnt := by
    split at hc <;> omega
  refine ⟨_, hL.trans e0, ⟨h3, ?_, hbad, ?_, ?_⟩, hpc⟩
  · dsimp only
  · dsimp only
    rw [← hc]
    omega
  · intro hz
    obtain ⟨r1, r2⟩ := hrel hz
    exact ⟨r1, r2⟩
theorem DRel.none {A : List UInt8} {g : Nat} {d : Dc} (h : DRel A g d) (hlt : ¬ g < (scan A).1) : d.L = [] := by
  rw [h.L]
  refine reps_none (fun h0 => hlt ?_)
  have e := congrArg Prod.fst h.bd.2
  have hg := read_good _ h0
  rw [scan_good h0] at e
  have e : (scan A).1 = g + ((readP (A.drop g)).2.1 + (scan ((A.drop g).drop (readP (A.drop g)).2.1)).1) := e
  omega
end Go.Proofs.YtomgnailgddchaaDoor

namespace Go.Proofs.YtomgnailgddchaaDoor
open Go.RowKit

/-- A field that goes on: its word. -/
theorem fld_run (k : Nat) (hk : k < 24) (x : UInt8) (b : List UInt8) (p : Nat) (h : (fldM k b x p).2 = 0) :
    b[p]? = some 32 ∧ fitsX k x (runR (x == 84) (b.drop (p + 1))) = true ∧ (fldM k b x p).1 = p + 1 + (runR (x == 84) (b.drop (p + 1))).length ∧ (wordP b (fitsX k x) p).1 = runR (x == 84) (b.drop (p + 1)) := by
  have hs := (step_fld k hk x b p).1 h
  unfold fldM at h
  split at h
  · cases h
  · rename_i h1
    split at h
    · cases h
    · rename_i h2
      have h32 : b[p]? = some 32 := Classical.not_not.1 h2
      split at h
      · cases h
      · rename_i h3
        split at h
        · rename_i h4
          have e : fldM k b x p = (p + 1 + (runR (x == 84) (b.drop (p + 1))).length, 0) := by
            unfold fldM
            rw [if_neg h1, if_neg h2, if_neg h3, if_pos h4]
          obtain ⟨q1, q2, _, _⟩ := run_split (x == 84) (b.drop (p + 1))
          rw [e] at hs ⊢
          refine ⟨h32, h4, rfl, ?_⟩
          have hw := word_blank (fits := fitsX k x) h32
          have sp := (fit_spec (closed_X k x) (runOf b p)).1
          rw [hw] at hs ⊢
          have hp := congrArg Prod.fst hs.1
          dsimp only at hp ⊢
          have hN : fitN (fitsX k x) (runOf b p) = (runR (x == 84) (b.drop (p + 1))).length := by omega
          rw [hN] at sp ⊢
          have hr := run_len b p
          unfold runOf
          rw [List.take_take, Nat.min_eq_left (by omega)]
          exact q2
        · cases h
theorem parse_more {m n : Int} {s : List UInt8} {l : Int} (h : numFits l m s = true) (hm : m ≤ n) : parseV s n = parseV s m := by
  obtain ⟨u, rfl, h1, h2⟩ := fits_dec.1 h
  rw [dec_value h2, dec_value (by omega)]
theorem st_of {b : List UInt8} {s : St} (h : (textS [13, 10] b s).st = 0) : s.st = 0 := by
  refine Classical.byContradiction fun hn => ?_
  unfold textS at h
  rw [if_neg hn] at h
  exact hn h
theorem bounds_le : ∀ k : Nat, k < 24 → idOf k ≤ 4611686018427387903 ∧ nuOf k ≤ 4611686018427387903 ∧ boOf k ≤ 4611686018427387903 := by decide
theorem fld_three (k : Nat) (b : List UInt8) (x : UInt8) (p : Nat) : (fldM k b x p).2 = 0 ∨ (fldM k b x p).2 = 1 ∨ (fldM k b x p).2 = 2 := by
  unfold fldM
  split
  · exact .inr (.inl rfl)
  · split
    · exact .inr (.inr rfl)
    · split
      · exact .inr (.inl rfl)
      · split
        · exact .inl rfl
        · exact .inr (.inr rfl)
/-- A field of a line that is whole. -/
structure StepG (k : Nat) (b : List UInt8) (x : UInt8) (s t : St) (z : List UInt8) : Prop where
  at_ : s.pos < b.length
  ne : 0 < z.length
  run : z = runR (x == 84) (b.drop (s.pos + 1))
  st : t.st = 0
  pos : t.pos = s.pos + 1 + z.length
  len : t.pos ≤ b.length
  tube : t.tube = if x = 84 then z else s.tube
  id : t.id = if x = 73 then parseV z 4611686018427387903 else s.id
  num : t.num = if x = 78 then parseV z 4611686018427387903 else s.num
  size : t.size = if x = 66 then parseV z 4611686018427387903 else s.size
theorem step_good (k : Nat) (hk : k < 24) (b : List UInt8) (x : UInt8) (fs : List UInt8) (s : St) (hx : ∀ y ∈ x :: fs, y = 73 ∨ y = 78 ∨ y = 84 ∨ y = 66) (h0 : s.st = 0) (hT : (textS [13, 10] b (stepsX k b (x :: fs) s)).st = 0) :
    StepG k b x s (stepX k x b s) (runR (x == 84) (b.drop (s.pos + 1))) := by
  have hxx := hx x (List.mem_cons_self ..)
  have hpos := stepX_pos k x hxx b s h0
  obtain ⟨f0, f1, f2⟩ := step_fld k hk x b s.pos
  have hT : (textS [13, 10] b (stepsX k b fs (stepX k x b s))).st = 0 := hT
  have hz : (stepX k x b s).st = 0 := by
    refine Classical.byContradiction fun hn => ?_
    rw [stepsX_stuck k b fs _ hn] at hT
    exact hn (st_of hT)
  have h : (fldM k b x s.pos).2 = 0 := by
    rcases fld_three k b x s.pos with h | h | h
    · exact h
    · rw [hpos.2, f1 h] at hz
      cases hz
    · rcases f2 h with h5 | ⟨h5, c, hc, h32, h13⟩
      · rw [hpos.2, h5] at hz
        cases hz
      · rw [dead k b c h32 h13 fs (stepX k x b s) (fun y hy => hx y (List.mem_cons_of_mem _ hy)) hz (by rw [hpos.1]; exact hc)] at hT
        cases hT
  obtain ⟨g1, g2, g3, g4⟩ := fld_run k hk x b s.pos h
  obtain ⟨e1, e2⟩ := f0 h
  have ep : (stepX k x b s).pos = s.pos + 1 + (runR (x == 84) (b.drop (s.pos + 1))).length := by rw [hpos.1, e1]; exact g3
  have el : (stepX k x b s).pos ≤ b.length := by rw [ep, ← g3]; exact e2
  obtain ⟨b1, b2, b3⟩ := bounds_le k hk
  have hne : 0 < (runR (x == 84) (b.drop (s.pos + 1))).length := by
    cases hr : runR (x == 84) (b.drop (s.pos + 1)) with
    | nil => rw [hr, fits_ne] at g2; cases g2
    | cons _ _ => exact Nat.succ_pos _
  refine ⟨(List.getElem?_eq_some_iff.1 g1).1, hne, rfl, hz, ep, el, ?_, ?_, ?_, ?_⟩
  all_goals
    generalize runR (x == 84) (b.drop (s.pos + 1)) = z at g2 g4
    unfold fitsX at g2 g4
    rcases hxx with rfl | rfl | rfl | rfl
    all_goals
      simp only [show ¬ (73 : UInt8) = 84 by decide, show ¬ (78 : UInt8) = 84 by decide, show ¬ (66 : UInt8) = 84 by decide, show ¬ (78 : UInt8) = 73 by decide, show ¬ (66 : UInt8) = 73 by decide, show ¬ (66 : UInt8) = 78 by decide, show ¬ (84 : UInt8) = 73 by decide, show ¬ (84 : UInt8) = 78 by decide, show ¬ (73 : UInt8) = 78 by decide, if_true, if_false, leastX, mostX] at g2 g4
      simp only [stepX, idS, numS, tubeS, sizeS, h0, show ¬ (73 : UInt8) = 84 by decide, show ¬ (78 : UInt8) = 84 by decide, show ¬ (66 : UInt8) = 84 by decide, show ¬ (78 : UInt8) = 73 by decide, show ¬ (66 : UInt8) = 73 by decide, show ¬ (66 : UInt8) = 78 by decide, show ¬ (84 : UInt8) = 73 by decide, show ¬ (84 : UInt8) = 78 by decide, show ¬ (84 : UInt8) = 66 by decide, show ¬ (73 : UInt8) = 78 by decide, show ¬ (73 : UInt8) = 66 by decide, show ¬ (78 : UInt8) = 66 by decide, if_true, if_false, g4]
      try (first | exact (parse_more g2 b1).symm | exact (parse_more g2 b2).symm | exact (parse_more g2 b3).symm)
/-- A whole line's first field stands behind its word. -/
theorem ln_start (k : Nat) (b : List UInt8) (h : (lnS k b).st = 0) : lnS k b = textS [13, 10] b (stepsX k b (fsOf k) (textS (wordOf k) b st0)) ∧ (textS (wordOf k) b st0).st = 0 ∧ (textS (wordOf k) b st0).pos = (wordOf k).length ∧ (wordOf k).length ≤ b.length ∧
    (textS (wordOf k) b st0).id = 0 ∧ (textS (wordOf k) b st0).num = 0 ∧ (textS (wordOf k) b st0).tube = [] ∧ (textS (wordOf k) b st0).size = 0 := by
  have e : lnS k b = textS [13, 10] b (stepsX k b (fsOf k) (textS (wordOf k) b st0)) := by
    unfold lnS
    rw [line_steps]
  have hz : (textS (wordOf k) b st0).st = 0 := by
    refine Classical.byContradiction fun hn => ?_
    rw [e, stepsX_stuck k b _ _ hn] at h
    exact hn (st_of h)
  have e0 : textS (wordOf k) b st0 = { st0 with pos := (textP b (wordOf k) 0).1, st := (textP b (wordOf k) 0).2 } := rfl
  have hg := text_good b (wordOf k) 0 (Nat.zero_le _) (by rw [e0] at hz; exact hz)
  rw [Nat.zero_add] at hg
  have h2 := hg.2.1
  rw [List.drop_zero] at h2
  refine ⟨e, hz, hg.1, ?_, rfl, rfl, rfl, rfl⟩
  have := congrArg List.length h2
  rw [List.length_append] at this
  omega
theorem ln_same (k : Nat) (b : List UInt8) (s : St) : lineRp k (textS [13, 10] b s) = lineRp k s ∧ (textS [13, 10] b s).size = s.size := by
  unfold textS lineRp
  split <;> exact ⟨rfl, rfl⟩
theorem has_body : ∀ k : Nat, k < 24 → ((fsOf k).contains 66 = decide (0 < boOf k)) := by decide
end Go.Proofs.YtomgnailgddchaaDoor
