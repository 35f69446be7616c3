/-
  Plain facts: all replies that bytes have, and a reader to which they come in pieces.
-/
import Derived.Test.YtaaohoombjlhfaaDoorPlainScan
namespace Go.Proofs.YtaaohoombjlhfaaDoor
open Go.RowKit

/-- How many bytes at the head are whole replies; behind them how many up to a wrong one and with it (0: none is). -/
def scanF : Nat → List UInt8 → Nat × Nat
  | 0, _ => (0, 0)
  | f + 1, b => if (readP b).2.2 = 0 then ((readP b).2.1 + (scanF f (b.drop (readP b).2.1)).1, (scanF f (b.drop (readP b).2.1)).2) else if (readP b).2.2 = 2 then (0, (readP b).2.1 + 1) else (0, 0)
def scan (b : List UInt8) : Nat × Nat := scanF (b.length + 1) b
theorem scan_fuel : ∀ (f g : Nat) (b : List UInt8), b.length < f → b.length < g → scanF f b = scanF g b
  | 0, _, _, h, _ => absurd h (Nat.not_lt_zero _)
  | _ + 1, 0, _, _, h => absurd h (Nat.not_lt_zero _)
  | f + 1, g + 1, b, h1, h2 => by
    unfold scanF
    by_cases h : (readP b).2.2 = 0
    · have := read_good b h
      rw [if_pos h, if_pos h, scan_fuel f g (b.drop (readP b).2.1) (by simp; omega) (by simp; omega)]
    · rw [if_neg h, if_neg h]
theorem scan_good {b : List UInt8} (h : (readP b).2.2 = 0) : scan b = ((readP b).2.1 + (scan (b.drop (readP b).2.1)).1, (scan (b.drop (readP b).2.1)).2) := by
  have hg := read_good b h
  have e : scan b = ((readP b).2.1 + (scanF b.length (b.drop (readP b).2.1)).1, (scanF b.length (b.drop (readP b).2.1)).2) := by
    show scanF (b.length + 1) b = _
    rw [scanF, if_pos h]
  rw [e, scan_fuel b.length ((b.drop (readP b).2.1).length + 1) (b.drop (readP b).2.1) (by simp; omega) (by omega)]
  rfl
theorem scan_wrong {b : List UInt8} (h : (readP b).2.2 = 2) : scan b = (0, (readP b).2.1 + 1) := by
  show scanF (b.length + 1) b = _
  rw [scanF, if_neg (by rw [h]; decide), if_pos h]
theorem scan_short {b : List UInt8} (h : (readP b).2.2 = 1) : scan b = (0, 0) := by
  show scanF (b.length + 1) b = _
  rw [scanF, if_neg (by rw [h]; decide), if_neg (by rw [h]; decide)]
theorem read_nil : (readP []).2 = (0, 1) := by decide
theorem scan_nil : scan [] = (0, 0) := scan_short (by rw [read_nil])
theorem read_first (b : List UInt8) (j : Nat) (h1 : 1 ≤ j) (h2 : j ≤ 23) (h3 : ∀ i, 1 ≤ i → i < j → (kindS i b).st = 2) (h4 : (kindS j b).st ≠ 2) : readP b = (rpOf j (kindS j b), (kindS j b).pos, (kindS j b).st) := from_first b 23 1 0 j h1 (by omega) h3 h4
theorem cases_read (b : List UInt8) : (readP b).2.2 = 0 ∨ (readP b).2.2 = 1 ∨ (readP b).2.2 = 2 := by
  have := read_three b
  omega
/-- By the replies that bytes have. -/
theorem by_replies {P : List UInt8 → Prop} (h0 : ∀ b, (readP b).2.2 ≠ 0 → P b) (h1 : ∀ b, (readP b).2.2 = 0 → P (b.drop (readP b).2.1) → P b) : ∀ b, P b := by
  intro b
  induction h : b.length using Nat.strongRecOn generalizing b with
  | _ n ih =>
    by_cases hz : (readP b).2.2 = 0
    · have := read_good b hz
      exact h1 b hz (ih (b.drop (readP b).2.1).length (by simp; omega) _ rfl)
    · exact h0 b hz
theorem scan_le (b : List UInt8) : (scan b).1 + (scan b).2 ≤ b.length := by
  refine by_replies (P := fun b => (scan b).1 + (scan b).2 ≤ b.length) (fun b h => ?_) (fun b h ih => ?_) b
  · rcases cases_read b with h0 | h0 | h0
    · exact absurd h0 h
    · rw [scan_short h0]; exact Nat.zero_le _
    · rw [scan_wrong h0]
      have := (read_wrong b h0).1
      show 0 + _ ≤ _
      omega
  · rw [scan_good h]
    have := read_good b h
    rw [List.length_drop] at ih
    show (readP b).2.1 + _ + _ ≤ _
    omega
theorem pair_eq {a b c d : Nat} (h1 : a = c) (h2 : b = d) : (a, b) = (c, d) := by rw [h1, h2]
theorem scan_rest (b : List UInt8) : scan (b.drop (scan b).1) = (0, (scan b).2) := by
  refine by_replies (P := fun b => scan (b.drop (scan b).1) = (0, (scan b).2)) (fun b h => ?_) (fun b h ih => ?_) b
  · rcases cases_read b with h0 | h0 | h0
    · exact absurd h0 h
    · have e := scan_short h0
      rw [e]; exact e
    · have e := scan_wrong h0
      rw [e]; exact e
  · rw [scan_good h]
    dsimp only
    rw [← List.drop_drop]
    exact ih
theorem scan_zero {b : List UInt8} (h : (scan b).1 = 0) : (readP b).2.2 ≠ 0 := by
  intro h0
  rw [scan_good h0] at h
  have := read_good b h0
  simp only at h
  omega
/-- What the rest is. -/
theorem rest_short {b : List UInt8} (h : (scan b).2 = 0) : (readP (b.drop (scan b).1)).2.2 = 1 := by
  have e := scan_rest b
  have h1 := scan_zero (b := b.drop (scan b).1) (by rw [e])
  rcases cases_read (b.drop (scan b).1) with h0 | h0 | h0
  · exact absurd h0 h1
  · exact h0
  · rw [scan_wrong h0, h] at e
    have := congrArg Prod.snd e
    simp at this
theorem scan_app (b x : List UInt8) : scan (b ++ x) = if (scan b).2 = 0 then ((scan b).1 + (scan (b.drop (scan b).1 ++ x)).1, (scan (b.drop (scan b).1 ++ x)).2) else scan b := by
  refine by_replies (P := fun b => scan (b ++ x) = if (scan b).2 = 0 then ((scan b).1 + (scan (b.drop (scan b).1 ++ x)).1, (scan (b.drop (scan b).1 ++ x)).2) else scan b) (fun b h => ?_) (fun b h ih => ?_) b
  · rcases cases_read b with h0 | h0 | h0
    · exact absurd h0 h
    · rw [scan_short h0, if_pos rfl]
      simp
    · have e := read_ext b x (by rw [h0]; decide)
      rw [scan_wrong h0, if_neg (by simp), scan_wrong (by rw [e]; exact h0), e]
  · have e := read_ext b x (by rw [h]; decide)
    have hl := read_good b h
    have h2 : scan (b ++ x) = ((readP b).2.1 + (scan (b.drop (readP b).2.1 ++ x)).1, (scan (b.drop (readP b).2.1 ++ x)).2) := by
      rw [scan_good (by rw [e]; exact h), e, List.drop_append_of_le_length hl.2]
    rw [h2, scan_good h, ih]
    by_cases hz : (scan (b.drop (readP b).2.1)).2 = 0
    · rw [if_pos hz, if_pos hz]
      dsimp only
      rw [← List.drop_drop]
      exact pair_eq (by omega) rfl
    · rw [if_neg hz, if_neg hz]

/-- A place of bytes where a reply, or what is no reply, begins. -/
def Bd (A : List UInt8) (g : Nat) : Prop := g ≤ A.length ∧ scan A = (g + (scan (A.drop g)).1, (scan (A.drop g)).2)
theorem Bd.zero (A : List UInt8) : Bd A 0 := ⟨Nat.zero_le _, by simp⟩
theorem Bd.le {A : List UInt8} {g : Nat} (h : Bd A g) : g ≤ (scan A).1 := by rw [h.2]; show g ≤ g + _; omega
theorem Bd.app {A : List UInt8} {g : Nat} (h : Bd A g) (x : List UInt8) : Bd (A ++ x) g := by
  obtain ⟨h1, h2⟩ := h
  refine ⟨by simp; omega, ?_⟩
  rw [scan_app A x, List.drop_append_of_le_length h1, scan_app (A.drop g) x]
  have e1 := congrArg Prod.fst h2
  have e2 := congrArg Prod.snd h2
  simp only at e1 e2
  rw [e2]
  by_cases hz : (scan (A.drop g)).2 = 0
  · rw [if_pos hz, if_pos hz]
    simp only [List.drop_drop, ← e1]
    exact pair_eq (by omega) rfl
  · rw [if_neg hz, if_neg hz]
    exact h2
/-- The next reply. -/
theorem Bd.next {A : List UInt8} {g : Nat} (h : Bd A g) (hlt : g < (scan A).1) : (readP (A.drop g)).2.2 = 0 ∧ g + (readP (A.drop g)).2.1 ≤ (scan A).1 ∧ readP ((A.drop g).take ((scan A).1 - g)) = readP (A.drop g) ∧ Bd A (g + (readP (A.drop g)).2.1) := by
  obtain ⟨h1, h2⟩ := h
  have e1 := congrArg Prod.fst h2
  simp only at e1
  have h0 : (readP (A.drop g)).2.2 = 0 := by
    rcases cases_read (A.drop g) with h0 | h0 | h0
    · exact h0
    · rw [scan_short h0] at e1; simp only at e1; omega
    · rw [scan_wrong h0] at e1; simp only at e1; omega
  have hg := read_good _ h0
  have hs := scan_good h0
  have e3 := congrArg Prod.fst hs
  simp only at e3
  refine ⟨h0, by omega, read_cut _ _ h0 (by omega), ?_, ?_⟩
  · rw [List.length_drop] at hg; omega
  · rw [h2, hs, ← List.drop_drop]
    dsimp only
    exact pair_eq (Nat.add_assoc _ _ _).symm rfl
theorem Bd.kk {A : List UInt8} {kk : Nat} (h : Bd A kk) (h0 : (readP (A.drop kk)).2.2 = 0) : Bd A (kk + (readP (A.drop kk)).2.1) := by
  refine (h.next ?_).2.2.2
  have := read_good _ h0
  rw [h.2, scan_good h0]
  show kk < kk + (_ + _)
  omega

/-- A step whose shortness is where the bytes end. -/
def Tight (p : List UInt8 → St → St) : Prop := ∀ b s, s.st = 0 → s.pos ≤ b.length → (p b s).st = 1 → (p b s).pos = b.length
theorem Tight.comp {p q : List UInt8 → St → St} (h : Tight p) (f : Fine p) (k : Tight q) (fq : Fine q) : Tight (fun b s => q b (p b s)) := by
  intro b s h0 hp h1
  have h1 : (q b (p b s)).st = 1 := h1
  show (q b (p b s)).pos = _
  by_cases hz : (p b s).st = 0
  · exact k b _ hz (f.good b s h0 hp hz) h1
  · rw [fq.stuck b _ hz] at h1 ⊢
    exact h b s h0 hp h1
theorem Tight.opt {p : List UInt8 → St → St} (h : Tight p) (c : Prop) [Decidable c] : Tight (fun b s => if c then p b s else s) := by
  intro b s h0 hp h1
  by_cases hc : c
  · simp only [if_pos hc] at h1 ⊢; exact h b s h0 hp h1
  · simp only [if_neg hc] at h1; rw [h0] at h1; cases h1
theorem tight_text (w : List UInt8) : Tight (textS w) := by
  intro b s h0 hp h1
  unfold textS at h1 ⊢
  rw [if_pos h0] at h1 ⊢
  exact (text_short b [] w s.pos hp h1).1
theorem tight_word {fits : List UInt8 → Bool} (hc : Closed fits) (f : St → List UInt8 → Nat → Nat → St) (hf : ∀ s w p e, (f s w p e).pos = p ∧ (f s w p e).st = e) (p : List UInt8 → St → St)
    (hp : ∀ b s, p b s = if s.st = 0 then f s (wordP b fits s.pos).1 (wordP b fits s.pos).2.1 (wordP b fits s.pos).2.2 else s) : Tight p := by
  intro b s h0 hq h1
  rw [hp, if_pos h0] at h1 ⊢
  rw [(hf _ _ _ _).2] at h1
  rw [(hf _ _ _ _).1]
  exact (word_short hc b [] s.pos hq h1).1
theorem tight_line (k : Nat) : Tight (lineS k) := by
  have a1 := tight_text (wordOf k)
  have a2 : Tight (idS (idOf k)) := tight_word (num_closed (l := 1) (m := idOf k) (by decide)) (fun s w p e => { s with pos := p, st := e, id := parseV w (idOf k) }) (fun _ _ _ _ => ⟨rfl, rfl⟩) _ (fun _ _ => rfl)
  have a3 : Tight (numS (nuOf k)) := tight_word (num_closed (l := 0) (m := nuOf k) (by decide)) (fun s w p e => { s with pos := p, st := e, num := parseV w (nuOf k) }) (fun _ _ _ _ => ⟨rfl, rfl⟩) _ (fun _ _ => rfl)
  have a4 : Tight tubeS := tight_word valid_closed (fun s w p e => { s with pos := p, st := e, tube := w }) (fun _ _ _ _ => ⟨rfl, rfl⟩) _ (fun _ _ => rfl)
  have a5 : Tight (sizeS (boOf k)) := tight_word (num_closed (l := 0) (m := boOf k) (by decide)) (fun s w p e => { s with pos := p, st := e, size := parseV w (boOf k) }) (fun _ _ _ _ => ⟨rfl, rfl⟩) _ (fun _ _ => rfl)
  have f1 := fine_text (wordOf k)
  have f2 := (fine_id (idOf k)).opt (0 < idOf k)
  have f3 := (fine_num (nuOf k)).opt (0 < nuOf k)
  have f4 := fine_tube.opt (tuOf k = true)
  have f5 := (fine_size (boOf k)).opt (0 < boOf k)
  exact (((a1.comp f1 (a2.opt _) f2).comp (f1.comp f2) (a3.opt _) f3).comp ((f1.comp f2).comp f3) (a4.opt _) f4).comp (((f1.comp f2).comp f3).comp f4) (a5.opt _) f5
theorem nil_of_le {b x : List UInt8} (h : (b ++ x).length ≤ b.length) : x = [] := by
  rw [List.length_append] at h
  exact List.length_eq_zero_iff.1 (by omega)
/-- A body that is still to come is not looked at. -/
theorem kind_skip (k : Nat) (b x : List UInt8) (h : (kindS k b).st = 1) (hx : (b ++ x).length ≤ (kindS k b).pos) : (kindS k (b ++ x)).st = 1 ∧ (kindS k (b ++ x)).pos = (kindS k b).pos := by
  have same : (kindS k b).pos = b.length → (kindS k (b ++ x)).st = 1 ∧ (kindS k (b ++ x)).pos = (kindS k b).pos := fun e => by
    rw [e] at hx
    rw [nil_of_le hx, List.append_nil]
    exact ⟨h, rfl⟩
  by_cases hc : 0 < boOf k
  · obtain ⟨s5, e5⟩ : ∃ s, s = textS [13, 10] b (lineS k b st0) := ⟨_, rfl⟩
    have hk : kindS k b = textS [13, 10] b (takeS b s5) := by unfold kindS bodyS; rw [if_pos hc, ← e5]
    have F5 := (fine_line k).comp (fine_text [13, 10])
    by_cases hz : s5.st = 0
    · have p5 : s5.pos ≤ b.length := by rw [e5] at hz ⊢; exact F5.good b st0 rfl (Nat.zero_le _) hz
      have e6 : textS [13, 10] (b ++ x) (lineS k (b ++ x) st0) = s5 := by
        rw [e5]
        exact F5.ext b x st0 rfl (Nat.zero_le _) (by rw [e5] at hz; show (textS [13, 10] b (lineS k b st0)).st ≠ 1; rw [hz]; decide)
      have hk6 : kindS k (b ++ x) = textS [13, 10] (b ++ x) (takeS (b ++ x) s5) := by unfold kindS bodyS; rw [if_pos hc, e6]
      by_cases hl : b.length < s5.pos + s5.size.toNat
      · have et : takeS b s5 = { s5 with pos := s5.pos + s5.size.toNat, st := 1 } := by unfold takeS; rw [if_pos hz, if_pos hl]
        have ek : kindS k b = { s5 with pos := s5.pos + s5.size.toNat, st := 1 } := by rw [hk, et, (fine_text _).stuck _ _ (by show (1 : Nat) ≠ 0; decide)]
        rw [ek] at hx ⊢
        have hx : (b ++ x).length ≤ s5.pos + s5.size.toNat := hx
        rw [hk6]
        by_cases hl2 : (b ++ x).length < s5.pos + s5.size.toNat
        · have : takeS (b ++ x) s5 = { s5 with pos := s5.pos + s5.size.toNat, st := 1 } := by unfold takeS; rw [if_pos hz, if_pos hl2]
          rw [this, (fine_text _).stuck _ _ (by show (1 : Nat) ≠ 0; decide)]
          exact ⟨rfl, rfl⟩
        · have : takeS (b ++ x) s5 = { s5 with pos := s5.pos + s5.size.toNat, body := ((b ++ x).drop s5.pos).take s5.size.toNat } := by unfold takeS; rw [if_pos hz, if_neg hl2]
          rw [this]
          have hn : (b ++ x)[s5.pos + s5.size.toNat]? = none := List.getElem?_eq_none (by omega)
          have ht : textP (b ++ x) [13, 10] (s5.pos + s5.size.toNat) = (s5.pos + s5.size.toNat, 1) := by rw [text_cons, hn]
          unfold textS
          dsimp only
          rw [if_pos hz, ht]
          exact ⟨rfl, rfl⟩
      · refine same ?_
        have et : takeS b s5 = { s5 with pos := s5.pos + s5.size.toNat, body := (b.drop s5.pos).take s5.size.toNat } := by unfold takeS; rw [if_pos hz, if_neg hl]
        rw [hk, et] at h ⊢
        exact tight_text [13, 10] b _ hz (by show s5.pos + s5.size.toNat ≤ _; omega) h
    · refine same ?_
      have et : takeS b s5 = s5 := fine_take.stuck b s5 hz
      rw [hk, et, (fine_text _).stuck _ _ hz] at h ⊢
      have T5 := (tight_line k).comp (fine_line k) (tight_text [13, 10]) (fine_text [13, 10])
      rw [e5] at h ⊢
      exact T5 b st0 rfl (Nat.zero_le _) h
  · refine same ?_
    have hk : kindS k b = textS [13, 10] b (lineS k b st0) := by unfold kindS bodyS; rw [if_neg hc]
    have T5 := (tight_line k).comp (fine_line k) (tight_text [13, 10]) (fine_text [13, 10])
    rw [hk] at h ⊢
    exact T5 b st0 rfl (Nat.zero_le _) h
theorem read_skip (b x : List UInt8) (h : (readP b).2.2 = 1) (hx : (b ++ x).length ≤ (readP b).2.1) : (readP (b ++ x)).2 = ((readP b).2.1, 1) := by
  rcases read_pick b with ⟨j, h1, h2, h3, h4, e⟩ | ⟨_, h2, _⟩
  · rw [e] at h hx ⊢
    obtain ⟨a, c⟩ := kind_skip j b x h hx
    have := read_first (b ++ x) j h1 h2 (fun i hi hi2 => by rw [kind_ext i b x (by rw [h3 i hi hi2]; decide)]; exact h3 i hi hi2) (by rw [a]; decide)
    rw [this, a, c]
  · omega

/-- A reader: what came, told up to gone, whole up to whole; where to look next; how many bytes are spoilt. -/
structure Rd where
  came : List UInt8
  gone : Nat
  whole : Nat
  look : Nat
  spoilt : Nat
/-- It stands where it should when A came and g bytes of it are told. -/
structure Inv (A : List UInt8) (g : Nat) (s : Rd) : Prop where
  bd : Bd A g
  whole : s.whole = s.gone + ((scan A).1 - g)
  fits : s.whole ≤ s.came.length
  spoilt : s.spoilt = (scan A).2
  held : s.came.drop s.gone = if (scan A).2 = 0 then A.drop g else (A.drop g).take ((scan A).1 - g)
  look : (scan A).2 = 0 → s.look = s.whole + (readP (A.drop (scan A).1)).2.1
/-- In the midst of Feed: whole up to kk. -/
structure Mid (A : List UInt8) (g : Nat) (s : Rd) (kk : Nat) : Prop where
  bd : Bd A g
  bk : Bd A kk
  le : g ≤ kk
  whole : s.whole = s.gone + (kk - g)
  fits : s.whole ≤ s.came.length
  spoilt : s.spoilt = 0
  held : s.came.drop s.gone = A.drop g
  look : s.look < s.came.length ∨ (s.look = s.whole + (readP (A.drop kk)).2.1 ∧ (readP (A.drop kk)).2.2 = 1)
theorem Mid.gone {A : List UInt8} {g kk : Nat} {s : Rd} (h : Mid A g s kk) : s.gone ≤ s.came.length := by have := h.whole; have := h.fits; omega
theorem Mid.len {A : List UInt8} {g kk : Nat} {s : Rd} (h : Mid A g s kk) : s.came.length = s.gone + (A.length - g) := by
  have := congrArg List.length h.held
  have := h.gone
  simp at *
  omega
theorem Mid.tail {A : List UInt8} {g kk : Nat} {s : Rd} (h : Mid A g s kk) : s.came.drop s.whole = A.drop kk := by
  have := h.le
  rw [h.whole, ← List.drop_drop, h.held, List.drop_drop]
  congr 1
  omega
/-- Feed begins. -/
theorem Inv.start {A : List UInt8} {g : Nat} {s : Rd} (h : Inv A g s) (h0 : s.spoilt = 0) (b : List UInt8) : Mid (A ++ b) g { s with came := s.came ++ b } (scan A).1 := by
  have hz : (scan A).2 = 0 := by rw [← h.spoilt]; exact h0
  have hle := scan_le A
  have hg := h.bd.le
  have hgone : s.gone ≤ s.came.length := by have := h.whole; have := h.fits; omega
  have hh := h.held
  rw [if_pos hz] at hh
  have hlen : s.came.length = s.gone + (A.length - g) := by
    have := congrArg List.length hh
    simp at this
    have := h.bd.1
    omega
  refine ⟨h.bd.app b, ?_, hg, h.whole, by have := h.fits; simp; omega, h0, ?_, ?_⟩
  · refine ⟨by simp; omega, ?_⟩
    rw [scan_app A b, if_pos hz, List.drop_append_of_le_length (by omega)]
  · show (s.came ++ b).drop s.gone = _
    rw [List.drop_append_of_le_length hgone, hh, List.drop_append_of_le_length h.bd.1]
  · show s.look < (s.came ++ b).length ∨ _
    by_cases hl : s.look < (s.came ++ b).length
    · exact .inl hl
    · right
      have e := h.look hz
      have hs := rest_short hz
      have hsk := read_skip (A.drop (scan A).1) b hs (by
        have := h.whole
        simp at hl ⊢
        omega)
      rw [List.drop_append_of_le_length (by omega), hsk]
      dsimp only
      exact ⟨e, rfl⟩
/-- A round of Feed finds a whole reply. -/
theorem Mid.good {A : List UInt8} {g kk : Nat} {s : Rd} (h : Mid A g s kk) (h0 : (readP (A.drop kk)).2.2 = 0) : Mid A g { s with whole := s.whole + (readP (A.drop kk)).2.1, look := s.whole + (readP (A.drop kk)).2.1 } (kk + (readP (A.drop kk)).2.1) := by
  have hg := read_good _ h0
  have hl := h.len
  have hw := h.whole
  have hle := h.le
  have hk := h.bk.1
  rw [List.length_drop] at hg
  refine ⟨h.bd, h.bk.kk h0, by omega, by show s.whole + _ = s.gone + _; omega, by show s.whole + _ ≤ s.came.length; omega, h.spoilt, h.held, ?_⟩
  show s.whole + _ < s.came.length ∨ _
  by_cases hlt : s.whole + (readP (A.drop kk)).2.1 < s.came.length
  · exact .inl hlt
  · right
    have e : A.drop (kk + (readP (A.drop kk)).2.1) = [] := List.drop_of_length_le (by omega)
    rw [e, read_nil]
    exact ⟨rfl, rfl⟩
theorem Mid.short {A : List UInt8} {g kk : Nat} {s : Rd} (h : Mid A g s kk) (h0 : (readP (A.drop kk)).2.2 = 1) : Mid A g { s with look := s.whole + (readP (A.drop kk)).2.1 } kk ∧ s.came.length ≤ s.whole + (readP (A.drop kk)).2.1 := by
  have hs := read_short _ h0
  have hl := h.len
  have hw := h.whole
  have hle := h.le
  have hk := h.bk.1
  rw [List.length_drop] at hs
  exact ⟨⟨h.bd, h.bk, h.le, h.whole, h.fits, h.spoilt, h.held, .inr ⟨rfl, h0⟩⟩, by omega⟩
theorem Mid.end {A : List UInt8} {g kk : Nat} {s : Rd} (h : Mid A g s kk) (hl : s.came.length ≤ s.look) : Inv A g s := by
  obtain ⟨e, h1⟩ : s.look = s.whole + (readP (A.drop kk)).2.1 ∧ (readP (A.drop kk)).2.2 = 1 := by
    rcases h.look with hlt | h2
    · omega
    · exact h2
  have es : scan A = (kk, 0) := by rw [h.bk.2, scan_short h1]; rfl
  refine ⟨h.bd, ?_, h.fits, ?_, ?_, fun _ => ?_⟩
  · rw [es]; exact h.whole
  · rw [es]; exact h.spoilt
  · rw [es, if_pos rfl]; exact h.held
  · rw [es]; exact e
theorem Mid.wrong {A : List UInt8} {g kk : Nat} {s : Rd} (h : Mid A g s kk) (h0 : (readP (A.drop kk)).2.2 = 2) (L : Nat) : Inv A g ⟨(s.came.drop s.gone).take (s.whole - s.gone), 0, s.whole - s.gone, L, (readP (A.drop kk)).2.1 + 1⟩ := by
  have es : scan A = (kk, (readP (A.drop kk)).2.1 + 1) := by rw [h.bk.2, scan_wrong h0]; rfl
  have hw := h.whole
  have hf := h.fits
  refine ⟨h.bd, ?_, ?_, ?_, ?_, fun hz => ?_⟩
  · rw [es]; show s.whole - s.gone = 0 + _; omega
  · show s.whole - s.gone ≤ ((s.came.drop s.gone).take _).length
    simp; omega
  · rw [es]
  · rw [es, if_neg (by simp)]
    show ((s.came.drop s.gone).take (s.whole - s.gone)).drop 0 = _
    rw [List.drop_zero, h.held]
    congr 1
    show s.whole - s.gone = kk - g
    omega
  · rw [es] at hz; simp at hz
theorem Inv.more {A : List UInt8} {g : Nat} {s : Rd} (h : Inv A g s) (h0 : s.spoilt ≠ 0) (b : List UInt8) : Inv (A ++ b) g s := by
  have hz : (scan A).2 ≠ 0 := by rw [← h.spoilt]; exact h0
  have hle := scan_le A
  have es : scan (A ++ b) = scan A := by rw [scan_app, if_neg hz]
  have hh := h.held
  rw [if_neg hz] at hh
  refine ⟨h.bd.app b, by rw [es]; exact h.whole, h.fits, by rw [es]; exact h.spoilt, ?_, fun h2 => absurd (by rw [es] at h2; exact h2) hz⟩
  rw [es, if_neg hz, hh, List.drop_append_of_le_length h.bd.1, List.take_append_of_le_length (by simp; omega)]
/-- What Held tells. -/
def heldN (A : List UInt8) (g : Nat) : Nat := if (scan A).2 = 0 then A.length - g else (scan A).1 - g + (scan A).2
theorem Inv.heldN {A : List UInt8} {g : Nat} {s : Rd} (h : Inv A g s) : s.came.length - s.gone + s.spoilt = heldN A g := by
  have hh := congrArg List.length h.held
  have hle := scan_le A
  have hg := h.bd.le
  have h1 := h.bd.1
  have hs := h.spoilt
  unfold Go.Proofs.YtaaohoombjlhfaaDoor.heldN
  by_cases hz : (scan A).2 = 0
  · rw [if_pos hz] at hh ⊢
    simp at hh
    omega
  · rw [if_neg hz] at hh ⊢
    simp at hh
    omega
/-- keep: what is told is let go, up to a place. -/
theorem Inv.keep {A : List UInt8} {g : Nat} {s : Rd} (h : Inv A g s) : Inv A g ⟨(s.came.drop s.gone).take (s.came.length - s.gone), 0, s.whole - s.gone, s.look - s.gone, s.spoilt⟩ := by
  have hw := h.whole
  have hf := h.fits
  refine ⟨h.bd, by show s.whole - s.gone = 0 + _; omega, ?_, h.spoilt, ?_, fun hz => ?_⟩
  · show s.whole - s.gone ≤ ((s.came.drop s.gone).take _).length
    simp; omega
  · show ((s.came.drop s.gone).take (s.came.length - s.gone)).drop 0 = _
    rw [List.drop_zero, List.take_of_length_le (by simp)]
    exact h.held
  · have := h.look hz
    show s.look - s.gone = s.whole - s.gone + _
    omega
/-- Next tells a reply. -/
theorem Inv.next {A : List UInt8} {g : Nat} {s : Rd} (h : Inv A g s) (hlt : g < (scan A).1) : (readP (A.drop g)).2.2 = 0 ∧ readP ((s.came.drop s.gone).take (s.whole - s.gone)) = readP (A.drop g) ∧ s.gone + (readP (A.drop g)).2.1 ≤ s.whole ∧ Inv A (g + (readP (A.drop g)).2.1) { s with gone := s.gone + (readP (A.drop g)).2.1 } := by
  obtain ⟨h0, h1, h2, h3⟩ := h.bd.next hlt
  have hw := h.whole
  have hh := h.held
  have e : (s.came.drop s.gone).take (s.whole - s.gone) = (A.drop g).take ((scan A).1 - g) := by
    rw [hh, show s.whole - s.gone = (scan A).1 - g by omega]
    split
    · rfl
    · rw [List.take_take]; congr 1; omega
  refine ⟨h0, by rw [e]; exact h2, by omega, h3, by show s.whole = s.gone + _ + _; omega, h.fits, h.spoilt, ?_, h.look⟩
  show s.came.drop (s.gone + _) = _
  rw [← List.drop_drop, hh]
  split
  · rw [List.drop_drop]
  · rw [List.drop_take, List.drop_drop]
    congr 1
    omega
theorem Inv.nil : Inv [] 0 ⟨[], 0, 0, 0, 0⟩ := by
  refine ⟨Bd.zero _, ?_, Nat.le_refl _, ?_, ?_, fun _ => ?_⟩
  · rw [scan_nil]; rfl
  · rw [scan_nil]
  · rw [scan_nil]; rfl
  · rw [scan_nil]; show 0 = 0 + (readP []).2.1; rw [read_nil]; rfl
end Go.Proofs.YtaaohoombjlhfaaDoor
