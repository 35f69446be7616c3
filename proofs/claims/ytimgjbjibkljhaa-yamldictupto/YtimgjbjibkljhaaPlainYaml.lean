/-
  Lists and dictionaries as text: no memory.
-/
import Derived.Test.YtimgjbjibkljhaaProg
namespace Go.Proofs.Ytimgjbjibkljhaa

abbrev Txt := List UInt8
def inT (c : UInt8) : Bool := decide (33 ≤ c.toNat) && decide (c.toNat ≤ 126)
def textB (l : Txt) : Bool := decide (1 ≤ l.length) && decide (l.length ≤ 4096) && l.all inT
def inK (c : UInt8) : Bool := (decide (97 ≤ c.toNat) && decide (c.toNat ≤ 122)) || (decide (48 ≤ c.toNat) && decide (c.toNat ≤ 57)) || decide (c.toNat = 45)
def keyB (l : Txt) : Bool := decide (1 ≤ l.length) && decide (l.length ≤ 64) && l.all inK
def headL : Txt := [45, 45, 45, 10]
def lineL (t : Txt) : Txt := [45, 32] ++ t ++ [10]
def linesL (ts : List Txt) : Txt := ts.flatMap lineL
def listL (ts : List Txt) : Txt := headL ++ linesL ts
abbrev Pr := Txt × Txt
def pairL (p : Pr) : Txt := p.1 ++ [58, 32] ++ p.2 ++ [10]
def pairsL (ps : List Pr) : Txt := ps.flatMap pairL
def dictL (ps : List Pr) : Txt := headL ++ pairsL ps
/-- What is wrong with a pair behind those that are done. -/
def checkE (done : List Pr) (p : Pr) : Int := if keyB p.1 = false ∨ p.1 ∈ done.map Prod.fst then 90 else if textB p.2 = true then 0 else 91
def goE (done : List Pr) : List Pr → Int
  | [] => 0
  | p :: r => if checkE done p = 0 then goE (done ++ [p]) r else checkE done p
def dictE (ps : List Pr) : Int := if 256 < ps.length then 1 else goE [] ps
def okF (done : List Pr) : List Pr → Prop
  | [] => True
  | p :: r => checkE done p = 0 ∧ okF (done ++ [p]) r

theorem goE_ok : ∀ (r done : List Pr), goE done r = 0 ↔ okF done r
  | [], _ => by simp [goE, okF]
  | p :: r, done => by
    by_cases h : checkE done p = 0
    · simp [goE, okF, h, goE_ok r]
    · simp [goE, okF, h]
theorem okF_append : ∀ (a b done : List Pr), okF done (a ++ b) ↔ okF done a ∧ okF (done ++ a) b
  | [], b, done => by simp [okF]
  | p :: a, b, done => by simp [okF, okF_append a b, and_assoc]
theorem goE_append : ∀ (a b done : List Pr), okF done a → goE done (a ++ b) = goE (done ++ a) b
  | [], b, done, _ => by simp
  | p :: a, b, done, h => by
    have := goE_append a b (done ++ [p]) h.2
    simp [goE, h.1, this]
theorem goE_stop (done : List Pr) (p : Pr) (r : List Pr) (h : checkE done p ≠ 0) : goE done (p :: r) = checkE done p := by simp [goE, h]

theorem inT_ne {c : UInt8} (h : inT c = true) : c ≠ 10 := by
  rintro rfl; revert h; decide
theorem textB_no {t : Txt} (h : textB t = true) : (10 : UInt8) ∉ t := by
  intro hm
  simp only [textB, Bool.and_eq_true, List.all_eq_true] at h
  exact inT_ne (h.2 _ hm) rfl
theorem inK_no {c : UInt8} (h : inK c = true) : c ≠ 10 ∧ c ≠ 58 ∧ c ≠ 32 := by
  refine ⟨?_, ?_, ?_⟩ <;> (rintro rfl; revert h; decide)
theorem keyB_all {t : Txt} (h : keyB t = true) : ∀ c ∈ t, c ≠ 10 ∧ c ≠ 58 ∧ c ≠ 32 := by
  intro c hm
  simp only [keyB, Bool.and_eq_true, List.all_eq_true] at h
  exact inK_no (h.2 _ hm)
theorem keyB_pos {t : Txt} (h : keyB t = true) : 1 ≤ t.length := by
  simp only [keyB, Bool.and_eq_true, decide_eq_true_eq] at h
  exact h.1.1
theorem checkE_ok {done : List Pr} {p : Pr} (h : checkE done p = 0) : keyB p.1 = true ∧ p.1 ∉ done.map Prod.fst ∧ textB p.2 = true := by
  unfold checkE at h
  split at h
  · cases h
  · rename_i h1
    split at h
    · rename_i h2
      simp only [not_or, Bool.not_eq_false] at h1
      exact ⟨h1.1, h1.2, h2⟩
    · cases h

/-- Parted at the first byte of a kind. -/
theorem part_one {c : UInt8} : ∀ {t u x y : Txt}, c ∉ t → c ∉ u → t ++ c :: x = u ++ c :: y → t = u ∧ x = y
  | [], [], _, _, _, _, h => ⟨rfl, by simpa using h⟩
  | [], d :: u, _, _, _, hu, h => by simp at h; exact absurd h.1 (fun e => hu (by simp [e]))
  | d :: t, [], _, _, ht, _, h => by simp at h; exact absurd h.1.symm (fun e => ht (by simp [e]))
  | d :: t, e :: u, x, y, ht, hu, h => by
    simp only [List.cons_append, List.cons.injEq] at h
    obtain ⟨rfl, h⟩ := h
    obtain ⟨rfl, rfl⟩ := part_one (fun hm => ht (by simp [hm])) (fun hm => hu (by simp [hm])) h
    exact ⟨rfl, rfl⟩
theorem line_form (t x : Txt) : lineL t ++ x = ([45, 32] ++ t) ++ 10 :: x := by simp [lineL]
theorem pair_form (p : Pr) (x : Txt) : pairL p ++ x = (p.1 ++ [58, 32] ++ p.2) ++ 10 :: x := by simp [pairL]
theorem dash_no {t : Txt} (h : textB t = true) : (10 : UInt8) ∉ [45, 32] ++ t := by
  have := textB_no h
  simp [this]
theorem pair_no {p : Pr} (h1 : keyB p.1 = true) (h2 : textB p.2 = true) : (10 : UInt8) ∉ p.1 ++ [58, 32] ++ p.2 := by
  have a := textB_no h2
  have b : (10 : UInt8) ∉ p.1 := fun hm => (keyB_all h1 _ hm).1 rfl
  simp [a, b]
theorem line_inj {t u x y : Txt} (ht : textB t = true) (hu : textB u = true) (h : lineL t ++ x = lineL u ++ y) : t = u ∧ x = y := by
  rw [line_form, line_form] at h
  obtain ⟨a, b⟩ := part_one (dash_no ht) (dash_no hu) h
  exact ⟨by simpa using a, b⟩
theorem pair_inj {p q : Pr} {x y : Txt} (hp1 : keyB p.1 = true) (hp2 : textB p.2 = true) (hq1 : keyB q.1 = true) (hq2 : textB q.2 = true) (h : pairL p ++ x = pairL q ++ y) : p = q ∧ x = y := by
  rw [pair_form, pair_form] at h
  obtain ⟨a, b⟩ := part_one (pair_no hp1 hp2) (pair_no hq1 hq2) h
  rw [List.append_assoc, List.append_assoc] at a
  obtain ⟨c, d⟩ := part_one (c := 58) (fun hm => (keyB_all hp1 _ hm).2.1 rfl) (fun hm => (keyB_all hq1 _ hm).2.1 rfl) a
  exact ⟨Prod.ext c (by simpa using d), b⟩

theorem lines_append (a b : List Txt) : linesL (a ++ b) = linesL a ++ linesL b := by simp [linesL]
theorem pairs_append (a b : List Pr) : pairsL (a ++ b) = pairsL a ++ pairsL b := by simp [pairsL]
theorem line_len (t : Txt) : (lineL t).length = t.length + 3 := by simp [lineL]
theorem pair_len (p : Pr) : (pairL p).length = p.1.length + p.2.length + 3 := by simp [pairL]; omega

theorem lines_strip : ∀ (ts us : List Txt) (rest : Txt), (∀ t ∈ ts, textB t = true) → (∀ t ∈ us, textB t = true) → linesL ts ++ rest = linesL us → ∃ r, us = ts ++ r ∧ rest = linesL r
  | [], us, rest, _, _, h => ⟨us, rfl, by simpa [linesL] using h⟩
  | t :: ts, [], rest, _, _, h => by
    have := congrArg List.length h
    simp [linesL, line_len] at this
  | t :: ts, u :: us, rest, h1, h2, h => by
    have h' : lineL t ++ (linesL ts ++ rest) = lineL u ++ linesL us := by simpa [linesL] using h
    obtain ⟨rfl, h3⟩ := line_inj (h1 t (by simp)) (h2 u (by simp)) h'
    obtain ⟨r, rfl, hr⟩ := lines_strip ts us rest (fun x hx => h1 x (by simp [hx])) (fun x hx => h2 x (by simp [hx])) h3
    exact ⟨r, rfl, hr⟩
/-- What is left begins with no line of the form: so there is no list. -/
theorem no_list {b : Txt} {ts : List Txt} {rest : Txt} (hts : ∀ t ∈ ts, textB t = true) (hb : b = listL ts ++ rest) (hne : rest ≠ []) (hno : ∀ t y, textB t = true → rest ≠ lineL t ++ y) : ∀ us : List Txt, (∀ t ∈ us, textB t = true) → b ≠ listL us := by
  intro us hus he
  rw [hb] at he
  unfold listL at he
  rw [List.append_assoc] at he
  obtain ⟨r, rfl, hr⟩ := lines_strip ts us rest hts hus (List.append_cancel_left he)
  cases r with
  | nil => exact hne hr
  | cons u r => exact hno u (linesL r) (hus u (by simp)) hr
theorem no_head {b : Txt} (h : ¬ headL <+: b) : ∀ us : List Txt, b ≠ listL us := fun us he => h ⟨linesL us, he.symm⟩
theorem no_headD {b : Txt} (h : ¬ headL <+: b) : ∀ us : List Pr, b ≠ dictL us := fun us he => h ⟨pairsL us, he.symm⟩

theorem pairs_strip : ∀ (ts us done : List Pr) (rest : Txt), okF done ts → okF done us → pairsL ts ++ rest = pairsL us → ∃ r, us = ts ++ r ∧ rest = pairsL r
  | [], us, _, rest, _, _, h => ⟨us, rfl, by simpa [pairsL] using h⟩
  | t :: ts, [], _, rest, _, _, h => by
    have := congrArg List.length h
    simp [pairsL, pair_len] at this
  | t :: ts, u :: us, done, rest, h1, h2, h => by
    have h' : pairL t ++ (pairsL ts ++ rest) = pairL u ++ pairsL us := by simpa [pairsL] using h
    have a := checkE_ok h1.1
    have c := checkE_ok h2.1
    obtain ⟨rfl, h3⟩ := pair_inj a.1 a.2.2 c.1 c.2.2 h'
    obtain ⟨r, rfl, hr⟩ := pairs_strip ts us (done ++ [t]) rest h1.2 h2.2 h3
    exact ⟨r, rfl, hr⟩
theorem no_dict {b : Txt} {ts : List Pr} {rest : Txt} (hts : okF [] ts) (hb : b = dictL ts ++ rest) (hne : rest ≠ []) (hno : ts.length < 256 → ∀ p y, checkE ts p = 0 → rest ≠ pairL p ++ y) : ∀ us : List Pr, us.length ≤ 256 → okF [] us → b ≠ dictL us := by
  intro us hlen hus he
  rw [hb] at he
  unfold dictL at he
  rw [List.append_assoc] at he
  obtain ⟨r, rfl, hr⟩ := pairs_strip ts us [] rest hts hus (List.append_cancel_left he)
  cases r with
  | nil => exact hne hr
  | cons u r =>
    have := ((okF_append ts (u :: r) []).1 hus).2
    refine hno (by simp at hlen; omega) u (pairsL r) (by simpa using this.1) hr

/-- A line with its end, parted. -/
theorem line_at {rest : Txt} {k : Nat} (hk : rest[k]? = some 10) (hno : (10 : UInt8) ∉ rest.take k) {t y : Txt} (ht : textB t = true) (h : rest = lineL t ++ y) : rest.take k = [45, 32] ++ t := by
  have hr : rest = rest.take k ++ 10 :: rest.drop (k + 1) := by
    obtain ⟨hlt, hx⟩ := List.getElem?_eq_some_iff.1 hk
    rw [← hx, List.getElem_cons_drop, List.take_append_drop]
  rw [line_form] at h
  have := hr.symm.trans h
  exact (part_one hno (dash_no ht) this).1
theorem pair_at {rest : Txt} {k : Nat} (hk : rest[k]? = some 10) (hno : (10 : UInt8) ∉ rest.take k) {p : Pr} {y : Txt} (h1 : keyB p.1 = true) (h2 : textB p.2 = true) (h : rest = pairL p ++ y) : rest.take k = p.1 ++ [58, 32] ++ p.2 := by
  have hr : rest = rest.take k ++ 10 :: rest.drop (k + 1) := by
    obtain ⟨hlt, hx⟩ := List.getElem?_eq_some_iff.1 hk
    rw [← hx, List.getElem_cons_drop, List.take_append_drop]
  rw [pair_form] at h
  have := hr.symm.trans h
  exact (part_one hno (pair_no h1 h2) this).1
theorem no_end {rest : Txt} (hno : (10 : UInt8) ∉ rest) (t y : Txt) : rest ≠ lineL t ++ y := fun h => hno (by rw [h, line_form]; simp)
theorem no_endD {rest : Txt} (hno : (10 : UInt8) ∉ rest) (p : Pr) (y : Txt) : rest ≠ pairL p ++ y := fun h => hno (by rw [h, pair_form]; simp)
theorem line_take {rest : Txt} {k : Nat} (hk : rest[k]? = some 10) {t : Txt} (h : rest.take k = [45, 32] ++ t) : rest = lineL t ++ rest.drop (k + 1) := by
  obtain ⟨hlt, hx⟩ := List.getElem?_eq_some_iff.1 hk
  rw [line_form, ← h, ← hx, List.getElem_cons_drop, List.take_append_drop]
theorem pair_take {rest : Txt} {k : Nat} (hk : rest[k]? = some 10) {p : Pr} (h : rest.take k = p.1 ++ [58, 32] ++ p.2) : rest = pairL p ++ rest.drop (k + 1) := by
  obtain ⟨hlt, hx⟩ := List.getElem?_eq_some_iff.1 hk
  rw [pair_form, ← h, ← hx, List.getElem_cons_drop, List.take_append_drop]

/-- No bytes but the first line alone are both. -/
theorem not_both {ts : List Txt} {ps : List Pr} (h1 : ∀ t ∈ ts, textB t = true) (h2 : okF [] ps) (h : listL ts = dictL ps) : ts = [] ∧ ps = [] := by
  have h : linesL ts = pairsL ps := List.append_cancel_left h
  cases ts with
  | nil =>
    cases ps with
    | nil => exact ⟨rfl, rfl⟩
    | cons p ps =>
      have := congrArg List.length h
      simp [linesL, pairsL, pair_len] at this
      omega
  | cons t ts =>
    cases ps with
    | nil =>
      have := congrArg List.length h
      simp [linesL, pairsL, line_len] at this
    | cons p ps =>
      have h' : lineL t ++ linesL ts = pairL p ++ pairsL ps := by simpa [linesL, pairsL] using h
      have c := checkE_ok h2.1
      rw [line_form, pair_form] at h'
      obtain ⟨a, _⟩ := part_one (dash_no (h1 t (by simp))) (pair_no c.1 c.2.2) h'
      have hpos := keyB_pos c.1
      have hall := keyB_all c.1
      obtain ⟨k, v⟩ := p
      cases k with
      | nil => simp at hpos
      | cons x k =>
        cases k with
        | nil => simp at a
        | cons y k =>
          simp at a
          exact absurd a.2.1.symm (hall y (by simp)).2.2
end Go.Proofs.Ytimgjbjibkljhaa
