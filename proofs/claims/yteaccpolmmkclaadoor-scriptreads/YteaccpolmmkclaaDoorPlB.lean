/-
  PlainDec, PlainWrite, PlainWords, PlainBackS.
-/
import Derived.Test.YteaccpolmmkclaaDoorPlA
import Derived.Lib.ItoaLen
namespace Go.Proofs.YteaccpolmmkclaaDoor
open Go.RowKit Go.Lib

/-- What Print writes. -/
def printL (n : Int) : List UInt8 := if n < 0 then [] else Lib.itoa n
theorem dec_small {u : Nat} (h : u < 10) : Lib.decDigits u = [UInt8.ofNat (48 + u)] := Lib.decDigits_one h
theorem dec_big {u : Nat} (h : ¬ u < 10) : Lib.decDigits u = Lib.decDigits (u / 10) ++ [UInt8.ofNat (48 + u % 10)] := by rw [Lib.decDigits, dif_neg h]
/-- The digits that are still to be written ahead of the last one of m. -/
def ahead (m : Nat) : List UInt8 := if m < 10 then [] else Lib.decDigits (m / 10)
theorem dec_ahead (m : Nat) : Lib.decDigits m = ahead m ++ [UInt8.ofNat (48 + m % 10)] := by
  unfold ahead
  split
  · rename_i h; rw [dec_small h, Nat.mod_eq_of_lt h]; rfl
  · rename_i h; rw [dec_big h]
theorem parse_append (most : Int) : ∀ (l1 l2 : List UInt8) (n : Int), parseFrom most (l1 ++ l2) n = (parseFrom most l1 n).bind (parseFrom most l2)
  | [], l2, n => by simp [parseFrom]
  | c :: r, l2, n => by
    rw [List.cons_append, parseFrom, parseFrom]
    by_cases h : 48 ≤ (c.toNat : Int) ∧ (c.toNat : Int) ≤ 57
    · rw [if_pos h, if_pos h]
      by_cases h2 : most < (c.toNat : Int) - 48 ∨ (most - ((c.toNat : Int) - 48)) / 10 < n
      · rw [if_pos h2, if_pos h2]; rfl
      · rw [if_neg h2, if_neg h2]; exact parse_append most r l2 _
    · rw [if_neg h, if_neg h]; rfl

theorem parse_one (most n : Int) (d : Nat) (hd : d < 10) : parseFrom most [UInt8.ofNat (48 + d)] n = if most < (d : Int) ∨ (most - (d : Int)) / 10 < n then none else some (n * 10 + (d : Int)) := by
  have e : ((UInt8.ofNat (48 + d)).toNat : Int) = 48 + (d : Int) := by
    rw [UInt8.toNat_ofNat']
    omega
  rw [parseFrom, e, if_pos (by omega), show (48 + (d : Int) - 48) = (d : Int) by omega, parseFrom]

theorem parse_dec (most : Int) (u : Nat) : parseFrom most (Lib.decDigits u) 0 = if (u : Int) ≤ most then some (u : Int) else none := by
  induction u using Nat.strongRecOn with
  | _ u ih =>
    by_cases h : u < 10
    · rw [dec_small h, parse_one most 0 u h]
      by_cases hm : (u : Int) ≤ most
      · rw [if_neg (by omega), if_pos hm]; congr 1; omega
      · rw [if_pos (by omega), if_neg hm]
    · rw [dec_big h, parse_append, ih (u / 10) (by omega)]
      by_cases hm : ((u / 10 : Nat) : Int) ≤ most
      · rw [if_pos hm, Option.bind_some, parse_one most _ (u % 10) (by omega)]
        by_cases hu : (u : Int) ≤ most
        · rw [if_neg (by omega), if_pos hu]; congr 1; omega
        · rw [if_pos (by omega), if_neg hu]
      · rw [if_neg hm, if_neg (by omega)]; rfl

theorem parse_zeros (most : Int) (hm : 0 ≤ most) : ∀ z : Nat, parseFrom most (List.replicate z 48) 0 = some 0
  | 0 => rfl
  | z + 1 => by
    rw [List.replicate_succ, parseFrom, if_pos (by decide), if_neg (by simp; omega)]
    exact parse_zeros most hm z

theorem parse_printed (most : Int) (z u : Nat) : parseFrom most (List.replicate z 48 ++ Lib.decDigits u) 0 = if (u : Int) ≤ most then some (u : Int) else none := by
  by_cases hm : 0 ≤ most
  · rw [parse_append, parse_zeros most hm z, Option.bind_some, parse_dec]
  · rw [if_neg (by omega)]
    cases z with
    | zero => rw [List.replicate_zero, List.nil_append, parse_dec, if_neg (by omega)]
    | succ z => rw [List.replicate_succ, List.cons_append, parseFrom, if_pos (by decide), if_pos (by simp; omega)]

theorem dec_ne (u : Nat) : Lib.decDigits u ≠ [] := by rw [dec_ahead]; simp

theorem parsed (most : Int) (z u : Nat) : parseV (List.replicate z 48 ++ Lib.decDigits u) most = (if (u : Int) ≤ most then (u : Int) else 0) ∧ parseB (List.replicate z 48 ++ Lib.decDigits u) most = decide ((u : Int) ≤ most) := by
  have hne : (List.replicate z 48 ++ Lib.decDigits u).isEmpty = false := by
    rw [Bool.eq_false_iff]; intro h
    rw [List.isEmpty_iff, List.append_eq_nil_iff] at h
    exact dec_ne u h.2
  unfold parseV parseB
  rw [hne, parse_printed]
  by_cases h : (u : Int) ≤ most
  · simp [h]
  · simp [h]
theorem print_dec {n : Int} (h : 0 ≤ n) : printL n = Lib.decDigits n.toNat := by
  unfold printL
  rw [if_neg (by omega)]
  obtain ⟨m, rfl⟩ := Int.eq_ofNat_of_zero_le h
  rw [Lib.itoa_nonneg]
  rfl
end Go.Proofs.YteaccpolmmkclaaDoor

namespace Go.Proofs.YteaccpolmmkclaaDoor
open Go.RowKit

def hexD (n : Nat) : UInt8 := if n < 10 then UInt8.ofNat (48 + n) else UInt8.ofNat (87 + n)
/-- The shortest form of a byte. -/
def shortP (c : UInt8) : Tx :=
  if c = 32 then [92, 115] else if c = 13 then [92, 114] else if c = 10 then [92, 110] else if c = 92 then [92, 92]
  else if c.toNat < 33 ∨ 126 < c.toNat then [92, 120, hexD (c.toNat / 16), hexD (c.toNat % 16)] else [c]
def numOkB (n : Int) (has : Bool) : Bool := decide (0 ≤ n) && decide (n ≤ maxWord) && (has || n == 0)
/-- Has a step a line? -/
def checkB (p : StepP) : Bool :=
  match formP p.kind with
  | none => false
  | some (c, d, b, k) => numOkB p.conn c && numOkB p.brk b && (d || p.data.isEmpty) && (k || p.keep.isEmpty || p.brk != 0) && p.keep.all (numOkB · true)
def spaced (l : List Tx) : Tx := l.flatMap (32 :: ·)
theorem spaced_append (a b : List Tx) : spaced (a ++ b) = spaced a ++ spaced b := by simp [spaced]
theorem spaced_cons (a : Tx) (b : List Tx) : spaced (a :: b) = 32 :: (a ++ spaced b) := by simp [spaced]
def dataW (l : List UInt8) : Tx := 61 :: l.flatMap shortP
/-- The words behind a step's first one. -/
def restW (p : StepP) : List Tx :=
  match formP p.kind with
  | none => []
  | some (c, d, _, _) => (if c then [printL p.conn] else []) ++ (if d then [dataW p.data] else []) ++ (if 0 < p.brk then [breakW, printL p.brk] else []) ++ (if p.keep = [] then [] else keepW :: p.keep.map printL)
def lineW (p : StepP) : Tx := wordP p.kind.toNat ++ spaced (restW p)
def lineS (p : StepP) : Tx := lineW p ++ [10]
def headS (j s q : Int) : Tx := stintW ++ spaced [printL j, printL s, printL q] ++ [10]
def writeP : Tx → List StepP → Except Int Tx
  | t, [] => .ok t
  | t, p :: r => if checkB p = false then .error 192 else if 1048576 < (t ++ lineS p).length then .error 193 else writeP (t ++ lineS p) r
def printP (j s q : Int) (l : List StepP) : Except Int Tx :=
  if configB j s q = false then .error 190 else if 4000 < l.length then .error 194 else writeP (headS j s q) l
end Go.Proofs.YteaccpolmmkclaaDoor

namespace Go.Proofs.YteaccpolmmkclaaDoor
open Go.RowKit

theorem pieces_word : ∀ (x r cur : List UInt8), (∀ c ∈ x, c.toNat ≠ 32) → pieces (x ++ r) cur = pieces r (cur ++ x)
  | [], r, cur, _ => by simp
  | c :: x, r, cur, h => by
    rw [List.cons_append, pieces, if_neg (h c (by simp)), pieces_word x r _ (fun d hd => h d (by simp [hd]))]
    simp
theorem pieces_spaced : ∀ (ws : List Tx) (x cur : Tx), (∀ c ∈ x, c.toNat ≠ 32) → (∀ y ∈ ws, ∀ c ∈ y, c.toNat ≠ 32) → pieces (x ++ spaced ws) cur = (cur ++ x) :: ws
  | [], x, cur, hx, _ => by
    rw [pieces_word x _ cur hx]
    rfl
  | y :: ws, x, cur, hx, h => by
    rw [pieces_word x _ cur hx, spaced_cons, pieces, if_pos (by decide), pieces_spaced ws y [] (h y (by simp)) (fun z hz => h z (by simp [hz]))]
    simp
theorem word_no32 (l : List UInt8) (h : wordB l = true) : ∀ c ∈ l, c.toNat ≠ 32 := by
  intro c hc h32
  have := word_bad l c hc (by simp [okc, h32])
  rw [this] at h; cases h
theorem split_spaced (x : Tx) (ws : List Tx) (h1 : wordB x = true) (h2 : ∀ y ∈ ws, wordB y = true) : splitL (x ++ spaced ws) = some (x :: ws) := by
  have hp : pieces (x ++ spaced ws) [] = x :: ws := by
    rw [pieces_spaced ws x [] (word_no32 x h1) (fun y hy => word_no32 y (h2 y hy))]
    simp
  unfold splitL
  rw [hp, if_pos]
  rw [List.all_eq_true]
  intro y hy
  rcases List.mem_cons.1 hy with rfl | hy
  · exact h1
  · exact h2 y hy
theorem pieces_ne (l cur : List UInt8) : pieces l cur ≠ [] := by
  cases l with
  | nil => simp [pieces]
  | cons c r =>
    rw [pieces]
    split
    · simp
    · exact pieces_ne r _
theorem pieces_back : ∀ (l cur : Tx), ∃ x ws, pieces l cur = x :: ws ∧ x ++ spaced ws = cur ++ l
  | [], cur => ⟨cur, [], rfl, by simp [spaced]⟩
  | c :: r, cur => by
    rw [pieces]
    by_cases h : c.toNat = 32
    · rw [if_pos h]
      obtain ⟨x, ws, h1, h2⟩ := pieces_back r []
      have hc : c = 32 := UInt8.toNat_inj.1 h
      refine ⟨cur, x :: ws, by rw [h1], ?_⟩
      rw [spaced_cons, h2, hc]
      simp
    · rw [if_neg h]
      obtain ⟨x, ws, h1, h2⟩ := pieces_back r (cur ++ [c])
      exact ⟨x, ws, h1, by rw [h2]; simp⟩
theorem split_back {l : Tx} {ws : List Tx} (h : splitL l = some ws) : ∃ x r, ws = x :: r ∧ x ++ spaced r = l ∧ wordB x = true ∧ ∀ y ∈ r, wordB y = true := by
  unfold splitL at h
  split at h
  · rename_i ha
    cases h
    obtain ⟨x, r, h1, h2⟩ := pieces_back l []
    rw [h1, List.all_eq_true] at ha
    exact ⟨x, r, h1, by simpa using h2, ha x (by simp), fun y hy => ha y (by simp [hy])⟩
  · cases h
theorem dec_okc (u : Nat) : ∀ c ∈ Lib.decDigits u, 48 ≤ c.toNat ∧ c.toNat ≤ 57 := by
  induction u using Nat.strongRecOn with
  | _ u ih =>
    intro c hc
    by_cases h : u < 10
    · rw [dec_small h] at hc
      obtain rfl := List.mem_singleton.1 hc
      rw [UInt8.toNat_ofNat']
      omega
    · rw [dec_big h] at hc
      rcases List.mem_append.1 hc with hc | hc
      · exact ih (u / 10) (by omega) c hc
      · obtain rfl := List.mem_singleton.1 hc
        rw [UInt8.toNat_ofNat']
        omega
theorem print_word {n : Int} (h : 0 ≤ n) : wordB (printL n) = true := by
  rw [print_dec h]
  unfold wordB
  rw [Bool.and_eq_true, List.all_eq_true]
  refine ⟨?_, fun c hc => ?_⟩
  · have := dec_ne n.toNat
    cases hd : Lib.decDigits n.toNat with
    | nil => exact absurd hd this
    | cons a b => rfl
  · have := dec_okc _ c hc
    simp [okc]
    omega
theorem print_parse {n : Int} (h0 : 0 ≤ n) (h1 : n ≤ maxWord) : parseB (printL n) maxWord = true ∧ parseV (printL n) maxWord = n := by
  have := parsed maxWord 0 n.toNat
  simp only [List.replicate_zero, List.nil_append] at this
  rw [print_dec h0, this.1, this.2]
  have e : ((n.toNat : Nat) : Int) = n := by omega
  rw [e, if_pos h1]
  exact ⟨by simpa using h1, rfl⟩
theorem numP_print {n : Int} (h0 : 0 ≤ n) (h1 : n ≤ maxWord) (r : List Tx) : numP (printL n :: r) = some (n, r) := by
  have := print_parse h0 h1
  rw [numP, if_pos this.1, this.2]
theorem numsP_print : ∀ (l : List Int), (∀ n ∈ l, 0 ≤ n ∧ n ≤ maxWord) → numsP (l.map printL) = some l
  | [], _ => rfl
  | n :: r, h => by
    have h1 := h n (by simp)
    have := print_parse h1.1 h1.2
    rw [List.map_cons, numsP, if_pos this.1, this.2, numsP_print r (fun m hm => h m (by simp [hm]))]
    rfl
/-- What is read of a number is no greater than the greatest, and not below 0; and is no longer when it is written. -/
theorem dec_len_step (u : Nat) : (Lib.decDigits u).length ≤ (Lib.decDigits (u / 10)).length + 1 := by
  by_cases h : u < 10
  · rw [dec_small h]; simp
  · rw [dec_big h]; simp
theorem dec_mono : ∀ (u v : Nat), u ≤ v → (Lib.decDigits u).length ≤ (Lib.decDigits v).length := by
  intro u
  induction u using Nat.strongRecOn with
  | _ u ih =>
    intro v h
    by_cases h1 : u < 10
    · rw [dec_small h1]
      have := dec_ne v
      cases hd : Lib.decDigits v with
      | nil => exact absurd hd this
      | cons a b => simp
    · rw [dec_big h1, dec_big (show ¬ v < 10 by omega)]
      have := ih (u / 10) (by omega) (v / 10) (by omega)
      simp
      omega
theorem parseFrom_len (most : Int) : ∀ (l : Tx) (n v : Int), 0 ≤ n → parseFrom most l n = some v → 0 ≤ v ∧ (v ≤ most ∨ l = [] ∧ v = n) ∧ (Lib.decDigits v.toNat).length ≤ (if n = 0 then 0 else (Lib.decDigits n.toNat).length) + l.length ∨ l = [] ∧ v = n
  | [], n, v, h0, h => by
    rw [parseFrom] at h
    cases h
    exact .inr ⟨rfl, rfl⟩
  | c :: r, n, v, h0, h => by
    rw [parseFrom] at h
    split at h
    · rename_i hc
      split at h
      · cases h
      · rename_i hm
        have hn : 0 ≤ n * 10 + ((c.toNat : Int) - 48) := by omega
        have step : (Lib.decDigits (n * 10 + ((c.toNat : Int) - 48)).toNat).length ≤ (if n = 0 then 0 else (Lib.decDigits n.toNat).length) + 1 := by
          by_cases hz : n = 0
          · subst hz
            rw [if_pos rfl, dec_small (by omega)]
            simp
          · rw [if_neg hz]
            have := dec_len_step (n * 10 + ((c.toNat : Int) - 48)).toNat
            rwa [show (n * 10 + ((c.toNat : Int) - 48)).toNat / 10 = n.toNat by omega] at this
        have big : n * 10 + ((c.toNat : Int) - 48) ≤ most := by omega
        rcases parseFrom_len most r _ v hn h with ⟨a, b, d⟩ | ⟨rfl, rfl⟩
        · refine .inl ⟨a, ?_, ?_⟩
          · rcases b with b | ⟨_, rfl⟩
            · exact .inl b
            · exact .inl big
          · simp only [List.length_cons]
            split at d <;> omega
        · refine .inl ⟨hn, .inl big, ?_⟩
          simp only [List.length_cons, List.length_nil]
          omega
    · cases h
theorem parsed_back {x : Tx} (h : parseB x maxWord = true) : 0 ≤ parseV x maxWord ∧ parseV x maxWord ≤ maxWord ∧ (printL (parseV x maxWord)).length ≤ x.length := by
  unfold parseB at h
  unfold parseV
  cases x with
  | nil => simp at h
  | cons c r =>
    simp only [List.isEmpty_cons, Bool.not_false, Bool.true_and] at h
    obtain ⟨v, hv⟩ := Option.isSome_iff_exists.1 h
    rw [hv]
    simp only [List.isEmpty_cons, Option.getD_some]
    rcases parseFrom_len maxWord (c :: r) 0 v (by omega) hv with ⟨a, b, d⟩ | ⟨h, _⟩
    · refine ⟨a, ?_, ?_⟩
      · rcases b with b | ⟨h, _⟩
        · exact b
        · cases h
      · simp only [Bool.false_eq_true, if_false]
        rw [print_dec a]
        simpa using d
    · cases h
theorem hex_back : ∀ n : Nat, n < 16 → hexP (hexD n) = some (UInt8.ofNat n) := by decide
theorem short_read : ∀ c : UInt8, ∀ r : Tx, byteP (shortP c ++ r) = some (c, (shortP c).length) := by
  intro c r
  unfold shortP
  split
  · subst_vars; rfl
  split
  · subst_vars; rfl
  split
  · subst_vars; rfl
  split
  · subst_vars; rfl
  split
  · have h := UInt8.toNat_lt c
    show ((hexP (hexD (c.toNat / 16))).bind fun a => (hexP (hexD (c.toNat % 16))).map fun b => (UInt8.ofNat (16 * a.toNat + b.toNat), 4)) = _
    rw [hex_back _ (by omega), hex_back _ (by omega)]
    simp only [Option.bind_some, Option.map_some, Option.some.injEq, Prod.mk.injEq]
    refine ⟨?_, rfl⟩
    apply UInt8.toNat_inj.1
    simp only [UInt8.toNat_ofNat']
    omega
  · rename_i h _
    simp [byteP, h]
theorem short_ne (c : UInt8) : shortP c ≠ [] := by
  unfold shortP
  repeat' split
  all_goals simp
theorem dataR_short : ∀ (l : List UInt8) (f : Nat), (l.flatMap shortP).length ≤ f → dataR f (l.flatMap shortP) = some l
  | [], f, _ => by cases f <;> simp [dataR]
  | c :: r, f, h => by
    rw [List.flatMap_cons] at h ⊢
    have h1 := short_ne c
    have hl : 0 < (shortP c).length := List.length_pos_iff.2 h1
    rw [List.length_append] at h
    cases f with
    | zero => omega
    | succ f =>
      rw [dataR, if_neg (by simp [h1]), short_read]
      simp only [List.drop_left]
      rw [dataR_short r f (by omega)]
      rfl
theorem dataP_data (l : List UInt8) : dataP (dataW l) = some l := by
  unfold dataP dataW
  exact dataR_short l _ (Nat.le_refl _)
theorem hexD_ok : ∀ n : Nat, n < 16 → okc (hexD n) = true := by decide
theorem short_okc (c : UInt8) : ∀ d ∈ shortP c, okc d = true := by
  unfold shortP
  have h := UInt8.toNat_lt c
  split
  · decide
  split
  · decide
  split
  · decide
  split
  · decide
  split
  · intro d hd
    simp only [List.mem_cons, List.not_mem_nil, or_false] at hd
    rcases hd with rfl | rfl | rfl | rfl
    · decide
    · decide
    · exact hexD_ok _ (by omega)
    · exact hexD_ok _ (by omega)
  · intro d hd
    simp only [List.mem_cons, List.not_mem_nil, or_false] at hd
    subst hd
    simp [okc]
    omega
theorem data_word (l : List UInt8) : wordB (dataW l) = true := by
  unfold wordB dataW
  rw [Bool.and_eq_true, List.all_eq_true]
  refine ⟨rfl, fun c hc => ?_⟩
  rcases List.mem_cons.1 hc with rfl | hc
  · decide
  · obtain ⟨d, _, hd⟩ := List.mem_flatMap.1 hc
    exact short_okc d c hd
theorem short_least {l : Tx} {c : UInt8} {n : Nat} (hw : ∀ d ∈ l, okc d = true) (h : byteP l = some (c, n)) : (shortP c).length ≤ n := by
  have h4 : (shortP c).length ≤ 4 := by
    unfold shortP
    repeat' split
    all_goals simp
  unfold byteP at h
  split at h
  · cases h
  · rename_i b r
    split at h
    · rename_i hb
      cases h
      have this := hw c (by simp)
      simp [okc] at this
      unfold shortP
      rw [if_neg (by intro e; rw [e] at this; revert this; decide), if_neg (by intro e; rw [e] at this; revert this; decide), if_neg (by intro e; rw [e] at this; revert this; decide), if_neg hb, if_neg (by omega)]
      simp
    · split at h
      · cases h
      · split at h
        · split at h
          · rename_i x y t
            cases hx : hexP x with
            | none => rw [hx] at h; cases h
            | some a =>
              rw [hx] at h
              simp only [Option.bind_some] at h
              cases hy : hexP y with
              | none => rw [hy] at h; cases h
              | some b => rw [hy] at h; cases h; exact h4
          · cases h
        · rename_i d s _
          cases hl : letterP d with
          | none => rw [hl] at h; cases h
          | some v =>
            rw [hl] at h
            cases h
            unfold letterP at hl
            split at hl
            · cases hl; decide
            · split at hl
              · cases hl; decide
              · split at hl
                · cases hl; decide
                · split at hl
                  · cases hl; decide
                  · cases hl
theorem dataR_len : ∀ (f : Nat) (l : Tx) (x : List UInt8), (∀ d ∈ l, okc d = true) → dataR f l = some x → (x.flatMap shortP).length ≤ l.length
  | 0, l, x, _, h => by
    rw [dataR] at h
    split at h
    · cases h; simp
    · cases h
  | f + 1, l, x, hw, h => by
    rw [dataR] at h
    split at h
    · cases h; simp
    · cases hb : byteP l with
      | none => rw [hb] at h; cases h
      | some p =>
        obtain ⟨c, n⟩ := p
        rw [hb] at h
        simp only [] at h
        cases hr : dataR f (l.drop n) with
        | none => rw [hr] at h; cases h
        | some y =>
          rw [hr] at h
          cases h
          have h1 := short_least hw hb
          have h2 := dataR_len f (l.drop n) y (fun d hd => hw d (List.mem_of_mem_drop hd)) hr
          have h3 := byteP_pos hb
          simp only [List.flatMap_cons, List.length_append, List.length_drop] at *
          omega
theorem dataP_len {x : Tx} {d : List UInt8} (hw : wordB x = true) (h : dataP x = some d) : (dataW d).length ≤ x.length := by
  unfold dataP at h
  split at h
  · rename_i l
    have : ∀ d ∈ l, okc d = true := by
      unfold wordB at hw
      rw [Bool.and_eq_true, List.all_eq_true] at hw
      exact fun d hd => hw.2 d (by simp [hd])
    have := dataR_len _ l d this h
    simp only [dataW, List.length_cons]
    omega
  · cases h
end Go.Proofs.YteaccpolmmkclaaDoor

namespace Go.Proofs.YteaccpolmmkclaaDoor
open Go.RowKit

theorem form_cases {k : Int} {c d b ke : Bool} (h : formP k = some (c, d, b, ke)) : (k = 1 ∧ c = true ∧ d = false ∧ b = false ∧ ke = false) ∨ (k = 2 ∧ c = true ∧ d = true ∧ b = true ∧ ke = false) ∨ (k = 3 ∧ c = true ∧ d = false ∧ b = true ∧ ke = false) ∨ (k = 4 ∧ c = false ∧ d = false ∧ b = true ∧ ke = false) ∨ (k = 5 ∧ c = false ∧ d = false ∧ b = false ∧ ke = false) ∨ (k = 6 ∧ c = false ∧ d = false ∧ b = false ∧ ke = true) ∨ (k = 7 ∧ c = false ∧ d = false ∧ b = true ∧ ke = false) := by
  unfold formP at h
  repeat' split at h
  all_goals (try cases h)
  all_goals simp_all
theorem hasP_print {n : Int} (k : Tx) (hk : ∃ c r, k = c :: r ∧ 97 ≤ c.toNat) (h : 0 ≤ n) (r : List Tx) : hasP k (printL n :: r) = false := by
  obtain ⟨c, t, rfl, hc⟩ := hk
  unfold hasP
  rw [beq_eq_false_iff_ne, print_dec h]
  intro e
  have := dec_okc n.toNat c (by rw [e]; simp)
  omega
def tailW (brk : Int) (keep : List Int) : List Tx := (if 0 < brk then [breakW, printL brk] else []) ++ (if keep = [] then [] else keepW :: keep.map printL)
theorem keepP_tail (keep : List Int) (h : ∀ n ∈ keep, 0 ≤ n ∧ n ≤ maxWord) : keepP (if keep = [] then [] else keepW :: keep.map printL) = some keep := by
  cases keep with
  | nil => rfl
  | cons n r =>
    rw [if_neg (by simp)]
    unfold keepP
    rw [if_pos (by simp [hasP]), List.tail_cons, numsP_print _ h]
theorem tailP_tail (breaks keeps : Bool) (brk : Int) (keep : List Int) (h0 : 0 ≤ brk) (h1 : brk ≤ maxWord) (hb : breaks = true ∨ brk = 0) (hk : keeps = true ∨ keep = [] ∨ brk ≠ 0) (h : ∀ n ∈ keep, 0 ≤ n ∧ n ≤ maxWord) :
    tailP breaks keeps (tailW brk keep) = some (brk, keep) := by
  unfold tailP tailW
  by_cases hz : 0 < brk
  · have hbt : breaks = true := by rcases hb with h | h; exact h; omega
    rw [if_pos hz, hbt]
    have e : hasP breakW ([breakW, printL brk] ++ if keep = [] then [] else keepW :: keep.map printL) = true := by simp [hasP]
    rw [e]
    simp only [Bool.and_self, if_true, List.cons_append, List.tail_cons, List.nil_append]
    rw [numP_print h0 h1]
    simp only []
    rw [if_neg (by omega), keepP_tail keep h]
    rfl
  · obtain rfl : brk = 0 := by omega
    rw [if_neg hz, List.nil_append]
    have e : hasP breakW (if keep = [] then [] else keepW :: keep.map printL) = false := by
      split
      · rfl
      · simp [hasP, keepW, breakW]
    rw [e]
    simp only [Bool.and_false, Bool.false_eq_true, if_false]
    rcases hk with hk | hk | hk
    · rw [if_pos hk, keepP_tail keep h]
      rfl
    · subst hk
      simp only [if_true]
      split <;> rfl
    · exact absurd rfl hk
theorem restW_eq {p : StepP} {c d b k : Bool} (h : formP p.kind = some (c, d, b, k)) : restW p = (if c then [printL p.conn] else []) ++ ((if d then [dataW p.data] else []) ++ tailW p.brk p.keep) := by
  unfold restW tailW
  rw [h]
  simp only [List.append_assoc]
theorem numOk_iff {n : Int} {has : Bool} (h : numOkB n has = true) : 0 ≤ n ∧ n ≤ maxWord ∧ (has = true ∨ n = 0) := by
  unfold numOkB at h
  simp only [Bool.and_eq_true, decide_eq_true_eq, Bool.or_eq_true, beq_iff_eq] at h
  exact ⟨h.1.1, h.1.2, h.2⟩
theorem check_parts {p : StepP} (h : checkB p = true) : ∃ c d b k, formP p.kind = some (c, d, b, k) ∧ (0 ≤ p.conn ∧ p.conn ≤ maxWord ∧ (c = true ∨ p.conn = 0)) ∧ (0 ≤ p.brk ∧ p.brk ≤ maxWord ∧ (b = true ∨ p.brk = 0)) ∧ (d = true ∨ p.data = []) ∧ (k = true ∨ p.keep = [] ∨ p.brk ≠ 0) ∧ ∀ n ∈ p.keep, 0 ≤ n ∧ n ≤ maxWord := by
  unfold checkB at h
  split at h
  · cases h
  · rename_i c d b k hf
    simp only [Bool.and_eq_true, Bool.or_eq_true, List.all_eq_true, List.isEmpty_iff, bne_iff_ne] at h
    obtain ⟨⟨⟨⟨h1, h2⟩, h3⟩, h4⟩, h5⟩ := h
    refine ⟨c, d, b, k, hf, numOk_iff h1, numOk_iff h2, h3, ?_, fun n hn => ?_⟩
    · rcases h4 with (h4 | h4) | h4
      · exact .inl h4
      · exact .inr (.inl h4)
      · exact .inr (.inr h4)
    · have := numOk_iff (h5 n hn)
      exact ⟨this.1, this.2.1⟩
/-- The words that are written of a step are read as that step. -/
theorem step_back {p : StepP} (h : checkB p = true) : stepK p.kind (restW p) = some p := by
  obtain ⟨c, d, b, k, hf, ⟨c0, c1, c2⟩, ⟨b0, b1, b2⟩, hd, hk, hn⟩ := check_parts h
  unfold stepK
  rw [hf, restW_eq hf]
  simp only []
  unfold stepP
  have e1 : (if c then numP ((if c then [printL p.conn] else []) ++ ((if d then [dataW p.data] else []) ++ tailW p.brk p.keep)) else some (0, (if c then [printL p.conn] else []) ++ ((if d then [dataW p.data] else []) ++ tailW p.brk p.keep))) = some (p.conn, (if d then [dataW p.data] else []) ++ tailW p.brk p.keep) := by
    cases c with
    | true => simp only [if_true, List.cons_append, List.nil_append]; exact numP_print c0 c1 _
    | false =>
      rcases c2 with h | h
      · cases h
      · simp only [Bool.false_eq_true, if_false, List.nil_append]; rw [h]
  rw [e1]
  simp only [Option.bind_some]
  have ht := tailP_tail b k p.brk p.keep b0 b1 b2 hk hn
  cases d with
  | true =>
    simp only [if_true, List.cons_append, List.nil_append, dataP_data, Option.map_some, Option.bind_some]
    rw [ht]
    rfl
  | false =>
    rcases hd with h | h
    · cases h
    · simp only [Bool.false_eq_true, if_false, List.nil_append, Option.bind_some]
      rw [ht, ← h]
      rfl
theorem kind_word {k : Int} {f : Bool × Bool × Bool × Bool} (h : formP k = some f) : kindP (wordP k.toNat) = k ∧ k ≠ 0 ∧ wordB (wordP k.toNat) = true := by
  obtain ⟨c, d, b, ke⟩ := f
  rcases form_cases h with ⟨rfl, _⟩ | ⟨rfl, _⟩ | ⟨rfl, _⟩ | ⟨rfl, _⟩ | ⟨rfl, _⟩ | ⟨rfl, _⟩ | ⟨rfl, _⟩ <;> decide
theorem restW_words {p : StepP} (h : checkB p = true) : ∀ y ∈ restW p, wordB y = true := by
  obtain ⟨c, d, b, k, hf, ⟨c0, c1, c2⟩, ⟨b0, b1, b2⟩, hd, hk, hn⟩ := check_parts h
  rw [restW_eq hf]
  unfold tailW
  intro y hy
  simp only [List.mem_append] at hy
  rcases hy with hy | hy | hy | hy
  · split at hy
    · obtain rfl := List.mem_singleton.1 hy
      exact print_word c0
    · cases hy
  · split at hy
    · obtain rfl := List.mem_singleton.1 hy
      exact data_word _
    · cases hy
  · split at hy
    · simp only [List.mem_cons, List.not_mem_nil, or_false] at hy
      rcases hy with rfl | rfl
      · decide
      · exact print_word b0
    · cases hy
  · split at hy
    · cases hy
    · rcases List.mem_cons.1 hy with rfl | hy
      · decide
      · obtain ⟨n, hn', rfl⟩ := List.mem_map.1 hy
        exact print_word (hn n hn').1
theorem okc_line {x : Tx} (h : wordB x = true) : ∀ c ∈ x, c ≠ 10 := by
  intro c hc e
  have := word_bad x c hc (by rw [e]; decide)
  rw [this] at h
  cases h
theorem spaced_line {x : Tx} {r : List Tx} (h : wordB x = true) (hr : ∀ y ∈ r, wordB y = true) : ∀ c ∈ x ++ spaced r, c ≠ 10 := by
  intro c hc
  rcases List.mem_append.1 hc with hc | hc
  · exact okc_line h c hc
  · unfold spaced at hc
    obtain ⟨y, hy, hc⟩ := List.mem_flatMap.1 hc
    rcases List.mem_cons.1 hc with rfl | hc
    · decide
    · exact okc_line (hr y hy) c hc
theorem word_first {k : Int} {f : Bool × Bool × Bool × Bool} (h : formP k = some f) : ∃ c r, wordP k.toNat = c :: r ∧ c ≠ 35 := by
  obtain ⟨c, d, b, ke⟩ := f
  rcases form_cases h with ⟨rfl, _⟩ | ⟨rfl, _⟩ | ⟨rfl, _⟩ | ⟨rfl, _⟩ | ⟨rfl, _⟩ | ⟨rfl, _⟩ | ⟨rfl, _⟩ <;> exact ⟨_, _, rfl, by decide⟩
/-- A step's line is read as the step. -/
theorem line_back (st : Rd) (hd : st.hd = true) (hl : st.steps.length < 4000) {p : StepP} (h : checkB p = true) : lineP st (lineW p) = .ok { st with steps := st.steps ++ [p] } := by
  obtain ⟨c, d, b, k, hf, _⟩ := check_parts h
  obtain ⟨w1, w2, w3⟩ := kind_word hf
  have hs := split_spaced (wordP p.kind.toNat) (restW p) w3 (restW_words h)
  obtain ⟨c, r, e, hc⟩ := word_first hf
  unfold lineW
  rw [e, List.cons_append] at hs ⊢
  unfold lineP
  simp only []
  rw [if_neg hc, hs]
  simp only []
  rw [hd, ← e]
  simp only [if_true]
  unfold rstepP
  rw [w1, if_neg w2, if_neg (by omega), step_back h]
theorem lines_step {p : StepP} (h : checkB p = true) (t : Tx) : linesP (lineS p ++ t) = lineW p :: linesP t := by
  obtain ⟨c, d, b, k, hf, _⟩ := check_parts h
  unfold lineS
  rw [List.append_assoc]
  exact linesP_cut (lineW p) t (spaced_line (kind_word hf).2.2 (restW_words h))
theorem config_parts {j s q : Int} (h : configB j s q = true) : (0 ≤ j ∧ j ≤ maxWord) ∧ (0 ≤ s ∧ s ≤ maxWord) ∧ (0 ≤ q ∧ q ≤ maxWord) := by
  unfold configB withinB at h
  simp only [Bool.and_eq_true, decide_eq_true_eq] at h
  unfold maxWord
  omega
theorem head_words {j s q : Int} (h : configB j s q = true) : ∀ y ∈ [printL j, printL s, printL q], wordB y = true := by
  obtain ⟨a, b, c⟩ := config_parts h
  intro y hy
  simp only [List.mem_cons, List.not_mem_nil, or_false] at hy
  rcases hy with rfl | rfl | rfl
  · exact print_word a.1
  · exact print_word b.1
  · exact print_word c.1
theorem head_back {j s q : Int} (h : configB j s q = true) : lineP rd0 (stintW ++ spaced [printL j, printL s, printL q]) = .ok ⟨true, j, s, q, []⟩ := by
  have hs := split_spaced stintW _ (by decide) (head_words h)
  obtain ⟨a, b, c⟩ := config_parts h
  rw [show stintW ++ spaced [printL j, printL s, printL q] = 115 :: ([116, 105, 110, 116] ++ spaced [printL j, printL s, printL q]) from rfl] at hs ⊢
  unfold lineP
  simp only []
  rw [if_neg (by decide), hs]
  simp only [rd0, Bool.false_eq_true, if_false]
  unfold headP
  rw [if_neg (by decide), numP_print a.1 a.2]
  simp only []
  rw [numP_print b.1 b.2]
  simp only []
  rw [numP_print c.1 c.2]
  simp only []
  rw [if_neg (by decide), if_pos h]
theorem lines_head {j s q : Int} (h : configB j s q = true) (t : Tx) : linesP (headS j s q ++ t) = (stintW ++ spaced [printL j, printL s, printL q]) :: linesP t := by
  unfold headS
  rw [List.append_assoc]
  exact linesP_cut _ t (spaced_line (by decide) (head_words h))
theorem writeP_flat : ∀ (l : List StepP) (t u : Tx), writeP t l = .ok u → (∀ p ∈ l, checkB p = true) ∧ u = t ++ l.flatMap lineS ∧ (l ≠ [] → u.length ≤ 1048576)
  | [], t, u, h => by
    rw [writeP] at h
    cases h
    exact ⟨fun _ h => (by cases h), (by simp), fun h => absurd rfl h⟩
  | p :: r, t, u, h => by
    rw [writeP] at h
    split at h
    · cases h
    · rename_i hc
      split at h
      · cases h
      · rename_i hm
        obtain ⟨h1, h2, h3⟩ := writeP_flat r _ u h
        refine ⟨fun x hx => ?_, by rw [h2]; simp, fun _ => ?_⟩
        · rcases List.mem_cons.1 hx with rfl | hx
          · simpa using hc
          · exact h1 x hx
        · cases r with
          | nil =>
            rw [writeP] at h
            cases h
            omega
          | cons a b => exact h3 (by simp)
theorem run_steps : ∀ (l : List StepP) (st : Rd) (n : Int), st.hd = true → st.steps.length + l.length ≤ 4000 → (∀ p ∈ l, checkB p = true) → runP st n (linesP (l.flatMap lineS)) = .ok { st with steps := st.steps ++ l }
  | [], st, n, _, _, _ => by simp [linesP, linesA, runP]
  | p :: r, st, n, hd, hl, h => by
    rw [List.flatMap_cons, lines_step (h p (by simp)), runP, line_back st hd (by simp at hl; omega) (h p (by simp))]
    simp only []
    rw [run_steps r _ _ (by exact hd) (by simp at hl ⊢; omega) (fun x hx => h x (by simp [hx]))]
    simp
theorem dec_len (u : Nat) (k : Nat) (h : u < 10 ^ (k + 1)) : (Lib.decDigits u).length ≤ k + 1 := by
  induction k generalizing u with
  | zero => rw [dec_small (by simpa using h)]; simp
  | succ k ih =>
    have := ih (u / 10) (by rw [Nat.pow_succ] at h; omega)
    have := dec_len_step u
    omega
theorem head_short {j s q : Int} (h : configB j s q = true) : (headS j s q).length ≤ 100 := by
  have h' := h
  unfold configB withinB at h
  simp only [Bool.and_eq_true, decide_eq_true_eq] at h
  have a := dec_len j.toNat 8 (by omega)
  have b := dec_len s.toNat 8 (by omega)
  have c := dec_len q.toNat 8 (by omega)
  unfold headS
  rw [print_dec (by omega), print_dec (by omega), print_dec (by omega)]
  simp [spaced, stintW]
  omega
/-- WHAT IS WRITTEN IS READ BACK. -/
theorem print_back {j s q : Int} {l : List StepP} {u : Tx} (h : printP j s q l = .ok u) : u.length ≤ 1048576 ∧ parseP u = (⟨true, j, s, q, l⟩, 0, 0) := by
  unfold printP at h
  split at h
  · cases h
  · rename_i hc
    have hc : configB j s q = true := by simpa using hc
    split at h
    · cases h
    · rename_i hm
      obtain ⟨h1, h2, h3⟩ := writeP_flat l _ u h
      have hu : u.length ≤ 1048576 := by
        cases l with
        | nil => have := head_short hc; rw [h2]; simp; omega
        | cons a b => exact h3 (by simp)
      refine ⟨hu, ?_⟩
      unfold parseP
      rw [if_neg (by omega), h2, lines_head hc, runP, head_back hc]
      simp only []
      rw [run_steps l _ _ rfl (by simp; omega) h1]
      simp
end Go.Proofs.YteaccpolmmkclaaDoor
