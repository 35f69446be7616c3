/-
  Plain facts for layer 10 (record): which records may be, and their bytes. Nothing of the program.
-/
import Derived.Test.YtjnjaojafimfeaaPlainNames
import Derived.Laws.BitsLemmas
namespace Go.Proofs.Ytjnjaojafimfeaa
open Go.RowKit

/-- A record without its body: its kind, its sixteen numbers by their places, its tube. -/
structure Rec where
  kind : Int
  num : Nat → Int
  tube : List UInt8

/-- The numbers that a kind has. -/
def fieldsL (k : Int) : List Nat :=
  if k = 1 then [0, 1] else if k = 2 then [3, 4, 5, 6, 7, 8, 9, 10, 11, 12, 13, 14, 15] else if k = 3 then [3, 4, 5, 8, 9, 10, 11, 12, 13, 14, 15] else if k = 4 then [2] else []
def withinB (n a b : Int) : Bool := decide (a ≤ n) && decide (n ≤ b)
/-- What a number may be at least. -/
def bndL (f : Nat) (st : Int) : Int :=
  match f with
  | 0 | 1 | 2 | 3 | 6 | 8 => 1
  | 9 => if st = 2 then 1 else 0
  | 10 => if st = 4 then 1 else 0
  | _ => 0
/-- What a number may be at most. -/
def bndH (f : Nat) (st : Int) : Int :=
  match f with
  | 0 | 2 | 3 | 7 => 1099511627776
  | 1 => 1099511627777
  | 4 | 5 | 6 => 4294967295
  | 8 => 4
  | 9 => if st = 2 then 1103806595071 else 0
  | 10 => if st = 4 then 4611686018427387903 else 0
  | _ => 4611686018427387903
/-- What is left of the numbers without some. -/
def clr (l : List Nat) (n : Nat → Int) : Nat → Int := fun f => if f ∈ l then 0 else n f
/-- Is every number zero? -/
def zeroB (n : Nat → Int) : Bool := (List.range 16).all fun f => n f == 0
def mayBeB (k : Int) (n : Nat → Int) : Bool := (fieldsL k).all (fun f => withinB (n f) (bndL f (n 8)) (bndH f (n 8))) && !(n 8 == 3)
def textB (k : Int) (t : List UInt8) (m : Nat) : Bool := if k = 2 then validB t && decide (m ≤ 65535) else (t == []) && (m == 0)
def checkE (r : Rec) (m : Nat) : Int :=
  if withinB r.kind 1 4 = false then 100
  else if (!zeroB (clr (fieldsL r.kind) r.num)) = true ∨ mayBeB r.kind r.num = false ∨ textB r.kind r.tube m = false then 101 else 0

theorem fields_lt {k : Int} {f : Nat} (h : f ∈ fieldsL k) : f < 16 := by
  unfold fieldsL at h
  split at h
  · simp at h; omega
  · split at h
    · simp at h; omega
    · split at h
      · simp at h; omega
      · split at h
        · simp at h; omega
        · simp at h
theorem fields_len (k : Int) : (fieldsL k).length ≤ 13 := by
  unfold fieldsL
  split
  · decide
  · split
    · decide
    · split
      · decide
      · split
        · decide
        · decide
theorem fields_nodup (k : Int) : (fieldsL k).Nodup := by
  unfold fieldsL
  split
  · decide
  · split
    · decide
    · split
      · decide
      · split
        · decide
        · decide
theorem bndL_ge (f : Nat) (st : Int) : 0 ≤ bndL f st := by
  unfold bndL
  split <;> first | decide | (split <;> decide)
theorem bndH_le (f : Nat) (st : Int) : bndH f st ≤ 4611686018427387903 := by
  unfold bndH
  split <;> first | decide | (split <;> decide)

/-! ### Right records -/

theorem check_ok {r : Rec} {m : Nat} (h : checkE r m = 0) : withinB r.kind 1 4 = true ∧ zeroB (clr (fieldsL r.kind) r.num) = true ∧ mayBeB r.kind r.num = true ∧ textB r.kind r.tube m = true := by
  unfold checkE at h
  split at h
  · omega
  · split at h
    · omega
    · rename_i h1 h2
      simp only [not_or, Bool.not_eq_true, Bool.not_eq_false] at h1 h2
      refine ⟨h1, ?_, h2.2.1, h2.2.2⟩
      have := h2.1
      simpa using this
theorem check_of {r : Rec} {m : Nat} (h1 : withinB r.kind 1 4 = true) (h2 : zeroB (clr (fieldsL r.kind) r.num) = true) (h3 : mayBeB r.kind r.num = true) (h4 : textB r.kind r.tube m = true) : checkE r m = 0 := by
  unfold checkE
  rw [h1, h2, h3, h4]
  simp
theorem zero_iff {n : Nat → Int} : zeroB n = true ↔ ∀ f, f < 16 → n f = 0 := by simp [zeroB]
theorem zero_congr {n m : Nat → Int} (h : ∀ f, f < 16 → n f = m f) : zeroB n = zeroB m := by
  rw [Bool.eq_iff_iff, zero_iff, zero_iff]
  exact ⟨fun a f hf => (h f hf).symm.trans (a f hf), fun a f hf => (h f hf).trans (a f hf)⟩
theorem clr_congr {l : List Nat} {n m : Nat → Int} (h : ∀ f, f < 16 → n f = m f) : ∀ f, f < 16 → clr l n f = clr l m f := fun f hf => by
  unfold clr
  split
  · rfl
  · exact h f hf
theorem may_congr {k : Int} {n m : Nat → Int} (h : ∀ f, f < 16 → n f = m f) : mayBeB k n = mayBeB k m := by
  unfold mayBeB
  rw [h 8 (by decide)]
  congr 1
  rw [Bool.eq_iff_iff, List.all_eq_true, List.all_eq_true]
  exact ⟨fun a f hf => by rw [← h f (fields_lt hf)]; exact a f hf, fun a f hf => by rw [h f (fields_lt hf)]; exact a f hf⟩
theorem check_congr {r s : Rec} {m : Nat} (hk : r.kind = s.kind) (ht : r.tube = s.tube) (h : ∀ f, f < 16 → r.num f = s.num f) : checkE r m = checkE s m := by
  unfold checkE
  rw [hk, ht, zero_congr (clr_congr h), may_congr h]
theorem within_iff {n a b : Int} : withinB n a b = true ↔ a ≤ n ∧ n ≤ b := by simp [withinB]
theorem num_bound {r : Rec} {m : Nat} (h : checkE r m = 0) {f : Nat} (hf : f ∈ fieldsL r.kind) : 0 ≤ r.num f ∧ r.num f ≤ 4611686018427387903 := by
  have h3 := (check_ok h).2.2.1
  unfold mayBeB at h3
  rw [Bool.and_eq_true, List.all_eq_true] at h3
  have := within_iff.1 (h3.1 f hf)
  have a := bndL_ge f (r.num 8)
  have b := bndH_le f (r.num 8)
  omega

/-! ### Numbers as bytes -/

def lowB (n : Int) (i : Nat) : UInt8 := UInt8.ofNat ((n / 2 ^ (8 * i)) % 256).toNat
def le8 (n : Int) : List UInt8 := (List.range 8).map (lowB n)
def val8 : List UInt8 → Nat
  | [] => 0
  | c :: r => c.toNat + 256 * val8 r
def num8 (l : List UInt8) : Int := IntKind.i64.wrap (val8 l : Int)
theorem le8_length (n : Int) : (le8 n).length = 8 := by simp [le8]
theorem low_nat (n : Int) (i : Nat) : ((lowB n i).toNat : Int) = (n / 2 ^ (8 * i)) % 256 := by
  unfold lowB
  have h := Int.emod_nonneg (n / 2 ^ (8 * i)) (show (256 : Int) ≠ 0 by decide)
  have h2 := Int.emod_lt_of_pos (n / 2 ^ (8 * i)) (show (0 : Int) < 256 by decide)
  rw [UInt8.toNat_ofNat']
  omega
theorem val_lt : ∀ (l : List UInt8), val8 l < 256 ^ l.length
  | [] => by simp [val8]
  | c :: r => by
    have ih := val_lt r
    have hc := c.toNat_lt
    simp only [val8, List.length_cons, Nat.pow_succ]
    omega
def leN : Nat → Nat → List UInt8
  | 0, _ => []
  | k + 1, m => UInt8.ofNat m :: leN k (m / 256)
theorem low_zero (m : Nat) : lowB (m : Int) 0 = UInt8.ofNat m := by
  apply UInt8.toNat_inj.1
  have := low_nat (m : Int) 0
  simp only [Nat.mul_zero, Int.pow_zero, Int.ediv_one] at this
  rw [UInt8.toNat_ofNat']
  omega
theorem low_succ (m i : Nat) : lowB (m : Int) (i + 1) = lowB ((m / 256 : Nat) : Int) i := by
  unfold lowB
  congr 3
  rw [Int.natCast_ediv, show ((256 : Nat) : Int) = 2 ^ 8 from rfl, Int.ediv_ediv_of_nonneg (by decide), ← Int.pow_add, Nat.mul_succ, Nat.add_comm]
theorem low_list : ∀ (k m : Nat), (List.range k).map (lowB (m : Int)) = leN k m
  | 0, _ => rfl
  | k + 1, m => by
    rw [List.range_succ_eq_map, List.map_cons, List.map_map, leN, low_zero]
    congr 1
    rw [← low_list k (m / 256)]
    apply List.map_congr_left
    intro i _
    exact low_succ m i
theorem le8_leN (m : Nat) : le8 (m : Int) = leN 8 m := low_list 8 m
theorem val_leN : ∀ (k m : Nat), m < 256 ^ k → val8 (leN k m) = m
  | 0, m, h => by simp [leN, val8] at h ⊢; omega
  | k + 1, m, h => by
    have ih := val_leN k (m / 256) (by rw [Nat.pow_succ] at h; omega)
    rw [leN, val8, ih, UInt8.toNat_ofNat']
    omega
theorem leN_val : ∀ (l : List UInt8), leN l.length (val8 l) = l
  | [] => rfl
  | c :: r => by
    have ih := leN_val r
    have hc := c.toNat_lt
    rw [List.length_cons, leN, val8, show (c.toNat + 256 * val8 r) / 256 = val8 r by omega, ih]
    congr 1
    apply UInt8.toNat_inj.1
    rw [UInt8.toNat_ofNat']
    omega
theorem val_le8 (n : Int) (h0 : 0 ≤ n) (h1 : n < 9223372036854775808) : num8 (le8 n) = n := by
  obtain ⟨m, rfl⟩ := Int.eq_ofNat_of_zero_le h0
  have hm : m < 256 ^ 8 := by
    have : (256 : Nat) ^ 8 = 18446744073709551616 := by decide
    omega
  unfold num8
  rw [le8_leN, val_leN 8 m hm, IntKind.wrap_i64]
  omega
theorem num8_val (l : List UInt8) (hl : l.length = 8) (h : 0 ≤ num8 l) : num8 l = (val8 l : Int) := by
  have hb := val_lt l
  rw [hl, show (256 : Nat) ^ 8 = 18446744073709551616 by decide] at hb
  unfold num8 at h ⊢
  rw [IntKind.wrap_i64] at h ⊢
  omega
theorem le8_num (l : List UInt8) (hl : l.length = 8) (h : 0 ≤ num8 l) : le8 (num8 l) = l := by
  rw [num8_val l hl h, le8_leN, ← hl, leN_val]

/-! ### Payloads -/

def tailL (r : Rec) (body : List UInt8) : List UInt8 := if r.kind = 2 then UInt8.ofNat r.tube.length :: (r.tube ++ body) else []
def numsL (n : Nat → Int) (l : List Nat) : List UInt8 := l.flatMap fun f => le8 (n f)
def putL (r : Rec) (body : List UInt8) : List UInt8 := UInt8.ofNat r.kind.toNat :: (numsL r.num (fieldsL r.kind) ++ tailL r body)
theorem nums_length (n : Nat → Int) : ∀ l : List Nat, (numsL n l).length = 8 * l.length
  | [] => rfl
  | f :: r => by
    have ih := nums_length n r
    simp only [numsL, List.flatMap_cons, List.length_append, le8_length, List.length_cons] at ih ⊢
    omega
def sizeL (r : Rec) (m : Nat) : Nat := 1 + 8 * (fieldsL r.kind).length + (if r.kind = 2 then 1 + r.tube.length + m else 0)
theorem put_length (r : Rec) (body : List UInt8) : (putL r body).length = sizeL r body.length := by
  unfold putL sizeL tailL
  rw [List.length_cons, List.length_append, nums_length]
  split <;> simp <;> omega

def upd (n : Nat → Int) (f : Nat) (x : Int) : Nat → Int := fun g => if g = f then x else n g
/-- Numbers off the beginning of bytes. -/
def takeN : List Nat → List UInt8 → (Nat → Int) → Option ((Nat → Int) × List UInt8)
  | [], b, n => some (n, b)
  | f :: fs, b, n => if b.length < 8 then none else takeN fs (b.drop 8) (upd n f (num8 (b.take 8)))
/-- A tube off the beginning of bytes. -/
def takeT : List UInt8 → Option (List UInt8 × List UInt8)
  | [] => none
  | c :: r => if r.length < c.toNat then none else some (r.take c.toNat, r.drop c.toNat)
def fin (r : Rec) (body : List UInt8) : Option (Rec × List UInt8) := if checkE r body.length = 0 then some (r, body) else none
def getK (k : Int) (n : Nat → Int) (rest : List UInt8) : Option (Rec × List UInt8) :=
  if k = 2 then (match takeT rest with
    | none => none
    | some (t, body) => fin ⟨k, n, t⟩ body) else fin ⟨k, n, []⟩ rest
def getP : List UInt8 → Option (Rec × List UInt8)
  | [] => none
  | c :: r => match takeN (fieldsL (c.toNat : Int)) r (fun _ => 0) with
    | none => none
    | some (n, rest) => getK (c.toNat : Int) n rest

theorem take_nums (m : Nat → Int) : ∀ (fs : List Nat) (n : Nat → Int) (rest : List UInt8), fs.Nodup → (∀ f, f ∈ fs → 0 ≤ m f ∧ m f ≤ 4611686018427387903) →
    ∃ n', takeN fs (numsL m fs ++ rest) n = some (n', rest) ∧ ∀ f, n' f = if f ∈ fs then m f else n f
  | [], n, rest, _, _ => ⟨n, rfl, fun f => by simp⟩
  | g :: fs, n, rest, hd, hb => by
    have e : numsL m (g :: fs) ++ rest = le8 (m g) ++ (numsL m fs ++ rest) := by simp [numsL]
    have hg := hb g (by simp)
    obtain ⟨n', h1, h2⟩ := take_nums m fs (upd n g (m g)) rest (List.nodup_cons.1 hd).2 (fun f hf => hb f (by simp [hf]))
    refine ⟨n', ?_, fun f => ?_⟩
    · rw [e, takeN, if_neg (by rw [List.length_append, le8_length]; omega)]
      rw [show (le8 (m g) ++ (numsL m fs ++ rest)).drop 8 = numsL m fs ++ rest from List.drop_left' (le8_length _), show (le8 (m g) ++ (numsL m fs ++ rest)).take 8 = le8 (m g) from List.take_left' (le8_length _), val_le8 _ hg.1 (by omega)]
      exact h1
    · rw [h2 f]
      by_cases h3 : f ∈ fs
      · simp [h3]
      · by_cases h4 : f = g
        · simp [h4, upd]
        · simp [h3, h4, upd]
theorem nums_take : ∀ (fs : List Nat) (b : List UInt8) (n n' : Nat → Int) (rest : List UInt8), fs.Nodup → takeN fs b n = some (n', rest) → (∀ f, f ∈ fs → 0 ≤ n' f) → b = numsL n' fs ++ rest ∧ ∀ f, ¬ f ∈ fs → n' f = n f
  | [], b, n, n', rest, _, h, _ => by
    simp only [takeN, Option.some.injEq, Prod.mk.injEq] at h
    obtain ⟨rfl, rfl⟩ := h
    exact ⟨rfl, fun _ _ => rfl⟩
  | g :: fs, b, n, n', rest, hd, h, hp => by
    rw [takeN] at h
    split at h
    · cases h
    · rename_i hlen
      obtain ⟨h1, h2⟩ := nums_take fs _ _ n' rest (List.nodup_cons.1 hd).2 h (fun f hf => hp f (by simp [hf]))
      have hg : n' g = num8 (b.take 8) := by rw [h2 g (List.nodup_cons.1 hd).1]; simp [upd]
      have hl : (b.take 8).length = 8 := by rw [List.length_take]; omega
      refine ⟨?_, fun f hf => ?_⟩
      · have e : le8 (n' g) = b.take 8 := by rw [hg]; exact le8_num _ hl (by rw [← hg]; exact hp g (by simp))
        rw [show numsL n' (g :: fs) ++ rest = le8 (n' g) ++ (numsL n' fs ++ rest) by simp [numsL], e, ← h1, List.take_append_drop]
      · simp only [List.mem_cons, not_or] at hf
        rw [h2 f hf.2]
        simp [upd, hf.1]

theorem kind_byte {k : Int} (h : withinB k 1 4 = true) : (((UInt8.ofNat k.toNat).toNat : Nat) : Int) = k := by
  have := within_iff.1 h
  rw [UInt8.toNat_ofNat']
  omega
theorem valid_len {t : List UInt8} (h : validB t = true) : 1 ≤ t.length ∧ t.length ≤ 200 := by
  unfold validB at h
  simp only [Bool.and_eq_true, decide_eq_true_eq] at h
  exact ⟨h.1.1.1, h.1.1.2⟩
theorem take_tail (t body : List UInt8) (h : t.length ≤ 200) : takeT (UInt8.ofNat t.length :: (t ++ body)) = some (t, body) := by
  have e : (UInt8.ofNat t.length).toNat = t.length := by rw [UInt8.toNat_ofNat']; omega
  simp only [takeT, e]
  rw [if_neg (by simp), List.take_left, List.drop_left]

/-- What may be is written and read back. -/
theorem put_get (r : Rec) (body : List UInt8) (h : checkE r body.length = 0) : ∃ x, getP (putL r body) = some (x, body) ∧ x.kind = r.kind ∧ x.tube = r.tube ∧ ∀ f, f < 16 → x.num f = r.num f := by
  obtain ⟨h1, h2, h3, h4⟩ := check_ok h
  obtain ⟨n', t1, t2⟩ := take_nums r.num (fieldsL r.kind) (fun _ => 0) (tailL r body) (fields_nodup _) (fun f hf => num_bound h hf)
  have hn : ∀ f, f < 16 → n' f = r.num f := fun f hf => by
    rw [t2 f]
    by_cases hm : f ∈ fieldsL r.kind
    · simp [hm]
    · have := zero_iff.1 h2 f hf
      simp only [clr, hm, if_false] at this ⊢
      omega
  unfold putL getP
  simp only [kind_byte h1, t1]
  unfold getK
  by_cases hk : r.kind = 2
  · have ht : textB r.kind r.tube body.length = true := h4
    rw [textB, if_pos hk, Bool.and_eq_true] at ht
    rw [if_pos hk, tailL, if_pos hk, take_tail _ _ (valid_len ht.1).2]
    refine ⟨⟨r.kind, n', r.tube⟩, ?_, rfl, rfl, hn⟩
    simp only [fin]
    rw [if_pos ((check_congr (r := ⟨r.kind, n', r.tube⟩) (s := r) rfl rfl hn).trans h)]
  · have ht : textB r.kind r.tube body.length = true := h4
    rw [textB, if_neg hk, Bool.and_eq_true, beq_iff_eq, beq_iff_eq] at ht
    have hb : body = [] := List.eq_nil_of_length_eq_zero ht.2
    subst hb
    rw [if_neg hk, tailL, if_neg hk]
    refine ⟨⟨r.kind, n', []⟩, ?_, rfl, ht.1.symm, hn⟩
    simp only [fin]
    rw [if_pos ((check_congr (r := ⟨r.kind, n', []⟩) (s := r) rfl ht.1.symm hn).trans h)]

theorem fin_some {r x : Rec} {body y : List UInt8} (h : fin r body = some (x, y)) : x = r ∧ y = body ∧ checkE r body.length = 0 := by
  unfold fin at h
  split at h
  · simp only [Option.some.injEq, Prod.mk.injEq] at h
    exact ⟨h.1.symm, h.2.symm, by assumption⟩
  · cases h
/-- What is read may be, and is written as just these bytes. -/
theorem get_put (b : List UInt8) (x : Rec) (body : List UInt8) (h : getP b = some (x, body)) : checkE x body.length = 0 ∧ putL x body = b := by
  match b, h with
  | c :: r, h =>
    simp only [getP] at h
    split at h
    · cases h
    · rename_i n rest hn
      have key : ∀ (t : List UInt8), checkE ⟨(c.toNat : Int), n, t⟩ body.length = 0 → r = numsL n (fieldsL (c.toNat : Int)) ++ rest := fun t ht =>
        (nums_take _ _ _ _ _ (fields_nodup _) hn (fun f hf => (num_bound ht hf).1)).1
      have hc : UInt8.ofNat ((c.toNat : Int)).toNat = c := by simp
      unfold getK at h
      split at h
      · rename_i hk
        split at h
        · cases h
        · rename_i t bd ht
          obtain ⟨rfl, rfl, hcheck⟩ := fin_some h
          refine ⟨hcheck, ?_⟩
          simp only [putL, tailL]
          rw [if_pos hk, hc, key _ hcheck]
          congr 2
          match rest, ht with
          | d :: q, ht =>
            simp only [takeT] at ht
            split at ht
            · cases ht
            · rename_i hlen
              simp only [Option.some.injEq, Prod.mk.injEq] at ht
              obtain ⟨rfl, rfl⟩ := ht
              rw [List.take_append_drop, List.length_take, Nat.min_eq_left (by omega)]
              simp
      · rename_i hk
        obtain ⟨rfl, rfl, hcheck⟩ := fin_some h
        refine ⟨hcheck, ?_⟩
        have ht := (check_ok hcheck).2.2.2
        rw [textB, if_neg hk, Bool.and_eq_true, beq_iff_eq, beq_iff_eq] at ht
        have hb : body = [] := List.eq_nil_of_length_eq_zero ht.2
        simp only [putL, tailL]
        rw [if_neg hk, hc, key _ hcheck, hb]
end Go.Proofs.Ytjnjaojafimfeaa
