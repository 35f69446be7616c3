/-
  The sum of bytes (CRC-32), in plain numbers: what it makes of bytes that differ in at most 32 bits that follow one another.
-/
import Derived.Test.YtibcfbajjnpbfaaProg
namespace Go.Proofs.Ytibcfbajjnpbfaa.Crc
def P : Nat := 0xEDB88320
def S (x : Nat) : Nat := (x / 2) ^^^ (if x % 2 = 1 then P else 0)
def It : Nat → Nat → Nat
  | 0, x => x
  | n + 1, x => It n (S x)
theorem it_add (m n x : Nat) : It (m + n) x = It n (It m x) := by
  induction m generalizing x with
  | zero => simp [It]
  | succ m ih => rw [Nat.succ_add]; simp only [It]; exact ih _
theorem xor_half (a b : Nat) : (a ^^^ b) / 2 = (a / 2) ^^^ (b / 2) := by
  apply Nat.eq_of_testBit_eq; intro i; simp [Nat.testBit_div_two]
theorem xor_odd (a b : Nat) : (a ^^^ b) % 2 = (a % 2 + b % 2) % 2 := by
  have h : ((a ^^^ b).testBit 0) = (a.testBit 0 ^^ b.testBit 0) := Nat.testBit_xor ..
  simp only [Nat.testBit_zero] at h
  have hc := Nat.mod_two_eq_zero_or_one (a ^^^ b)
  rcases Nat.mod_two_eq_zero_or_one a with h1 | h1 <;> rcases Nat.mod_two_eq_zero_or_one b with h2 | h2 <;> rw [h1, h2] at h ⊢ <;> rcases hc with h3 | h3 <;> rw [h3] at h ⊢ <;> revert h <;> decide
theorem S_xor (a b : Nat) : S (a ^^^ b) = S a ^^^ S b := by
  unfold S
  rw [xor_half, xor_odd]
  rcases Nat.mod_two_eq_zero_or_one a with h | h <;> rcases Nat.mod_two_eq_zero_or_one b with g | g <;> simp [h, g]
  · apply Nat.eq_of_testBit_eq; intro i; simp
  · apply Nat.eq_of_testBit_eq; intro i; simp [Bool.xor_comm]
  · apply Nat.eq_of_testBit_eq; intro i; simp [Bool.xor_comm, Bool.xor_left_comm]
theorem it_xor (n a b : Nat) : It n (a ^^^ b) = It n a ^^^ It n b := by
  induction n generalizing a b with
  | zero => rfl
  | succ n ih => simp only [It]; rw [S_xor, ih]
theorem S_even (a : Nat) : S (2 * a) = a := by unfold S; simp
theorem it_shift (n a : Nat) : It n (2 ^ n * a) = a := by
  induction n generalizing a with
  | zero => simp [It]
  | succ n ih => simp only [It]; rw [Nat.pow_succ, Nat.mul_comm (2^n) 2, Nat.mul_assoc, S_even, ih]
theorem S_lt (x : Nat) (h : x < 4294967296) : S x < 4294967296 := by
  unfold S
  refine Nat.xor_lt_two_pow (n := 32) (by omega) ?_
  split <;> simp [P]
theorem it_lt (n x : Nat) (h : x < 4294967296) : It n x < 4294967296 := by
  induction n generalizing x with
  | zero => exact h
  | succ n ih => exact ih _ (S_lt x h)
theorem S_ne (x : Nat) (h : x < 4294967296) (h0 : x ≠ 0) : S x ≠ 0 := by
  unfold S
  intro e
  have hb := congrArg (Nat.testBit · 31) e
  split at e
  · simp only [Nat.testBit_xor, Nat.zero_testBit] at hb
    have h1 : (x / 2).testBit 31 = false := Nat.testBit_lt_two_pow (by omega)
    have h2 : P.testBit 31 = true := by decide
    rw [h1] at hb
    split at hb
    · rw [h2] at hb; simp at hb
    · contradiction
  · simp at e; omega
theorem it_ne (n x : Nat) (h : x < 4294967296) (h0 : x ≠ 0) : It n x ≠ 0 := by
  induction n generalizing x with
  | zero => exact h0
  | succ n ih => exact ih _ (S_lt x h) (S_ne x h h0)
/-- The number that bytes say, the lowest first. -/
def N : List UInt8 → Nat
  | [] => 0
  | c :: l => c.toNat + 256 * N l
def B (r : Nat) (c : UInt8) : Nat := It 8 (r ^^^ c.toNat)
def reg (r : Nat) (l : List UInt8) : Nat := l.foldl B r
theorem low_or (c M : Nat) (h : c < 256) : c + 256 * M = c ^^^ 256 * M := by
  apply Nat.eq_of_testBit_eq
  intro i
  rw [Nat.testBit_xor, Nat.add_comm, show (256 : Nat) = 2 ^ 8 from rfl, Nat.testBit_two_pow_mul_add _ h, Nat.testBit_two_pow_mul]
  by_cases hi : i < 8
  · have h8 : ¬ 8 ≤ i := by omega
    simp [hi, h8]
  · simp only [hi, if_false]
    rw [Nat.testBit_lt_two_pow (Nat.lt_of_lt_of_le h (by rw [show (256 : Nat) = 2 ^ 8 from rfl]; exact Nat.pow_le_pow_right (by decide) (by omega)))]
    simp; omega
theorem reg_eq (r : Nat) (l : List UInt8) : reg r l = It (8 * l.length) (r ^^^ N l) := by
  induction l generalizing r with
  | nil => simp [reg, N, It]
  | cons c l ih =>
    show reg (B r c) l = _
    rw [ih, N, low_or _ _ c.toNat_lt, ← Nat.xor_assoc, List.length_cons, show 8 * (l.length + 1) = 8 + 8 * l.length by omega, it_add]
    congr 1
    rw [it_xor 8 _ (256 * N l), show (256 : Nat) = 2 ^ 8 from rfl, it_shift]
    rfl
theorem split_at (k x : Nat) : x = 2 ^ k * (x / 2 ^ k) ^^^ x % 2 ^ k := by
  apply Nat.eq_of_testBit_eq
  intro i
  rw [Nat.testBit_xor, Nat.testBit_two_pow_mul, Nat.testBit_mod_two_pow, Nat.testBit_div_two_pow]
  by_cases hi : i < k
  · have h8 : ¬ k ≤ i := by omega
    simp [hi, h8]
  · have h8 : k ≤ i := by omega
    have : i - k + k = i := by omega
    simp [hi, h8, this]
def T : List Nat := [0x00000000, 0x1DB71064, 0x3B6E20C8, 0x26D930AC, 0x76DC4190, 0x6B6B51F4, 0x4DB26158, 0x5005713C, 0xEDB88320, 0xF00F9344, 0xD6D6A3E8, 0xCB61B38C, 0x9B64C2B0, 0x86D3D2D4, 0xA00AE278, 0xBDBDF21C]
theorem it4_small : ∀ h : Fin 16, It 4 h.val = T.getD h.val 0 := by decide
theorem it4 (x : Nat) : It 4 x = (x / 16) ^^^ T.getD (x % 16) 0 := by
  have e := it_xor 4 (2 ^ 4 * (x / 2 ^ 4)) (x % 2 ^ 4)
  rw [← split_at 4 x, it_shift] at e
  rw [e]
  have := it4_small ⟨x % 16, by omega⟩
  rw [← this]
theorem T_lt : ∀ h : Fin 16, T.getD h.val 0 < 4294967296 := by decide
theorem B_eq (r : Nat) (c : UInt8) : B r c = It 4 (It 4 (r ^^^ c.toNat)) := it_add 4 4 _
theorem B_lt (r : Nat) (c : UInt8) (h : r < 4294967296) : B r c < 4294967296 :=
  it_lt 8 _ (Nat.xor_lt_two_pow (n := 32) (by omega) (by have := c.toNat_lt; omega))
theorem reg_lt (r : Nat) (l : List UInt8) (h : r < 4294967296) : reg r l < 4294967296 := by
  induction l generalizing r with
  | nil => exact h
  | cons c l ih => exact ih _ (B_lt r c h)
theorem reg_app (r : Nat) (l m : List UInt8) : reg r (l ++ m) = reg (reg r l) m := List.foldl_append
/-- A number in so many bytes, the lowest first. -/
def le : Nat → Nat → List UInt8
  | 0, _ => []
  | k + 1, n => UInt8.ofNat n :: le k (n / 256)
theorem le_length (k n : Nat) : (le k n).length = k := by
  induction k generalizing n with
  | zero => rfl
  | succ k ih => simp [le, ih]
theorem N_le (k n : Nat) : N (le k n) = n % 256 ^ k := by
  induction k generalizing n with
  | zero => simp [le, N]; omega
  | succ k ih =>
    rw [le, N, ih, Nat.pow_succ, Nat.mul_comm (256 ^ k) 256, Nat.mod_mul, UInt8.toNat_ofNat']
theorem N_lt (l : List UInt8) : N l < 256 ^ l.length := by
  induction l with
  | nil => simp [N]
  | cons c l ih => rw [N, List.length_cons, Nat.pow_succ]; have := c.toNat_lt; omega
theorem le_N (l : List UInt8) : le l.length (N l) = l := by
  induction l with
  | nil => rfl
  | cons c l ih =>
    rw [List.length_cons, le, N]
    have h1 : (c.toNat + 256 * N l) / 256 = N l := by have := c.toNat_lt; omega
    have h2 : UInt8.ofNat (c.toNat + 256 * N l) = c := by
      apply UInt8.toNat_inj.1
      rw [UInt8.toNat_ofNat']; have := c.toNat_lt; omega
    rw [h1, h2, ih]
theorem N_app (l m : List UInt8) : N (l ++ m) = N l + 256 ^ l.length * N m := by
  induction l with
  | nil => simp [N]
  | cons c l ih => rw [List.cons_append, N, ih, N, List.length_cons, Nat.pow_succ, Nat.mul_add, Nat.add_assoc, Nat.mul_comm (256 ^ l.length) 256, Nat.mul_assoc]
theorem le_inj (k : Nat) (l m : List UInt8) (hl : l.length = k) (hm : m.length = k) (h : N l = N m) : l = m := by
  rw [← le_N l, ← le_N m, h, hl, hm]
def sum (l : List UInt8) : Nat := reg 4294967295 l ^^^ 4294967295
theorem sum_lt (l : List UInt8) : sum l < 4294967296 := Nat.xor_lt_two_pow (n := 32) (reg_lt _ l (by decide)) (by decide)
/-- Numbers of bytes that differ in at most 32 bits that follow one another have unlike sums. -/
theorem sum_differs (l m : List UInt8) (f D : Nat) (hl : l.length = m.length) (hN : N m = N l ^^^ 2 ^ f * D) (hD0 : D ≠ 0) (hD : D < 4294967296) (hf : f ≤ 8 * l.length) : sum m ≠ sum l := by
  intro h
  unfold sum at h
  have h1 : reg 4294967295 m = reg 4294967295 l := by
    have := congrArg (· ^^^ 4294967295) h
    simpa [Nat.xor_assoc] using this
  rw [reg_eq, reg_eq, hN, ← hl, ← Nat.xor_assoc, it_xor] at h1
  have h2 : It (8 * l.length) (2 ^ f * D) = 0 := by
    have := congrArg (It (8 * l.length) (4294967295 ^^^ N l) ^^^ ·) h1
    simpa [← Nat.xor_assoc] using this
  rw [show 8 * l.length = f + (8 * l.length - f) by omega, it_add, it_shift] at h2
  exact it_ne _ D hD hD0 h2
theorem add_xor (k c M : Nat) (h : c < 2 ^ k) : c + 2 ^ k * M = c ^^^ 2 ^ k * M := by
  apply Nat.eq_of_testBit_eq
  intro i
  rw [Nat.testBit_xor, Nat.add_comm, Nat.testBit_two_pow_mul_add _ h, Nat.testBit_two_pow_mul]
  by_cases hi : i < k
  · have h8 : ¬ k ≤ i := by omega
    simp [hi, h8]
  · simp only [hi, if_false]
    rw [Nat.testBit_lt_two_pow (Nat.lt_of_lt_of_le h (Nat.pow_le_pow_right (by decide) (by omega)))]
    simp; omega
theorem mul_xor (k a b : Nat) : 2 ^ k * (a ^^^ b) = 2 ^ k * a ^^^ 2 ^ k * b := by
  apply Nat.eq_of_testBit_eq
  intro i
  simp only [Nat.testBit_xor, Nat.testBit_two_pow_mul]
  by_cases hi : k ≤ i <;> simp [hi]
theorem N_app_xor (l m : List UInt8) : N (l ++ m) = N l ^^^ 2 ^ (8 * l.length) * N m := by
  have h := N_lt l
  rw [show (256 : Nat) = 2 ^ 8 from rfl, ← Nat.pow_mul] at h
  rw [N_app, show (256 : Nat) = 2 ^ 8 from rfl, ← Nat.pow_mul, add_xor _ _ _ h]
theorem N_le8 (n : Nat) (h : n < 18446744073709551616) : N (le 8 n) = n := by rw [N_le]; omega
/-- The sum of a frame at place p of file f. -/
def fsum (f p : Nat) (l : List UInt8) : Nat := sum (le 8 f ++ le 8 p ++ l)
theorem fsum_lt (f p : Nat) (l : List UInt8) : fsum f p l < 4294967296 := sum_lt _
theorem N_words (f p : Nat) (l : List UInt8) (hf : f < 18446744073709551616) (hp : p < 18446744073709551616) : N (le 8 f ++ le 8 p ++ l) = f ^^^ (2 ^ 64 * p ^^^ 2 ^ 128 * N l) := by
  rw [List.append_assoc, N_app_xor, N_app_xor, N_le8 f hf, N_le8 p hp, le_length, le_length, mul_xor, ← Nat.mul_assoc, ← Nat.pow_add]
theorem words_length (f p : Nat) (l : List UInt8) : (le 8 f ++ le 8 p ++ l).length = 16 + l.length := by simp [le_length]; omega
theorem xor_ne {a b : Nat} (h : a ≠ b) : a ^^^ b ≠ 0 := fun e => h (by
  have := congrArg (· ^^^ b) e
  simpa [Nat.xor_assoc] using this)
/-- Another place, another sum. -/
theorem fsum_place (f p q : Nat) (l : List UInt8) (hf : f < 18446744073709551616) (hp : p < 4294967296) (hq : q < 4294967296) (h : p ≠ q) : fsum f q l ≠ fsum f p l := by
  refine sum_differs _ _ 64 (p ^^^ q) (by rw [words_length, words_length]) ?_ (xor_ne h) (Nat.xor_lt_two_pow (n := 32) hp hq) (by rw [words_length]; omega)
  rw [N_words f q l hf (by omega), N_words f p l hf (by omega), mul_xor]
  apply Nat.eq_of_testBit_eq
  intro i
  simp only [Nat.testBit_xor]
  cases (f.testBit i) <;> cases ((2 ^ 64 * p).testBit i) <;> cases ((2 ^ 64 * q).testBit i) <;> cases ((2 ^ 128 * N l).testBit i) <;> rfl
/-- Another file, another sum. -/
theorem fsum_file (f g p : Nat) (l : List UInt8) (hf : f < 4294967296) (hg : g < 4294967296) (hp : p < 18446744073709551616) (h : f ≠ g) : fsum g p l ≠ fsum f p l := by
  refine sum_differs _ _ 0 (f ^^^ g) (by rw [words_length, words_length]) ?_ (xor_ne h) (Nat.xor_lt_two_pow (n := 32) hf hg) (by omega)
  rw [N_words g p l (by omega) hp, N_words f p l (by omega) hp, Nat.pow_zero, Nat.one_mul]
  apply Nat.eq_of_testBit_eq
  intro i
  simp only [Nat.testBit_xor]
  cases (f.testBit i) <;> cases (g.testBit i) <;> cases ((2 ^ 64 * p).testBit i) <;> cases ((2 ^ 128 * N l).testBit i) <;> rfl
/-- A frame. -/
def frame (f p : Nat) (l : List UInt8) : List UInt8 := le 4 l.length ++ (le 4 (fsum f p l) ++ l)
theorem frame_length (f p : Nat) (l : List UInt8) : (frame f p l).length = l.length + 8 := by simp [frame, le_length]; omega
end Go.Proofs.Ytibcfbajjnpbfaa.Crc
