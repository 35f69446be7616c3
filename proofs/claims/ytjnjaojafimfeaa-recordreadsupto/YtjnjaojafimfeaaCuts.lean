/-
  Bytes cut; numbers put together bit by bit.
-/
import Derived.Test.YtjnjaojafimfeaaAddTo
import Derived.Laws.IdiomStrings
import Derived.Lib.SmallJoins
namespace Go.Proofs.Ytjnjaojafimfeaa
open Go.RowKit

theorem ofInt_wrap (x : Int) : BitVec.ofInt 64 (IntKind.i64.wrap x) = BitVec.ofInt 64 x := by
  apply BitVec.eq_of_toNat_eq
  rw [BitVec.toNat_ofInt, BitVec.toNat_ofInt, IntKind.wrap_i64]
  congr 1
  have : ((2 ^ 64 : Nat) : Int) = 18446744073709551616 := by decide
  rw [this]
  omega
theorem bits_or_def (a b : Int) : bits .or .i64 a b = IntKind.i64.wrap (((BitVec.ofInt 64 a ||| BitVec.ofInt 64 b).toNat : Nat) : Int) := rfl
theorem or_join (v c i : Nat) (hv : v < 2 ^ (8 * i)) (hc : c < 256) (hi : i < 8) :
    bits .or .i64 (IntKind.i64.wrap (v : Int)) (IntKind.i64.wrap ((c : Int) * 2 ^ (8 * i))) = IntKind.i64.wrap ((v + 2 ^ (8 * i) * c : Nat) : Int) := by
  have hp : (2 : Nat) ^ (8 * i) * 256 ≤ 2 ^ 64 := by
    rw [show (256 : Nat) = 2 ^ 8 from rfl, ← Nat.pow_add]
    exact Nat.pow_le_pow_right (by decide) (by omega)
  have hq : 2 ^ (8 * i) * c < 2 ^ 64 := Nat.lt_of_lt_of_le (Nat.mul_lt_mul_of_pos_left hc (Nat.two_pow_pos _)) hp
  have hv2 : v < 2 ^ 64 := Nat.lt_of_lt_of_le hv (Nat.le_trans (Nat.le_mul_of_pos_right _ (by decide)) hp)
  rw [bits_or_def, ofInt_wrap, ofInt_wrap, show ((c : Int) * 2 ^ (8 * i)) = ((2 ^ (8 * i) * c : Nat) : Int) by push_cast; rw [Int.mul_comm]]
  rw [BitVec.ofInt_natCast, BitVec.ofInt_natCast, BitVec.toNat_or, BitVec.toNat_ofNat, BitVec.toNat_ofNat, Nat.mod_eq_of_lt hv2, Nat.mod_eq_of_lt hq]
  rw [Nat.or_comm, ← Nat.two_pow_add_eq_or_of_lt hv, Nat.add_comm]
theorem val_snoc : ∀ (l : List UInt8) (c : UInt8), val8 (l ++ [c]) = val8 l + 2 ^ (8 * l.length) * c.toNat
  | [], c => by simp [val8]
  | d :: l, c => by
    have ih := val_snoc l c
    rw [List.cons_append, val8, val8, ih, List.length_cons, Nat.mul_succ, Nat.pow_add]
    have : (2 : Nat) ^ 8 = 256 := rfl
    rw [this, Nat.mul_add]
    have e : 256 * (2 ^ (8 * l.length) * c.toNat) = 2 ^ (8 * l.length) * 256 * c.toNat := by rw [Nat.mul_comm (2 ^ (8 * l.length)) 256, Nat.mul_assoc]
    omega
theorem val_lt2 (l : List UInt8) : val8 l < 2 ^ (8 * l.length) := by
  have := val_lt l
  rw [show (256 : Nat) = 2 ^ 8 from rfl, ← Nat.pow_mul] at this
  exact this
/-- One byte more of a number. -/
theorem num_step (l : List UInt8) (i : Nat) (c : UInt8) (h : l[i]? = some c) (hi : i < 8) : bits .or .i64 (num8 (l.take i)) (IntKind.i64.wrap ((c.toNat : Int) * 2 ^ (8 * i))) = num8 (l.take (i + 1)) := by
  have hl := (List.getElem?_eq_some_iff.1 h).1
  have e : l[i] = c := (List.getElem?_eq_some_iff.1 h).2
  have hn : (l.take i).length = i := by rw [List.length_take]; omega
  have hv := val_lt2 (l.take i)
  rw [hn] at hv
  unfold num8
  rw [or_join (val8 (l.take i)) c.toNat i hv c.toNat_lt hi, List.take_succ_eq_append_getElem hl, e, val_snoc, hn]
theorem num_zero (l : List UInt8) : num8 (l.take 0) = 0 := by
  simp [num8, val8, IntKind.wrap_i64]
theorem IsBytes.take {w : World} {a : Option Addr} {c : Nat} {l : List UInt8} (h : IsBytes w a c l) (k : Nat) : IsBytes w a c (l.take k) := by
  obtain ⟨h1, h2, h3⟩ := h
  refine ⟨by simp; omega, h2, ?_⟩
  rcases h3 with rfl | ⟨b, o, rfl, hb, hc⟩
  · exact .inl (by simp)
  · refine .inr ⟨b, o, rfl, hb, fun j x hj => hc j x ?_⟩
    rw [List.getElem?_take] at hj
    split at hj
    · exact hj
    · cases hj


theorem IsBytes.drop {w : World} {b o c : Nat} {l : List UInt8} (h : IsBytes w (some ⟨b, o, none⟩) c l) (k : Nat) (hk : k ≤ l.length) : IsBytes w (if c = k then some ⟨b, o, none⟩ else some ⟨b, o + k, none⟩) (c - k) (l.drop k) := by
  obtain ⟨h1, h2, h3⟩ := h
  refine ⟨by simp; omega, by omega, ?_⟩
  by_cases hc : c = k
  · left
    exact List.drop_eq_nil_of_le (by omega)
  · rw [if_neg hc]
    rcases h3 with rfl | ⟨b', o', e, hb, hcl⟩
    · left; simp
    · cases e
      refine .inr ⟨b, o + k, rfl, hb, fun j x hj => ?_⟩
      rw [List.getElem?_drop] at hj
      rw [Nat.add_assoc]
      exact hcl _ x hj
theorem IsBytes.addr {w : World} {a : Option Addr} {c : Nat} {l : List UInt8} (h : IsBytes w a c l) (hl : 0 < l.length) : ∃ b o, a = some ⟨b, o, none⟩ := by
  rcases h.2.2 with rfl | ⟨b, o, e, _⟩
  · simp at hl
  · exact ⟨b, o, e⟩
theorem IsBytes.cell {w : World} {b o c : Nat} {l : List UInt8} (h : IsBytes w (some ⟨b, o, none⟩) c l) (j : Nat) (x : UInt8) (hx : l[j]? = some x) : w.cell? ⟨b, o + j, none⟩ = some (.int .u8 (x.toNat : Int)) := by
  rcases h.2.2 with rfl | ⟨b', o', e, _, hc⟩
  · simp at hx
  · cases e
    exact hc j x hx
theorem conv_is {w : World} {a : Option Addr} {c n : Nat} {l : List UInt8} (h : IsBytes w a c l) (hn : l.length = n) : (convert 30 9 (.slice a n c)).run Try.prog w = .ok (.string ⟨l.toArray⟩) w := by
  subst hn
  cases a with
  | none =>
    obtain rfl : l = [] := by
      rcases h.2.2 with h | ⟨_, _, e, _⟩
      · exact h
      · cases e
    exact run_convert_bytes_nil w 30 5 Try.underlying30 Try.underlying5 0 c 9 Try.underlying9
  | some p =>
    refine run_convert_bytes_back w 30 9 5 p c l Try.underlying30 Try.underlying5 Try.underlying9 (fun j hj => ?_)
    rcases h.2.2 with rfl | ⟨b, o, e, _, hc⟩
    · simp at hj
    · cases e
      have := hc j l[j] (List.getElem?_eq_getElem hj)
      rw [Addr.add_mid]
      exact this

end Go.Proofs.Ytjnjaojafimfeaa
