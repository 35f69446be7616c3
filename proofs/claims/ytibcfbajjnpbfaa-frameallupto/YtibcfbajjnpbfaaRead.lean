/-
  The walk of read, of four bytes.
-/
import Derived.Test.YtibcfbajjnpbfaaCrc
import Derived.Test.YtibcfbajjnpbfaaMem
import Derived.LoopN
namespace Go.Proofs.Ytibcfbajjnpbfaa
open Go.RowKit

theorem wraps_i64 (n : Int) (h₀ : 0 ≤ n) (h₁ : n < 2 ^ 63) : IntKind.i64.wrap n = n := by rw [IntKind.wrap_i64]; omega
theorem or_high (k a c : Nat) (ha : a < 2 ^ k) (hc : a + 2 ^ k * c < 2 ^ 63) : bits .or .i64 (a : Int) ((2 ^ k * c : Nat) : Int) = ((a + 2 ^ k * c : Nat) : Int) := by
  rw [(bits_nat .i64 63 (by decide) wraps_i64 a _ (by omega) (by omega)).2, Nat.or_comm, ← Nat.two_pow_add_eq_or_of_lt ha, Nat.add_comm]
theorem or_four (a b c d : Nat) (ha : a < 256) (hb : b < 256) (hc : c < 256) (hd : d < 256) :
    bits .or .i64 (bits .or .i64 (bits .or .i64 (bits .or .i64 0 (a : Int)) ((b : Int) * 256)) ((c : Int) * 65536)) ((d : Int) * 16777216) = ((a + 256 * (b + 256 * (c + 256 * (d + 256 * 0))) : Nat) : Int) := by
  have e0 := or_high 0 0 a (by decide) (by omega)
  have e1 := or_high 8 a b (by omega) (by omega)
  have e2 := or_high 16 (a + 2 ^ 8 * b) c (by omega) (by omega)
  have e3 := or_high 24 (a + 2 ^ 8 * b + 2 ^ 16 * c) d (by omega) (by omega)
  rw [show ((2 ^ 0 * a : Nat) : Int) = (a : Int) by omega, show ((0 : Nat) : Int) = 0 from rfl, show 0 + 2 ^ 0 * a = a by omega] at e0
  rw [e0, show ((b : Int) * 256) = ((2 ^ 8 * b : Nat) : Int) by omega, e1, show ((c : Int) * 65536) = ((2 ^ 16 * c : Nat) : Int) by omega, e2, show ((d : Int) * 16777216) = ((2 ^ 24 * d : Nat) : Int) by omega, e3]
  omega

set_option maxHeartbeats 1000000 in
set_option maxRecDepth 1000000 in
theorem read_any (b o c : Nat) (x0 x1 x2 x3 : UInt8) (w : World) (h0 : w.cell? ⟨b, o, none⟩ = some (.int .u8 (x0.toNat : Int))) (h1 : w.cell? ⟨b, o + 1, none⟩ = some (.int .u8 (x1.toNat : Int)))
    (h2 : w.cell? ⟨b, o + 2, none⟩ = some (.int .u8 (x2.toNat : Int))) (h3 : w.cell? ⟨b, o + 3, none⟩ = some (.int .u8 (x3.toNat : Int))) :
    Calls Try.prog 36 #[.slice (some ⟨b, o, none⟩) 4 c] w fun e w' => e = .returned (.int .i64 (Crc.N [x0, x1, x2, x3] : Nat)) ∧ w' = w := by
  have b0 := x0.toNat_lt
  have b1 := x1.toNat_lt
  have b2 := x2.toNat_lt
  have b3 := x3.toNat_lt
  go_enter Try.func36, Try.ntmps36
  go_wp2
  refine wp_loop_rounds 5 ?_
  rw [rounds_succ]
  go_wp2
  rw [rounds_succ]
  go_wp2
  rw [rounds_succ]
  go_wp2
  rw [rounds_succ]
  go_wp2
  rw [rounds_succ]
  go_wp2
  go_ret
  exact ⟨congrArg (fun z => Ending.returned (.int .i64 z)) (or_four _ _ _ _ b0 b1 b2 b3), rfl⟩
end Go.Proofs.Ytibcfbajjnpbfaa
