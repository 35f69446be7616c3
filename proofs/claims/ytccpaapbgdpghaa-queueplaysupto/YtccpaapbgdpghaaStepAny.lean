/-
  The walk of step, of whatever kind.
-/
import Derived.Test.YtccpaapbgdpghaaStX
import Derived.Test.YtccpaapbgdpghaaStY
import Derived.Test.YtccpaapbgdpghaaStZ
namespace Go.Proofs.Ytccpaapbgdpghaa
open Go.RowKit

theorem step_any (w0 w : World) (db N : Nat) (kind on n x : Int) (h0 : DkN w0 db N w) (hN : N ≤ 1048576) (hon : -9223372036854775808 ≤ on ∧ on ≤ 9223372036854775807) (hn : -9223372036854775808 ≤ n ∧ n ≤ 9223372036854775807) (hx : -9223372036854775808 ≤ x ∧ x ≤ 9223372036854775807) :
    Calls Try.prog 6 #[.pointer (some ⟨db, 0, none⟩), .agg #[.int .i64 kind, .int .i64 on, .int .i64 n, .int .i64 x]] w fun e w' => e = .returned (.bool true) ∧ DkN w0 db (N + 1) w' := by
  by_cases h1 : kind = 1
  · subst h1; exact step1 w0 w db N on n x h0 hN hon hn hx
  by_cases h2 : kind = 2
  · subst h2; exact step2 w0 w db N on n x h0 hN hon hn hx
  by_cases h3 : kind = 3
  · subst h3; exact step3 w0 w db N on n x h0 hN hon hn hx
  by_cases h4 : kind = 4
  · subst h4; exact step4 w0 w db N on n x h0 hN hon hn hx
  by_cases h5 : kind = 5
  · subst h5; exact step5 w0 w db N on n x h0 hN hon hn hx
  by_cases h6 : kind = 6
  · subst h6; exact step6 w0 w db N on n x h0 hN hon hn hx
  by_cases h7 : kind = 7
  · subst h7; exact step7 w0 w db N on n x h0 hN hon hn hx
  by_cases h8 : kind = 8
  · subst h8; exact step8 w0 w db N on n x h0 hN hon hn hx
  by_cases h9 : kind = 9
  · subst h9; exact step9 w0 w db N on n x h0 hN hon hn hx
  by_cases h10 : kind = 10
  · subst h10; exact step10 w0 w db N on n x h0 hN hon hn hx
  by_cases h11 : kind = 11
  · subst h11; exact step11 w0 w db N on n x h0 hN hon hn hx
  exact stepElse w0 w db N kind on n x h0 hN hon hn hx ⟨h1, h2, h3, h4, h5, h6, h7, h8, h9, h10, h11⟩
end Go.Proofs.Ytccpaapbgdpghaa
