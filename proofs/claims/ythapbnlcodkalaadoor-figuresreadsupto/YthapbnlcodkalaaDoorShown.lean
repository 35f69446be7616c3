/-
  Layer 13: the document's example.
-/
import Derived.Test.YthapbnlcodkalaaDoorFigVals
namespace Go.Proofs.YthapbnlcodkalaaDoor
open Go.RowKit Go.Sort

def t0 : Tb := ⟨⟨#[97]⟩, 0, 0, 0, 0, 0, 0, 0, 0, 0, 0, 0, 5, 12⟩
def shownL : List UInt8 := [45, 45, 45, 10, 110, 97, 109, 101, 58, 32, 97, 10, 99, 117, 114, 114, 101, 110, 116, 45, 106, 111, 98, 115, 45, 117, 114, 103, 101, 110, 116, 58, 32, 48, 10, 99, 117, 114, 114, 101, 110, 116, 45, 106, 111, 98, 115, 45, 114, 101, 97, 100, 121, 58, 32, 48, 10, 99, 117, 114, 114, 101, 110, 116, 45, 106, 111, 98, 115, 45, 114, 101, 115, 101, 114, 118, 101, 100, 58, 32, 48, 10, 99, 117, 114, 114, 101, 110, 116, 45, 106, 111, 98, 115, 45, 100, 101, 108, 97, 121, 101, 100, 58, 32, 48, 10, 99, 117, 114, 114, 101, 110, 116, 45, 106, 111, 98, 115, 45, 98, 117, 114, 105, 101, 100, 58, 32, 48, 10, 116, 111, 116, 97, 108, 45, 106, 111, 98, 115, 58, 32, 48, 10, 99, 117, 114, 114, 101, 110, 116, 45, 117, 115, 105, 110, 103, 58, 32, 48, 10, 99, 117, 114, 114, 101, 110, 116, 45, 119, 97, 105, 116, 105, 110, 103, 58, 32, 48, 10, 99, 117, 114, 114, 101, 110, 116, 45, 119, 97, 116, 99, 104, 105, 110, 103, 58, 32, 48, 10, 112, 97, 117, 115, 101, 58, 32, 53, 10, 99, 109, 100, 45, 100, 101, 108, 101, 116, 101, 58, 32, 48, 10, 99, 109, 100, 45, 112, 97, 117, 115, 101, 45, 116, 117, 98, 101, 58, 32, 48, 10, 112, 97, 117, 115, 101, 45, 116, 105, 109, 101, 45, 108, 101, 102, 116, 58, 32, 50, 10]
theorem prS_small (n : Nat) (h : n < 10) : prS (n : Int) = ⟨#[UInt8.ofNat (48 + n)]⟩ := by
  unfold prS printL Lib.itoa
  rw [if_neg (by omega), if_neg (by omega), Int.toNat_natCast]
  unfold Lib.decDigits
  rw [dif_pos h]
theorem pr0 : prS 0 = ⟨#[48]⟩ := prS_small 0 (by decide)
theorem pr2 : prS 2 = ⟨#[50]⟩ := prS_small 2 (by decide)
theorem pr5 : prS 5 = ⟨#[53]⟩ := prS_small 5 (by decide)
theorem left0 : leftI 5 12 10 = 2 := by kernel_rfl
theorem t0_pairs : t0.pairs 10 = [(kName, ⟨#[97]⟩), (kUrgent, ⟨#[48]⟩), (kReady, ⟨#[48]⟩), (kReserved, ⟨#[48]⟩), (kDelayed, ⟨#[48]⟩), (kBuried, ⟨#[48]⟩), (kTotal, ⟨#[48]⟩), (kUsing, ⟨#[48]⟩), (kWaiting, ⟨#[48]⟩), (kWatching, ⟨#[48]⟩), (kPause, ⟨#[53]⟩), (kDelete, ⟨#[48]⟩), (kPauses, ⟨#[48]⟩), (kLeft, ⟨#[50]⟩)] := by
  show tubeP ⟨#[97]⟩ 0 0 0 0 0 0 0 0 0 0 0 5 12 10 = _
  unfold tubeP sumsP
  rw [left0, pr0, pr2, pr5]
  rfl
theorem t0_dict : t0.dict 10 = shownL := by
  unfold Tb.dict
  rw [t0_pairs]
  kernel_rfl
theorem t0_ok : t0.ok := by unfold Tb.ok I64 t0; decide

set_option maxHeartbeats 4000000 in
set_option maxRecDepth 1000000 in
theorem shown_any (w : World) (hp : PowAt w) : Calls Tryd.prog 7 #[] w fun e w' => e = .returned (.bool true) ∧ Below w.heap.size w w' := by
  have CT : Hid (Calls Tryd.prog 13 #[.agg #[.string ⟨#[97]⟩, .int .i64 0, .int .i64 0, .int .i64 0, .int .i64 0, .int .i64 0, .int .i64 0, .int .i64 0, .int .i64 0, .int .i64 0, .int .i64 0, .int .i64 0, .int .i64 5, .int .i64 12], .int .i64 10] w fun e w' => ∃ a c, e = .returned (.slice a shownL.length c) ∧ Own w' w.heap.size (.slice a shownL.length c) shownL ∧ Below w.heap.size w w') := by
    rw [← t0_dict]
    exact tubeW t0 10 w hp t0_ok (by decide)
  obtain ⟨D, hD⟩ : ∃ D, D = shownL := ⟨_, rfl⟩
  rw [← hD] at CT
  have HD := hide hD
  clear hD hp
  go_enter Tryd.func7, Tryd.ntmps7
  go_upto_region 2 with (go_at_call 13; refine CT.out.mono ?_; rintro e w1 ⟨a1, c1, rfl, o1, b1⟩; have H1 := hide (And.intro o1 b1); clear o1 b1)
  have kc : (convert 24 9 (.slice a1 D.length c1)).run Tryd.prog w1 = .ok (.string ⟨D.toArray⟩) w1 := by
    obtain ⟨a, c, e, i⟩ := H1.out.1.shape
    simp only [Value.slice.injEq] at e
    obtain ⟨rfl, _, rfl⟩ := e
    exact conv_is i rfl
  go_wp2_with fail
  go_ret
  refine ⟨?_, H1.out.2⟩
  rw [HD.out]
  kernel_rfl
end Go.Proofs.YthapbnlcodkalaaDoor
