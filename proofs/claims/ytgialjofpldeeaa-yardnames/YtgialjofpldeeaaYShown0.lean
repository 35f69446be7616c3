/-
  What shown goes by.
-/
import Derived.Test.YtgialjofpldeeaaYJobsW
import Derived.Test.YtgialjofpldeeaaYAdd
import Derived.Lib.LazyBuf
import Derived.Lib.SmallJoins
namespace Go.Proofs.Ytgialjofpldeeaa
open Go.RowKit
theorem conv_is {w : World} {a : Option Addr} {c n : Nat} {l : List UInt8} (h : IsBytes w a c l) (hn : l.length = n) : (convert 36 9 (.slice a n c)).run Try.prog w = .ok (.string ⟨l.toArray⟩) w := by
  subst hn
  cases a with
  | none =>
    obtain rfl : l = [] := by
      rcases h.2.2 with h | ⟨_, _, e, _⟩
      · exact h
      · cases e
    exact run_convert_bytes_nil w 36 5 Try.underlying36 Try.underlying5 0 c 9 Try.underlying9
  | some p =>
    refine run_convert_bytes_back w 36 9 5 p c l Try.underlying36 Try.underlying5 Try.underlying9 (fun j hj => ?_)
    rw [h.at j hj, nums_get l j l[j] (List.getElem?_eq_getElem hj)]

theorem conv_new (W : World) (C : Array Value) (n c : Nat) : (convert 36 36 (.slice (some ⟨W.heap.size, 0, none⟩) n c)).run Try.prog (W.alloc (.cells C 5)) = .ok (.slice (some ⟨W.heap.size, 0, none⟩) n c) (W.alloc (.cells C 5 (C.size, C.size + 1))) :=
  Lib.run_convert_bytes_const (P := Try.prog) W 36 5 C n c Try.underlying36 Try.underlying5
def jS : Jb := ⟨7, 3, 0, 1, 0, 1, 0, 0, -1, 0, 0, 0, 0, 0, ⟨#[97]⟩⟩
theorem jS_ok : jS.ok := by
  refine ⟨?_, ?_, ?_, ?_, ?_, ?_, ?_, ?_, ?_, ?_, ?_, ?_, ?_, ?_, ?_⟩ <;> decide
theorem addS (jm : Nat) (d r : HM) : addE (yd0 jm d r).L jS 1 = 0 := rfl
theorem few0 (jm : Nat) (d r : HM) (hd : d.R = []) (hr : r.R = []) (hdl : d.last = 0) (hrl : r.last = 0) : Few (yd0 jm d r) 0 := by
  refine ⟨fun K h hK => ?_, Nat.le_refl _, Nat.le_refl _, Nat.le_refl _, sm0_small, fun _ => sm0_small⟩
  simp only [yd0] at hK
  split at hK
  · cases hK
    rw [hd, hdl]
    exact ⟨Int.le_refl _, Int.le_refl _, Nat.le_refl _, fun r hr => by cases hr⟩
  · split at hK
    · cases hK
      rw [hr, hrl]
      exact ⟨Int.le_refl _, Int.le_refl _, Nat.le_refl _, fun r hr => by cases hr⟩
    · cases hK
theorem fst_of {Y : Yd} {k : Nat} {t : ByteArray} {h : HM} (hx : Y.hp (hkT k t) = some h) : fstOf Y k t = (h.R.head?.map (fun r => r.2.id)).getD 0 := by
  unfold fstOf
  rw [hx]
theorem tube_zero (Y : Yd) (t : ByteArray) (b hb0 mb0 hb1 mb1 hb2 mb2 : Nat) : (Y.withTube t b hb0 mb0 hb1 mb1 hb2 mb2).hp (hkT 0 t) = some (hm0 hb0 mb0) := if_pos rfl
/-- What one job makes of an empty yard. -/
theorem laid_one {jm : Nat} {d r : HM} {w : World} {lab : Nat → HK} {yb : Nat} {bv : Value} {w' : World} (h : Laid w lab yb (yd0 jm d r) jS bv [120] w') :
    ∃ lab' Y, YAt w' lab' yb Y ∧ (∃ t0 t1, Y.L = [⟨jS, bv, [120], t0, t1⟩]) ∧ Y.sm = ⟨1, 0, 0, 0, 1⟩ ∧ fstOf Y 0 ⟨#[97]⟩ = 7 ∧ (∃ b, Y.tb ⟨#[97]⟩ = some b) := by
  obtain ⟨lab', Y1, Y2, S, h1, h2, h3, h4, h5, _, _⟩ := h
  have hks : ksOf jS = [hkT 0 ⟨#[97]⟩] := rfl
  rw [hks] at h4
  obtain ⟨b, hb0, mb0, hb1, mb1, hb2, mb2, rfl⟩ : ∃ b hb0 mb0 hb1 mb1 hb2 mb2, Y1 = (yd0 jm d r).withTube jS.nm b hb0 mb0 hb1 mb1 hb2 mb2 := by
    rcases h1 with ⟨b, hb, _⟩ | ⟨_, h⟩
    · cases hb
    · exact h
  obtain rfl : Y2 = (yd0 jm d r).withTube jS.nm b hb0 mb0 hb1 mb1 hb2 mb2 := by
    rcases h2 with ⟨_, h⟩ | ⟨h, _⟩
    · exact h
    · exact absurd h (by decide)
  cases S with
  | nil => simp at h4
  | cons p S =>
    obtain rfl : S = [] := by
      have := congrArg List.length h4
      simp at this
      exact this
    obtain ⟨_, hp, _, _, _, hR⟩ := h3
    have hk : p.1 = hkT 0 ⟨#[97]⟩ := by simpa using h4
    have hp2 : ((yd0 jm d r).withTube jS.nm b hb0 mb0 hb1 mb1 hb2 mb2).hp (hkT 0 ⟨#[97]⟩) = some p.2.1 := by rw [← hk]; exact hp
    have e1 : p.2.1 = hm0 hb0 mb0 := by
      have : some (hm0 hb0 mb0) = some p.2.1 := (show ((yd0 jm d r).withTube jS.nm b hb0 mb0 hb1 mb1 hb2 mb2).hp (hkT 0 ⟨#[97]⟩) = some (hm0 hb0 mb0) from tube_zero _ _ _ _ _ _ _ _ _).symm.trans hp2
      exact (Option.some.inj this).symm
    refine ⟨lab', _, h5, ⟨_, _, rfl⟩, rfl, ?_, b, rfl⟩
    have hx : (PuY ((yd0 jm d r).withTube jS.nm b hb0 mb0 hb1 mb1 hb2 mb2) [p]).hp (hkT 0 ⟨#[97]⟩) = some p.2.2 := by
      show updH _ p.1 (some p.2.2) (hkT 0 ⟨#[97]⟩) = some p.2.2
      rw [hk]
      exact updH_at _ _ _
    refine (fst_of (h := p.2.2) hx).trans ?_
    rw [hR, hk, e1]
    rfl
end Go.Proofs.Ytgialjofpldeeaa
