/-
  The walks of sameFiles, begins, where they answer true.
-/
import Derived.Test.YtkmolklcbemfbaaShown
namespace Go.Proofs.Ytkmolklcbemfbaa
open Go.RowKit Go.Maps

theorem ByteRow.isAll {w : World} {t : TypeId} {g : Nat} {l : List UInt8} (h : ByteRow w t g l) (hb : l.length ≤ 140737488355328) : IsBytes w (some ⟨g, 0, none⟩) l.length l :=
  h.is 0 l.length l (fun j x hj => by rw [Nat.zero_add]; exact hj) (Nat.le_refl _) (by unfold maxLen; omega)
/-- A list of files that was handed out, as it is read. -/
theorem ListAt.raw {w : World} {lo : Nat} {v : Value} {P : List (Fl × Nat)} (h : ListAt w lo v P) (hf : ∀ p ∈ P, rawFits (raw p.1) ∧ p.1.data.length ≤ 140737488355328) : ∃ a c, v = .slice a P.length c ∧ IsRaw w a c (P.map fun p => raw p.1) := by
  obtain ⟨a, c, hv, hc1, hc2, hcell⟩ := h.cells
  refine ⟨a, c, hv, by simpa using hc2, hc1, fun x hx => ?_, ?_⟩
  · obtain ⟨p, hp, rfl⟩ := List.mem_map.1 hx
    exact (hf p hp).1
  · cases P with
    | nil => exact .inl rfl
    | cons p0 r =>
      obtain ⟨b, ha, hb, _⟩ := hcell 0 p0 rfl
      refine .inr ⟨b, 0, ha, hb, fun j x hj => ?_⟩
      rw [List.getElem?_map] at hj
      obtain ⟨p, hp, rfl⟩ := Option.map_eq_some_iff.1 hj
      obtain ⟨b', ha', _, k0, k1, k2, hrow⟩ := hcell j p hp
      rw [ha] at ha'
      simp only [Option.some.injEq, Addr.mk.injEq, and_true] at ha'
      subst ha'
      rw [Nat.zero_add]
      exact ⟨k0, ⟨_, _, k1, hrow.isAll (hf p (List.mem_of_getElem? hp)).2⟩, k2⟩
theorem raw_fits {q : Int} {L : List Fl} (h : Right q L) {f : Fl} (hf : f ∈ L) : rawFits (raw f) ∧ f.data.length ≤ 140737488355328 := by
  have h1 := h.ok f hf
  have h2 := len_le hf
  have h3 := h.fits
  have h4 := h.quota
  refine ⟨⟨WalkArith.wf_i64 ?_, WalkArith.wf_i64 ?_⟩, by omega⟩
  · show _ ≤ f.num ∧ f.num ≤ _
    omega
  · show _ ≤ (f.safe : Int) ∧ (f.safe : Int) ≤ _
    omega

theorem same_yes (a1 a2 : Option Addr) (c1 c2 : Nat) (xs : List UInt8) (w : World) (h1 : IsBytes w a1 c1 xs) (h2 : IsBytes w a2 c2 xs) :
    Calls Try.prog 28 #[.slice a1 xs.length c1, .slice a2 xs.length c2] w fun e w' => e = .returned (.bool true) ∧ ∃ n, w' = w.drewN n := by
  refine (same_any a1 a2 c1 c2 xs xs w h1 h2).mono ?_
  rintro e w' ⟨rfl, h⟩
  exact ⟨by simp, h⟩

set_option maxHeartbeats 2000000 in
set_option maxRecDepth 1000000 in
theorem sameFiles_yes (a1 a2 : Option Addr) (c1 c2 : Nat) (R : List Rf) (w : World) (h1 : IsRaw w a1 c1 R) (h2 : IsRaw w a2 c2 R) :
    Calls Try.prog 25 #[.slice a1 R.length c1, .slice a2 R.length c2] w fun e w' => e = .returned (.bool true) ∧ ∃ n, w' = w.drewN n := by
  have H1 : Hid (IsRaw w a1 c1 R) := h1
  have H2 : Hid (IsRaw w a2 c2 R) := h2
  have hcl : R.length ≤ 9223372036854775807 := by have := h1.1; have := h1.2.1; unfold maxLen at this; omega
  clear h1 h2
  go_enter Try.func25, Try.ntmps25
  go_wp2
  go_loopw [5] (fun i wr => ∃ k : Nat, k ≤ R.length ∧ i = .int .i64 k ∧ ∃ m, wr = w.drewN m) (fun i _ => R.length - (intOf i).toNat)
  case atStart => exact ⟨0, Nat.zero_le _, rfl, 0, rfl⟩
  case round =>
    obtain ⟨k, hk, rfl, m, hm⟩ := hrel
    have HM : Hid (wr = w.drewN m) := hm
    have HB : Hid (Below w.heap.size w wr) := by show Below _ _ _; rw [hm]; exact below_drewN (Below.refl _ w) m
    clear hm
    by_cases hlt : k < R.length
    · obtain ⟨x, hx⟩ : ∃ x, R[k]? = some x := ⟨_, List.getElem?_eq_getElem hlt⟩
      obtain ⟨b1, o1, rfl, hb1, p0, ⟨xa, xc, p1, pb⟩, p2⟩ := (H1.out.below HB.out).at hx
      obtain ⟨b2, o2, rfl, hb2, q0, ⟨ya, yc, q1, qb⟩, q2⟩ := (H2.out.below HB.out).at hx
      have I1 : Hid (IsBytes wr xa xc x.data) := pb
      have I2 : Hid (IsBytes wr ya yc x.data) := qb
      have hki : (k : Int) < (R.length : Int) := by omega
      have e1 : (x.num != x.num) = false := by simp
      have e2 : (x.safe != x.safe) = false := by simp
      clear pb qb hx
      go_wp2_with fail
      go_quiet ((go_at_call 28; exact Calls.quiet_of (same_yes _ _ _ _ x.data _ (I1.out.below (below_drewN (Below.refl _ wr) _)) (I2.out.below (below_drewN (Below.refl _ wr) _)))))
      go_wp2
      go_roundw
      case rel => exact ⟨k + 1, by omega, by go_num, m + nq, by rw [HM.out, World.drewN_drewN]⟩
      case measure => simp [intOf]; omega
    · have hki : ¬ (k : Int) < (R.length : Int) := by omega
      go_wp2
      go_ret
      exact ⟨rfl, m, HM.out⟩

set_option maxHeartbeats 1000000 in
set_option maxRecDepth 1000000 in
theorem begins_yes (a1 a2 : Option Addr) (c1 c2 n1 n2 : Nat) (xs ys : List UInt8) (w : World) (h1 : IsBytes w a1 c1 xs) (h2 : IsBytes w a2 c2 ys) (hp : xs.take ys.length = ys) (hn1 : xs.length = n1) (hn2 : ys.length = n2) :
    Calls Try.prog 24 #[.slice a1 n1 c1, .slice a2 n2 c2] w fun e w' => e = .returned (.bool true) ∧ ∃ n, w' = w.drewN n := by
  subst hn1 hn2
  have hle : ys.length ≤ xs.length := by have := congrArg List.length hp; rw [List.length_take] at this; omega
  have hc1 := h1.1
  have hcm : c1 ≤ 9223372036854775807 := by have := h1.2.1; unfold maxLen at this; omega
  have hs := same_yes a1 a2 c1 c2 ys w (by have := h1.take ys.length; rw [hp] at this; exact this) h2
  have HS : Hid (Calls Try.prog 28 #[.slice a1 ys.length c1, .slice a2 ys.length c2] w fun e w' => e = .returned (.bool true) ∧ ∃ n, w' = w.drewN n) := hs
  have hli : (ys.length : Int) ≤ (xs.length : Int) := by omega
  clear h1 h2 hp hs
  go_enter Try.func24, Try.ntmps24
  go_wp2_with (go_at_call 28; refine HS.out.mono ?_; rintro e w1 ⟨rfl, n1, hn1⟩; have H1 : Hid (w1 = w.drewN n1) := hn1; clear hn1)
  go_ret
  exact ⟨rfl, n1, H1.out⟩
end Go.Proofs.Ytkmolklcbemfbaa
