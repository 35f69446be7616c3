/-
  The walk of the method holds.
-/
import Derived.Test.YtnpofjeiamjioaaHeld
import Derived.Test.YtnpofjeiamjioaaSameG
namespace Go.Proofs.Ytnpofjeiamjioaa
open Go.RowKit Go.Lib

theorem row_shape {w : World} {B e : Nat} {v : Value} {n : Nat} {xs : List Value} (h : w.ownsRow B e 1 v n xs) : ∃ a c, v = .slice a n c ∧ c ≤ maxLen ∧ n ≤ c ∧ (0 < n → ∃ g, a = some ⟨g, 0, none⟩ ∧ v.ownBlock = some g ∧ ∀ (j : Nat) x, xs[j]? = some x → w.cell? ⟨g, j, none⟩ = some x) := by
  rcases h.2 with ⟨rfl, h0⟩ | ⟨g, cap, cur, rfl, hb, hg, hnc, hcm, hcs, htake⟩
  · subst h0; exact ⟨none, 0, rfl, by simp [maxLen], Nat.le_refl _, fun h => by omega⟩
  · refine ⟨_, cap, rfl, hcm, hnc, fun _ => ⟨g, rfl, rfl, fun j x hj => ?_⟩⟩
    have := h.cells (g := g) rfl j x hj
    cases j with
    | zero => simpa [Addr.add] using this
    | succ j => simpa [Addr.add] using this

set_option maxHeartbeats 1000000 in
set_option maxRecDepth 1000000 in
theorem holds_any (w : World) (B : Nat) (lab : Nat → Tag) (Hb n : Nat) (es : List Ent) (h : Held w B lab Hb n es) :
    Calls Try.prog 35 #[.pointer (some ⟨Hb, 0, none⟩)] w fun e w' => e = .returned (.bool true) ∧ ∃ m, w' = w.drewN m := by
  obtain ⟨vo, vw, hr, hes⟩ := h
  have k0 := hr.cell0
  have k1 := hr.cell1
  obtain ⟨ao, co, rfl, hco, hno, hob⟩ := row_shape hr.2.2.2.1.1
  obtain ⟨aw, cw, rfl, hcw, hnw, hwb⟩ := row_shape hr.2.2.2.2.1
  rw [List.length_map] at k0 k1 hno hnw hob hwb
  unfold maxLen at hco hcw
  have HES : Hid (Ents w B lab n es) := hes
  have HOB : Hid (0 < es.length → ∃ g, ao = some ⟨g, 0, none⟩ ∧ (Value.slice ao es.length co).ownBlock = some g ∧ ∀ (j : Nat) x, (es.map (·.out))[j]? = some x → w.cell? ⟨g, j, none⟩ = some x) := hob
  have HWB : Hid (0 < es.length → ∃ g, aw = some ⟨g, 0, none⟩ ∧ (Value.slice aw es.length cw).ownBlock = some g ∧ ∀ (j : Nat) x, (es.map (·.want))[j]? = some x → w.cell? ⟨g, j, none⟩ = some x) := hwb
  clear hr hes hob hwb
  go_enter Try.func35, Try.ntmps35
  go_wp2
  go_loopw [3] (fun i wr => ∃ k : Nat, k ≤ es.length ∧ i = .int .i64 k ∧ ∃ m, wr = w.drewN m) (fun i _ => es.length - (RowKit.intOf i).toNat)
  case atStart => exact ⟨0, Nat.zero_le _, rfl, 0, rfl⟩
  case round =>
    obtain ⟨k, hk, rfl, m, hm⟩ := hrel
    have HM : Hid (wr = w.drewN m) := hm
    have HB : Hid (Below w.heap.size w wr) := by rw [hm]; exact below_drewN (Below.refl _ w) m
    have q0 : wr.cell? ⟨Hb, 0, none⟩ = some (.slice ao es.length co) := by rw [hm]; exact k0
    have q1 : wr.cell? ⟨Hb, 1, none⟩ = some (.slice aw es.length cw) := by rw [hm]; exact k1
    by_cases hlt : k < es.length
    · obtain ⟨go, rfl, _, hoc⟩ := HOB.out (by omega)
      obtain ⟨gw, rfl, _, hwc⟩ := HWB.out (by omega)
      obtain ⟨e, he⟩ : ∃ e, es[k]? = some e := ⟨_, List.getElem?_eq_getElem hlt⟩
      have c1 : wr.cell? ⟨go, k, none⟩ = some e.out := by rw [hm]; exact hoc k e.out (by simp [he])
      have c2 : wr.cell? ⟨gw, k, none⟩ = some e.want := by rw [hm]; exact hwc k e.want (by simp [he])
      obtain ⟨⟨o1, _⟩, o2, _⟩ := HES.out k e he
      obtain ⟨a1, d1, h1, i1⟩ := o1.shape
      obtain ⟨a2, d2, h2, i2⟩ := o2.shape
      rw [h1] at c1
      rw [h2] at c2
      have I1 : Hid (IsBytes wr a1 d1 e.bytes) := i1.below HB.out
      have I2 : Hid (IsBytes wr a2 d2 e.bytes) := i2.below HB.out
      have hki : (k : Int) < (es.length : Int) := by omega
      clear hoc hwc o1 o2 i1 i2 h1 h2 he hm k0 k1
      go_wp2_with fail
      go_quiet ((go_at_call 22; exact Calls.quiet_of (same_yes _ _ _ _ e.bytes _ (I1.out.below (below_drewN (Below.refl _ wr) _)) (I2.out.below (below_drewN (Below.refl _ wr) _)))))
      go_wp2
      go_roundw
      case rel => exact ⟨k + 1, by omega, by go_num, m + nq, by rw [HM.out, World.drewN_drewN]⟩
      case measure => simp [RowKit.intOf]; omega
    · clear hm
      go_wp2
      go_ret
      exact ⟨rfl, m, HM.out⟩
end Go.Proofs.Ytnpofjeiamjioaa
