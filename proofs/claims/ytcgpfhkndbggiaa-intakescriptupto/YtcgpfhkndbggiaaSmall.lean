/-
  The walks of letGoBig, letGo, Held, held, window.
-/
import Derived.Test.YtcgpfhkndbggiaaAt
namespace Go.Proofs.Ytcgpfhkndbggiaa
open Go.RowKit

set_option maxHeartbeats 1000000 in
set_option maxRecDepth 1000000 in
theorem letGoBig_any (w : World) (ib : Nat) (m : Int) (st nd : Nat) (v : Value) (g : Nat) (a : Option Addr) (c n : Nat) (hbox : BoxAt w ib m st nd v g) (hnd : nd ≤ 4294967297) (hn : n ≤ 9223372036854775807) :
    Calls Try.prog 50 #[.pointer (some ⟨ib, 0, none⟩), .slice a n c] w fun e w' => e = .returned (.int .i64 (min nd n : Nat)) ∧ BoxAt w' ib m st (nd - min nd n) v g ∧ Kept (fun k => k = ib) w w' := by
  have k2 : w.cell? ⟨ib, 2, none⟩ = some (.int .i64 nd) := hbox.cell.2.2.1
  have f2 : w.frozen? ⟨ib, 2, none⟩ = false := hbox.free 2
  have hlt := hbox.lt
  have HX : Hid (BoxAt w ib m st nd v g) := hbox
  clear hbox
  have hle : min (nd : Int) (n : Int) ≤ (nd : Int) ∧ 0 ≤ min (nd : Int) (n : Int) := by omega
  go_enter Try.func50, Try.ntmps50
  go_wp2
  go_ret
  obtain ⟨q1, q2⟩ := HX.out.setNeed (nd - min nd n)
  rw [show ((nd - min nd n : Nat) : Int) = (nd : Int) - min (nd : Int) (n : Int) by omega] at q1 q2
  exact ⟨by rw [show ((min nd n : Nat) : Int) = min (nd : Int) (n : Int) by omega]; rfl, q1, q2⟩

set_option maxHeartbeats 1000000 in
set_option maxRecDepth 1000000 in
theorem letGo_any (w : World) (ib : Nat) (m : Int) (st nd : Nat) (v : Value) (g : Nat) (a : Option Addr) (c : Nat) (b : List UInt8) (hbox : BoxAt w ib m st nd v g) (hb : IsBytes w a c b) (hv : ∃ a n c, v = .slice a n c) (hnd : nd ≤ 4294967297) (hlen : b.length < 4294967281) (hm : MaxAt w) :
    Calls Try.prog 36 #[.pointer (some ⟨ib, 0, none⟩), .slice a b.length c] w fun e w' => e = .returned (.int .i64 (letGo st nd b).1) ∧ BoxAt w' ib m st (letGo st nd b).2 v g ∧ Kept (fun k => k = ib) w w' := by
  have k1 : w.cell? ⟨ib, 1, none⟩ = some (.int .i64 st) := hbox.cell.2.1
  have hlt := hbox.lt
  have HX : Hid (BoxAt w ib m st nd v g) := hbox
  have HB : Hid (IsBytes w a c b) := hb
  have HV : Hid (∃ a n c, v = .slice a n c) := hv
  have HM : Hid (MaxAt w) := hm
  clear hbox hb hv hm
  by_cases h1 : st = 1
  · subst h1
    go_enter Try.func36, Try.ntmps36
    go_wp2_with (go_at_call 49; refine (letGoLine_any w ib m 1 nd v g a c b HX.out HB.out HV.out hlen HM.out).mono ?_; rintro e w1 ⟨rfl, q1, q2⟩)
    go_ret
    exact ⟨rfl, q1, q2⟩
  have e1 : ((st : Int) == 1) = false := by simp; omega
  by_cases h3 : st = 3
  · subst h3
    go_enter Try.func36, Try.ntmps36
    go_wp2_with (go_at_call 50; refine (letGoBig_any w ib m 3 nd v g a c b.length HX.out hnd (by omega)).mono ?_; rintro e w1 ⟨rfl, q1, q2⟩)
    go_ret
    exact ⟨rfl, q1, q2⟩
  have e3 : ((st : Int) == 3) = false := by simp; omega
  have HL : Hid (letGo st nd b = (0, nd)) := by
    show letGo st nd b = _
    unfold letGo
    rw [if_neg h1, if_neg h3]
  go_enter Try.func36, Try.ntmps36
  go_wp2
  go_ret
  exact ⟨by rw [HL.out]; rfl, by rw [HL.out]; exact HX.out, Kept.refl _ _⟩

theorem Own.slice {w : World} {B : Nat} {v : Value} {l : List UInt8} (h : Own w B v l) : ∃ a c, v = .slice a l.length c ∧ IsBytes w a c l ∧ (a = none → c = 0) := by
  rcases h.2 with ⟨rfl, h0⟩ | ⟨g, cap, cur, rfl, hb, hg, hnc, hcm, hcs, htake⟩
  · have : l = [] := List.eq_nil_of_length_eq_zero h0
    subst this
    exact ⟨none, 0, rfl, ⟨by simp, by unfold maxLen; omega, .inl rfl⟩, fun _ => rfl⟩
  · obtain ⟨a, c, e, hi⟩ := h.shape
    exact ⟨a, c, e, hi, fun h0 => by subst h0; cases e⟩
theorem IsBytes.map {w : World} {a : Option Addr} {c : Nat} {l : List UInt8} (h : IsBytes w a c l) (k : Nat) (hk : k ≤ l.length) : IsBytes w (a.map fun x => x.add k) (c - k) (l.drop k) := by
  obtain ⟨h1, h2, h3⟩ := h
  refine ⟨by simp; omega, by omega, ?_⟩
  rcases h3 with rfl | ⟨b, o, rfl, hb, hc⟩
  · exact .inl (by simp)
  · refine .inr ⟨b, o + k, by simp [Go.WideShapes.add_plain], hb, fun j x hj => ?_⟩
    rw [List.getElem?_drop] at hj
    rw [Nat.add_assoc]
    exact hc (k + j) x hj
theorem IsBytes.empty {w : World} (a : Option Addr) (c : Nat) (hc : c ≤ maxLen) : IsBytes w a c [] := ⟨by simp, hc, .inl rfl⟩

set_option maxHeartbeats 1000000 in
set_option maxRecDepth 1000000 in
theorem Held_any (w : World) (ib : Nat) (m : Int) (st nd : Nat) (v : Value) (g : Nat) (came : List UInt8) (hbox : BoxAt w ib m st nd v g) (hown : Own w 0 v came) (hg : g ≤ came.length) (hlen : came.length ≤ 4611686018427387904) :
    Calls Try.prog 14 #[.pointer (some ⟨ib, 0, none⟩)] w fun e w' => e = .returned (.int .i64 (came.length - g : Nat)) ∧ ∃ n, w' = w.drewN n := by
  obtain ⟨a, c, rfl, hi, ha⟩ := hown.slice
  have k3 : w.cell? ⟨ib, 3, none⟩ = some (.slice a came.length c) := hbox.cell.2.2.2.1
  have k4 : w.cell? ⟨ib, 4, none⟩ = some (.int .i64 g) := hbox.cell.2.2.2.2
  have hlt := hbox.lt
  clear hbox hown hi ha
  go_enter Try.func14, Try.ntmps14
  go_wp2
  go_region
  all_goals go_wp2
  all_goals go_ret
  all_goals exact ⟨by rw [show ((came.length - g : Nat) : Int) = (came.length : Int) - (g : Int) by omega]; rfl, _, rfl⟩

set_option maxHeartbeats 2000000 in
set_option maxRecDepth 1000000 in
theorem held_all (w : World) (ib : Nat) (m : Int) (st nd : Nat) (v : Value) (g : Nat) (came : List UInt8) (hbox : BoxAt w ib m st nd v g) (hown : Own w 0 v came) (hg : g ≤ came.length) :
    Calls Try.prog 43 #[.pointer (some ⟨ib, 0, none⟩)] w fun e w' => (∃ a c, e = .returned (.slice a (came.length - g) c) ∧ (∀ W, Own W 0 v came → IsBytes W a c (came.drop g)) ∧ (a = none → c = 0)) ∧ ∃ n, w' = w.drewN n := by
  obtain ⟨a, c, rfl, hi, ha⟩ := hown.slice
  have k3 : w.cell? ⟨ib, 3, none⟩ = some (.slice a came.length c) := hbox.cell.2.2.2.1
  have k4 : w.cell? ⟨ib, 4, none⟩ = some (.int .i64 g) := hbox.cell.2.2.2.2
  have hlt := hbox.lt
  have hlc : came.length ≤ c := hi.1
  have hcm : c ≤ 9223372036854775807 := by have := hi.2.1; unfold maxLen at this; omega
  have HI : Hid (∀ W, Own W 0 (.slice a came.length c) came → IsBytes W a c came) := fun W hW => by
    obtain ⟨a', c', e, h, _⟩ := hW.slice
    cases e
    exact h
  have HA : Hid (a = none → c = 0) := ha
  clear hbox hown hi ha
  go_enter Try.func43, Try.ntmps43
  go_wp2
  go_region
  all_goals go_wp2
  all_goals go_ret
  · exact ⟨⟨_, _, rfl, fun W _ => by rw [List.drop_eq_nil_of_le (by omega)]; exact IsBytes.empty _ _ (by unfold maxLen; omega), fun _ => rfl⟩, _, rfl⟩
  · exact ⟨⟨_, _, rfl, fun W hW => (HI.out W hW).map g hg, fun h => by have := HA.out (by simpa using h); omega⟩, _, rfl⟩

theorem held_any (w : World) (ib : Nat) (m : Int) (st nd : Nat) (v : Value) (g : Nat) (came : List UInt8) (hbox : BoxAt w ib m st nd v g) (hown : Own w 0 v came) (hg : g ≤ came.length) :
    Calls Try.prog 43 #[.pointer (some ⟨ib, 0, none⟩)] w fun e w' => (∃ a c, e = .returned (.slice a (came.length - g) c) ∧ IsBytes w a c (came.drop g) ∧ (a = none → c = 0)) ∧ ∃ n, w' = w.drewN n :=
  (held_all w ib m st nd v g came hbox hown hg).mono fun _ _ ⟨⟨a, c, e, h, h2⟩, h3⟩ => ⟨⟨a, c, e, h w hown, h2⟩, h3⟩
end Go.Proofs.Ytcgpfhkndbggiaa
