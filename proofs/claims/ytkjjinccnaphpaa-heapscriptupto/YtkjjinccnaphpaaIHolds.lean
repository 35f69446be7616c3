/-
  The walk of the method holds.
-/
import Derived.Test.YtkjjinccnaphpaaIHeldM
import Derived.Test.YtkjjinccnaphpaaSameL
import Derived.Deep.DeepMust
namespace Go.Proofs.Ytkjjinccnaphpaa
open Go.RowKit Go.Lib

theorem row_shape {w : World} {B e : Nat} {v : Value} {n : Nat} {xs : List Value} (h : w.ownsRow B e 1 v n xs) : ∃ a c, v = .slice a n c ∧ c ≤ maxLen ∧ n ≤ c ∧ (0 < n → ∃ g, a = some ⟨g, 0, none⟩ ∧ v.ownBlock = some g ∧ ∀ (j : Nat) x, xs[j]? = some x → w.cell? ⟨g, j, none⟩ = some x) := by
  rcases h.2 with ⟨rfl, h0⟩ | ⟨g, cap, cur, rfl, hb, hg, hnc, hcm, hcs, htake⟩
  · subst h0; exact ⟨none, 0, rfl, by simp [maxLen], Nat.le_refl _, fun h => by omega⟩
  · refine ⟨_, cap, rfl, hcm, hnc, fun _ => ⟨g, rfl, rfl, fun j x hj => ?_⟩⟩
    have := h.cells (g := g) rfl j x hj
    cases j with
    | zero => simpa [Addr.add] using this
    | succ j => simpa [Addr.add] using this
theorem OwnI.nums {w : World} {B : Nat} {v : Value} {l : List Int} (h : OwnI w B v l) : Nums w B v l := h

set_option maxHeartbeats 2000000 in
set_option maxRecDepth 1000000 in
theorem holds_any (w : World) (B : Nat) (lab : Nat → Tag) (Hb : Nat) (fr : Fx) (ok : Nat → Nat → Prop) (es : List Ent) (h : Held w B lab Hb fr ok es) (hlen : ∀ (j : Nat) e, es[j]? = some e → e.bytes.length ≤ 1073741823) :
    Calls Try.prog 9 #[.pointer (some ⟨Hb, 2, none⟩)] w fun e w' => e = .returned (.bool true) ∧ Below w.heap.size w w' := by
  obtain ⟨vo, vw, hr, hes⟩ := h
  have k0 := hr.cell0
  have k1 := hr.cell1
  obtain ⟨ao, co, rfl, hco, hno, hob⟩ := row_shape hr.2.2.2.1.1
  obtain ⟨aw, cw, rfl, hcw, hnw, hwb⟩ := row_shape hr.2.2.2.2.1
  rw [List.length_map] at k0 k1 hno hnw hob hwb
  unfold maxLen at hco hcw
  have HES : Hid (Ents w B lab ok es ∧ ∀ (j : Nat) e, es[j]? = some e → e.bytes.length ≤ 1073741823) := ⟨hes, hlen⟩
  have HOB : Hid (0 < es.length → ∃ g, ao = some ⟨g, 0, none⟩ ∧ (Value.slice ao es.length co).ownBlock = some g ∧ ∀ (j : Nat) x, (es.map (·.out))[j]? = some x → w.cell? ⟨g, j, none⟩ = some x) := hob
  have HWB : Hid (0 < es.length → ∃ g, aw = some ⟨g, 0, none⟩ ∧ (Value.slice aw es.length cw).ownBlock = some g ∧ ∀ (j : Nat) x, (es.map (·.want))[j]? = some x → w.cell? ⟨g, j, none⟩ = some x) := hwb
  have hl := cell_lt k0
  simp only [] at hl
  clear hr hes hob hwb hlen
  go_enter Try.func9, Try.ntmps9
  go_wp2_with fail
  go_loopg [3, 4, 10] es.length (fun gk _ _ s10 wr => ∃ k : Nat, k ≤ es.length ∧ s10 = .int .i64 (k : Int) ∧ es.length - k ≤ gk ∧ Hid (Below w.heap.size w wr))
  case atStart => exact ⟨0, Nat.zero_le _, rfl, Nat.le_refl _, Below.refl _ _⟩
  case round =>
    obtain ⟨k, hk, rfl, hgk, HB⟩ := hrel
    have q1 : wr.cell? ⟨Hb, 3, none⟩ = some (.slice aw es.length cw) := (HB.out.cell (p := ⟨Hb, 3, none⟩) hl).trans k1
    have hl2 : Hb < wr.heap.size := Nat.lt_of_lt_of_le hl HB.out.size
    by_cases hlt : k < es.length
    · obtain ⟨go, rfl, _, hoc⟩ := HOB.out (by omega)
      obtain ⟨gw, rfl, _, hwc⟩ := HWB.out (by omega)
      obtain ⟨e, he⟩ : ∃ e, es[k]? = some e := ⟨_, List.getElem?_eq_getElem hlt⟩
      have d1 := hoc k e.out (by simp [he])
      have d2 := hwc k e.want (by simp [he])
      have c1 : wr.cell? ⟨go, k, none⟩ = some e.out := (HB.out.cell (p := ⟨go, k, none⟩) (cell_lt d1)).trans d1
      have c2 : wr.cell? ⟨gw, k, none⟩ = some e.want := (HB.out.cell (p := ⟨gw, k, none⟩) (cell_lt d2)).trans d2
      obtain ⟨⟨o1, _⟩, o2, _⟩ := HES.out.1 k e he
      have CS : Hid (Calls Try.prog 33 #[e.out, e.want] wr fun e w' => e = .returned (.bool true) ∧ Below wr.heap.size wr w') := same_any B B e.out e.want e.bytes wr (o1.nums.below HB.out) (o2.nums.below HB.out) (HES.out.2 k e he)
      obtain ⟨a1, e1, h1, _⟩ := o1.shape
      obtain ⟨a2, e2, h2, _⟩ := o2.shape
      rw [h1] at c1 CS
      rw [h2] at c2 CS
      have hki : (k : Int) < (es.length : Int) := by omega
      clear hoc hwc o1 o2 h1 h2 he d1 d2 k0 k1
      go_wp2_with (go_at_call 33; refine CS.out.mono ?_; rintro e w2 ⟨rfl, b2⟩; have B2 : Hid (Below w.heap.size w w2) := HB.out.trans (b2.mono HB.out.size); clear b2)
      go_roundg (es.length - (k + 1))
      case measure => omega
      case rel => exact ⟨k + 1, by omega, by go_num, Nat.le_refl _, B2⟩
    · have t1 : ¬ (k : Int) < (es.length : Int) := by omega
      go_wp2_with fail
      go_ret
      exact ⟨rfl, HB.out⟩
end Go.Proofs.Ytkjjinccnaphpaa
