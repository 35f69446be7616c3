/-
  Layer 9: copy of texts onto a list of the call's own; texts that stay as they are.
-/
import Derived.Test.YtimgjbjibkljhaaYMany
import Derived.Test.YtimgjbjibkljhaaCopyB
import Derived.Test.YtimgjbjibkljhaaTexts
namespace Go.Proofs.Ytimgjbjibkljhaa
open Go.RowKit

theorem WnT.ofIs {w : World} {a : Option Addr} {c : Nat} {ts : List ByteArray} (us : List (Nat × Obj)) (h : IsStrs w a c ts) : WnT w us a c ts := fun _ hb _ => h.below hb
theorem WnT.more {w : World} {a : Option Addr} {c : Nat} {ts : List ByteArray} {us vs : List (Nat × Obj)} (h : WnT w us a c ts) (hs : ∀ p ∈ us, p ∈ vs) : WnT w vs a c ts := fun X hb hX => h X hb (fun p hp => hX p (hs p hp))
theorem IsStrs.blk {w w' : World} {a : Option Addr} {c : Nat} {l : List ByteArray} (h : IsStrs w a c l) (hb : ∀ b o, a = some ⟨b, o, none⟩ → b < w.heap.size → w'.heap[b]? = w.heap[b]?) : IsStrs w' a c l := by
  obtain ⟨h1, h2, h3⟩ := h
  refine ⟨h1, h2, ?_⟩
  rcases h3 with h3 | ⟨b, o, rfl, hlt, hc⟩
  · exact .inl h3
  · have e := hb b o rfl hlt
    refine .inr ⟨b, o, rfl, ?_, fun j x hx => (World.cell?_of_block e).trans (hc j x hx)⟩
    have : w.heap[b]? = some w.heap[b] := Array.getElem?_eq_getElem hlt
    rw [this] at e
    exact (Array.getElem?_eq_some_iff.1 e).1
/-- A list of ours, whole. -/
theorem WnT.ofStrs {w W : World} {B : Nat} {v : Value} {ts : List ByteArray} (h : Strs W B v ts) (hl : ts.length ≤ 140737488355328) : ∃ a c vs, v = .slice a ts.length c ∧ WnT w vs a c ts ∧ (∀ p ∈ vs, W.heap[p.1]? = some p.2 ∧ B ≤ p.1 ∧ v.ownBlock = some p.1) := by
  obtain ⟨a, c, rfl, hI⟩ := h.is1 hl
  rcases h.2 with ⟨hv, h0⟩ | ⟨g, cap, cur, hv, hB, hg, _⟩
  · exact ⟨a, c, [], rfl, fun X _ _ => hI.blk (fun b o e _ => by simp at hv; rw [hv.1] at e; cases e), fun p hp => by cases hp⟩
  · simp only [Value.slice.injEq] at hv
    obtain ⟨rfl, _, rfl⟩ := hv
    refine ⟨_, _, [(g, .cells cur 9 (0, 0))], rfl, fun X _ hX => hI.blk (fun b o e _ => ?_), fun p hp => ?_⟩
    · cases e
      rw [hg]
      exact hX (g, _) (by simp)
    · obtain rfl := List.mem_singleton.1 hp
      exact ⟨hg, hB, rfl⟩
/-- 'copy'. -/
theorem wpList_copyT {w : World} {ops : Array Oper} {rest : List Oper} {o : Oper} {a : Act} {Q : Exit → Act → World → Prop} (hgd : o.guard = none) (d s : Operand)
    (ho : o.op = .call { callee := .builtin .copy, args := #[d, s], argTypes := #[22, 22] })
    (B g dc n : Nat) (ts tail us : List ByteArray) (hnt : ts.length = n) (hd : a.eval d = .slice (some ⟨g, 0, none⟩) n dc) (hown : Strs w B (.slice (some ⟨g, 0, none⟩) (ts ++ tail).length dc) (ts ++ tail)) (ad : Option Addr) (c : Nat) (hnu : us.length = n) (hs : a.eval s = .slice ad n c) (hm : IsStrs w ad c us)
    (h : ∀ (r : Int) w', Strs w' B (.slice (some ⟨g, 0, none⟩) (us ++ tail).length dc) (us ++ tail) → Kept (fun k => k = g) w w' → wpList Try.prog ops Q rest (a.put o.dst (goInt r)) w') : wpList Try.prog ops Q (o :: rest) a w := by
  subst hnt
  have hsz : (Try.prog.info? 9).map (·.size) = some 1 := by kernel_rfl
  by_cases h0 : us = []
  · have h1 : ts.length = 0 := by rw [← hnu, h0]; rfl
    obtain rfl : ts = [] := List.eq_nil_of_length_eq_zero h1
    subst h0
    refine wpList_copy_nothing hgd d s 22 22 ho 9 Try.underlying22 hsz _ ad _ dc _ c hd hs (by rfl) ?_
    exact h 0 w hown (Kept.refl _ w)
  · rcases hown.2 with ⟨hv, _⟩ | ⟨g', cap, cur, hv, hB, hg, hnc, hcm, hcs, htake⟩
    · cases hv
    · simp only [Value.slice.injEq, Option.some.injEq, Addr.mk.injEq, and_true] at hv
      obtain ⟨rfl, _, rfl⟩ := hv
      obtain ⟨sb, so, rfl, _, hc⟩ := hm.2.2.resolve_left h0
      have hcs1 : cur.size = dc := by simpa using hcs
      have hlen : (ts ++ tail).length = ts.length + tail.length := List.length_append
      refine wpList_copy_own hgd d s 22 22 ho 9 Try.underlying22 hsz g 0 ts.length dc ⟨sb, so, none⟩ ts.length c hd hs cur 9 hg (us.map Value.string) (by rw [List.length_map, hnu]; simp) (fun j v hj => ?_) (by rw [List.length_map, Nat.zero_add, hcs1]; omega) (fun v hv => by obtain ⟨x, _, rfl⟩ := List.mem_map.1 hv; rfl) ?_
      · rw [List.getElem?_map] at hj
        obtain ⟨x, hx, rfl⟩ := Option.map_eq_some_iff.1 hj
        rw [Go.WideShapes.add_plain]
        exact hc j x hx
      · have hul : (us ++ tail).length = (ts ++ tail).length := by simp [hnu]
        have ht : cur.toList.take (ts ++ tail).length = (ts ++ tail).map Value.string := by simpa using htake
        have hu2 : (us.map Value.string).length = ts.length := by rw [List.length_map, hnu]
        refine h _ _ ⟨by simp, .inr ⟨g, dc, _, rfl, hB, setRow_heap w g cur _ _ _ hg, by rw [hul]; exact hnc, hcm, ?_, ?_⟩⟩ ⟨rfl, rfl, rfl, by simp [World.setRow], fun q _ hq => setRow_other w g q _ hq⟩
        · simp only [List.size_toArray, List.take_zero, List.nil_append, List.length_append, hu2, List.length_drop, Array.length_toList, Nat.zero_add]
          omega
        · rw [hul]
          simp only [List.take_zero, List.nil_append, Nat.zero_add, Nat.mul_one]
          rw [List.take_append, hu2, List.take_of_length_le (by rw [hu2]; omega), List.take_drop, show ts.length + ((ts ++ tail).length - ts.length) = (ts ++ tail).length by omega, ht]
          simp
end Go.Proofs.Ytimgjbjibkljhaa
