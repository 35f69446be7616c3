/-
  A list of texts of the call's own: copied into, written into, cut.
-/
import Derived.Test.YtipbphflboooeaaDoorStrs
import Derived.Test.YtipbphflboooeaaDoorSplit
namespace Go.Proofs.YtipbphflboooeaaDoor
open Go.RowKit

theorem setRow_own {w : World} {B g m cap : Nat} {l l' : List ByteArray} (h : w.ownsRow B 9 1 (.slice (some ⟨g, 0, none⟩) m cap) m (l.map Value.string)) (arr : Array Value)
    (ha : ∀ cur : Array Value, w.heap[g]? = some (.cells cur 9 (0, 0)) → arr.size = cur.size ∧ arr.toList.take m = l'.map Value.string) (hl : l'.length = m) :
    (w.setRow g arr).ownsRow B 9 1 (.slice (some ⟨g, 0, none⟩) m cap) m (l'.map Value.string) ∧ w.grownBy (w.setRow g arr) (some g) := by
  rcases h.2 with ⟨h', _⟩ | ⟨g', cap', cur, h', hb, hg, hnc, hcm, hcs, htake⟩
  · simp at h'
  · simp only [Value.slice.injEq, Option.some.injEq, Addr.mk.injEq, and_true, true_and] at h'
    obtain ⟨rfl, rfl⟩ := h'
    obtain ⟨h1, h2⟩ := ha cur hg
    refine ⟨⟨by simp [hl], .inr ⟨g, cap, arr, rfl, hb, setRow_heap w g cur arr _ _ hg, hnc, hcm, by omega, by rw [Nat.mul_one]; exact h2⟩⟩, ⟨rfl, rfl, rfl, by simp [World.setRow], fun k _ hk => ?_⟩⟩
    simp only [World.setRow, Array.getElem?_modify]
    rw [if_neg (fun e => hk (by rw [e]))]

theorem copy_none (w : World) (ty : TypeId) (d : Addr) (m cap c : Nat) : (Builtin.copy_ #[34, 34] ty #[.slice (some d) m cap, .slice none 0 c]).run Tryd.prog w = .ok (goInt 0) w := by
  obtain ⟨i, hi, hz0, hz1, hz2⟩ := info_parts info_string
  simp [Builtin.copy_, run_underlying Tryd.underlying34, Builtin.lenOf, Builtin.firstCells, sizeOf, typeInfo, hi, storeCells]

/-- 'copy' of a list of texts into the head of one of the call's own that is no shorter. -/
theorem copy_own {w : World} {B g m cap : Nat} {l : List ByteArray} (h : w.ownsRow B 9 1 (.slice (some ⟨g, 0, none⟩) m cap) m (l.map Value.string)) (hl : l.length = m)
    (a : Option Addr) (c : Nat) (ss : List ByteArray) (hs : IsStrs w a c ss) (hle : ss.length ≤ m) :
    ∃ w', (∀ ty, (Builtin.copy_ #[34, 34] ty #[.slice (some ⟨g, 0, none⟩) m cap, .slice a ss.length c]).run Tryd.prog w = .ok (goInt ss.length) w') ∧
      w'.ownsRow B 9 1 (.slice (some ⟨g, 0, none⟩) m cap) m ((ss ++ l.drop ss.length).map Value.string) ∧ w.grownBy w' (some g) := by
  have hkeep : w.grownBy w (some g) := ⟨rfl, rfl, rfl, Nat.le_refl _, fun _ _ _ => rfl⟩
  have row : ∀ ad : Addr, a = some ad → (∀ j v, (ss.map Value.string)[j]? = some v → w.cell? (ad.add j) = some v) → ∃ w', (∀ ty, (Builtin.copy_ #[34, 34] ty #[.slice (some ⟨g, 0, none⟩) m cap, .slice a ss.length c]).run Tryd.prog w = .ok (goInt ss.length) w') ∧
      w'.ownsRow B 9 1 (.slice (some ⟨g, 0, none⟩) m cap) m ((ss ++ l.drop ss.length).map Value.string) ∧ w.grownBy w' (some g) := by
    rintro ad rfl hc
    rcases h.2 with ⟨h', _⟩ | ⟨g', cap', cur, h', hb, hg, hnc, hcm, hcs, htake⟩
    · simp at h'
    · simp only [Value.slice.injEq, Option.some.injEq, Addr.mk.injEq, and_true, true_and] at h'
      obtain ⟨rfl, rfl⟩ := h'
      have hlen : (ss.map Value.string).length = ss.length := by simp
      have hrun := fun ty => run_copy_row (P := Tryd.prog) w 34 34 ty 9 g 0 m cap ad ss.length c cur 9 (ss.map Value.string) Tryd.underlying34 (by kernel_rfl) hg
        (by rw [hlen]; exact (Nat.min_eq_left hle).symm) hc (by simp; omega) (by intro v hv; simp at hv; obtain ⟨x, _, rfl⟩ := hv; rfl)
      rw [hlen] at hrun
      refine ⟨_, hrun, ?_⟩
      refine setRow_own h _ (fun cur' hg' => ?_) (by simp; omega)
      rw [hg] at hg'
      cases hg'
      rw [Nat.mul_one] at htake hcs
      have hcl : cur.toList.length = cap := by simpa using hcs
      refine ⟨by simp; omega, ?_⟩
      simp only [List.take_zero, List.nil_append, Nat.zero_add, List.map_append]
      rw [List.take_append, List.take_of_length_le (by simp; omega), hlen, List.take_drop, Nat.add_comm, Nat.sub_add_cancel hle, htake, List.map_drop]
  rcases a with _ | ad
  · rcases hs.2.2 with rfl | ⟨b, o, ha, _⟩
    · exact ⟨w, fun ty => copy_none w ty _ _ _ _, by simpa using h, hkeep⟩
    · cases ha
  · rcases hs.2.2 with rfl | ⟨b', o', ha, _, hc⟩
    · exact row ad rfl (fun j v hj => by simp at hj)
    · refine row ad rfl (fun j v hj => ?_)
      cases ha
      simp only [List.getElem?_map, Option.map_eq_some_iff] at hj
      obtain ⟨x, hx, rfl⟩ := hj
      have := hc j x hx
      cases j with
      | zero => simpa [Addr.add] using this
      | succ j => simpa [Addr.add] using this

theorem own_below {w w' : World} {B e size n : Nat} {v : Value} {xs : List Value} (h : w.ownsRow B e size v n xs) (hb : Below w.heap.size w w') : w'.ownsRow B e size v n xs := by
  refine ⟨h.1, ?_⟩
  rcases h.2 with h0 | ⟨g, cap, cur, hv, hB, hg, rest⟩
  · exact .inl h0
  · exact .inr ⟨g, cap, cur, hv, hB, (hb.block g (Array.getElem?_eq_some_iff.1 hg).1).trans hg, rest⟩

/-- A store into it. -/
theorem store_own {w : World} {B g m cap : Nat} {l : List ByteArray} (h : w.ownsRow B 9 1 (.slice (some ⟨g, 0, none⟩) m cap) m (l.map Value.string)) (j : Nat) (x : ByteArray) :
    (w.setCell ⟨g, j, none⟩ (.string x)).ownsRow B 9 1 (.slice (some ⟨g, 0, none⟩) m cap) m ((l.set j x).map Value.string) ∧ w.grownBy (w.setCell ⟨g, j, none⟩ (.string x)) (some g) := by
  have := h.stored j (.string x)
  rw [List.map_set]
  exact this

/-- A cell of it. -/
theorem cell_own {w : World} {B g m cap : Nat} {l : List ByteArray} (h : w.ownsRow B 9 1 (.slice (some ⟨g, 0, none⟩) m cap) m (l.map Value.string)) (j : Nat) (x : ByteArray) (hx : l[j]? = some x) (hj : j < m) :
    w.cell? ⟨g, j, none⟩ = some (.string x) := by
  rw [h.cellAt j (by omega), List.getElem?_map, hx]; rfl

/-- Its first n texts. -/
theorem strs_own {w : World} {B g m cap n : Nat} {l : List ByteArray} (h : w.ownsRow B 9 1 (.slice (some ⟨g, 0, none⟩) m cap) m (l.map Value.string)) (hn : n ≤ m) : IsStrs w (some ⟨g, 0, none⟩) cap (l.take n) := by
  have hl : l.length = m := by have := h.1; simpa using this
  rcases h.2 with ⟨h', _⟩ | ⟨g', cap', cur, h', hb, hg, hnc, hcm, hcs, htake⟩
  · simp at h'
  · simp only [Value.slice.injEq, Option.some.injEq, Addr.mk.injEq, and_true, true_and] at h'
    obtain ⟨rfl, rfl⟩ := h'
    refine ⟨by simp; omega, by simp; omega, .inr ⟨g, 0, rfl, (h.lt g rfl).2, fun j x hj => ?_⟩⟩
    have hjn : j < n := by have := (List.getElem?_eq_some_iff.1 hj).1; simp at this; omega
    rw [List.getElem?_take_of_lt hjn] at hj
    rw [Nat.zero_add]
    exact cell_own h j x hj (by omega)
end Go.Proofs.YtipbphflboooeaaDoor
