/-
  Bytes in memory of the call's own, told cell by cell (also where a text was turned to bytes).
-/
import Derived.Test.YtienggblpmkjjaaDoorKit
import Derived.Laws.IdiomStrings
import Derived.Laws.IdiomCopy
import Derived.Lib.LazyBuf
import Derived.Deep.MidRow
namespace Go.Proofs.YtienggblpmkjjaaDoor
open Go.RowKit

def OwnC (w : World) (B : Nat) (v : Value) (l : List UInt8) : Prop := ∃ g cap, v = .slice (some ⟨g, 0, none⟩) l.length cap ∧ B ≤ g ∧ g < w.heap.size ∧ l.length ≤ cap ∧ cap ≤ maxLen ∧
  (∀ (j : Nat) x, l[j]? = some x → w.cell? ⟨g, j, none⟩ = some (.int .u8 (x.toNat : Int))) ∧ ∀ j, j < cap → (w.cell? ⟨g, j, none⟩).isSome = true ∧ w.frozen? ⟨g, j, none⟩ = false
theorem OwnC.is {w : World} {B : Nat} {v : Value} {l : List UInt8} (h : OwnC w B v l) : ∃ a c, v = .slice a l.length c ∧ IsBytes w a c l ∧ ∀ b' o, a = some ⟨b', o, none⟩ → B ≤ b' := by
  obtain ⟨g, cap, rfl, hB, hg, h1, h2, h3, _⟩ := h
  exact ⟨_, cap, rfl, ⟨h1, h2, .inr ⟨g, 0, rfl, hg, fun j x hj => by rw [Nat.zero_add]; exact h3 j x hj⟩⟩, fun b' o e => by cases e; exact hB⟩
theorem OwnC.below {w w' : World} {B : Nat} {v : Value} {l : List UInt8} (h : OwnC w B v l) (hb : Below w.heap.size w w') : OwnC w' B v l := by
  obtain ⟨g, cap, rfl, hB, hg, h1, h2, h3, h4⟩ := h
  have hblk := hb.block g hg
  refine ⟨g, cap, rfl, hB, Nat.lt_of_lt_of_le hg hb.size, h1, h2, fun j x hj => (World.cell?_of_block hblk).trans (h3 j x hj), fun j hj => ?_⟩
  obtain ⟨q1, q2⟩ := h4 j hj
  refine ⟨by rw [World.cell?_of_block hblk]; exact q1, ?_⟩
  rw [← q2]
  simp only [World.frozen?, hblk]

theorem bytesRow_get (s : ByteArray) (cap j : Nat) (x : UInt8) (h : s.data.toList[j]? = some x) : (bytesRow s cap)[j]? = some (.int .u8 (x.toNat : Int)) := by
  have hj := (List.getElem?_eq_some_iff.1 h).1
  have hj2 : j < s.data.size := by simpa using hj
  unfold bytesRow
  rw [Array.getElem?_append_left (by simpa using hj2), Array.getElem?_map]
  rw [Array.getElem?_toList] at h
  rw [h]
  rfl
theorem conv_bytes (w : World) (s : ByteArray) (hs : s.size ≤ maxLen) : ∃ a c w2, (convert 9 22 (.string s)).run Tryd.prog w = .ok (.slice a s.size c) w2 ∧ OwnC w2 w.heap.size (.slice a s.size c) s.data.toList ∧ Below w.heap.size w w2 := by
  have hcap := grownCap_ge w s.size 0 5
  have hlen : s.data.toList.length = s.size := by simp
  have hnew := heap_alloc_new w.drew (.cells (bytesRow s (grownCap w s.size 0 5)) 5 ((bytesRow s (grownCap w s.size 0 5)).size, (bytesRow s (grownCap w s.size 0 5)).size + 1))
  have hsz : (bytesRow s (grownCap w s.size 0 5)).size = grownCap w s.size 0 5 := by
    unfold bytesRow; simp; omega
  refine ⟨_, _, _, run_bytes_of_string w 9 22 5 s Tryd.underlying9 Tryd.underlying22 Tryd.underlying5, ⟨w.heap.size, _, by rw [hlen], Nat.le_refl _, (by rw [World.size_alloc]; exact Nat.lt_succ_self _), by rw [hlen]; exact hcap, grownCap_le_maxLen w _ _ _ hs, fun j x hj => ?_, fun j hj => ?_⟩, ((Below.refl _ w).drew.alloc (Nat.le_refl _) _)⟩
  · have hnew' : (w.drew.alloc (.cells (bytesRow s (grownCap w s.size 0 5)) 5 ((bytesRow s (grownCap w s.size 0 5)).size, (bytesRow s (grownCap w s.size 0 5)).size + 1))).heap[w.heap.size]? = _ := hnew
    unfold World.cell?
    rw [hnew']
    exact bytesRow_get s _ j x hj
  · have hnew' : (w.drew.alloc (.cells (bytesRow s (grownCap w s.size 0 5)) 5 ((bytesRow s (grownCap w s.size 0 5)).size, (bytesRow s (grownCap w s.size 0 5)).size + 1))).heap[w.heap.size]? = _ := hnew
    constructor
    · unfold World.cell?
      rw [hnew']
      simp [hsz, hj]
    · unfold World.frozen?
      rw [hnew']
      simp [hsz]
      omega

end Go.Proofs.YtienggblpmkjjaaDoor
