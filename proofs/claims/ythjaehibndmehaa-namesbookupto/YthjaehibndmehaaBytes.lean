/-
  Bytes of the call's own, as a text.
-/
import Derived.Test.YthjaehibndmehaaProg
import Derived.WalkKit
import Derived.WalkSpells
import Derived.WalkLawsBesides
namespace Go.Proofs.Ythjaehibndmehaa
open Go.RowKit

/-- The cells of bytes. -/
def u8s (l : List UInt8) : List Value := l.map fun b => Value.int .u8 (b.toNat : Int)

theorem push_all : ∀ (l : List UInt8) (s : ByteArray), (l.map fun b => (b.toNat : Int)).foldl (fun r n => r.push (UInt8.ofNat n.toNat)) s = ⟨s.data ++ l.toArray⟩
  | [], s => by simp
  | c :: r, s => by
    rw [List.map_cons, List.foldl_cons, push_all r]
    have : UInt8.ofNat (Int.toNat (c.toNat : Int)) = c := by simp
    rw [this]
    simp [ByteArray.push]

theorem conv_own {w : World} {B : Nat} {v : Value} (l : List UInt8) (h : w.ownsRow B 5 1 v l.length (u8s l)) :
    (convert 76 9 v).run Try.prog w = .ok (.string ⟨l.toArray⟩) w := by
  have h0 := h
  rcases h.2 with ⟨rfl, hx⟩ | ⟨g, cap, cur, rfl, hb, hg, rest⟩
  · have : l = [] := by cases l with | nil => rfl | cons => simp at hx
    subst this
    rw [run_convert_bytes_string _ _ _ 5 _ _ _ Try.underlying76 Try.underlying5 Try.underlying9]
    rfl
  · rw [run_convert_bytes_string _ _ _ 5 _ _ _ Try.underlying76 Try.underlying5 Try.underlying9]
    have hl := run_loadCells_list (P := Try.prog) w ⟨g, 0, none⟩ (u8s l) (fun j u hj => h0.cells rfl j u hj)
    rw [show (u8s l).length = l.length by simp [u8s]] at hl
    rw [run_bytesToString w ⟨g, 0, none⟩ l.length cap (l.map fun b => (b.toNat : Int)) (by rw [hl]; simp [u8s, Function.comp_def]), push_all]
    simp
end Go.Proofs.Ythjaehibndmehaa
