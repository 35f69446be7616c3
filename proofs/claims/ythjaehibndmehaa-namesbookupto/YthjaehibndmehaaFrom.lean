/-
  A book that was made here.
-/
import Derived.Test.YthjaehibndmehaaBook
namespace Go.Proofs.Ythjaehibndmehaa
open Go.RowKit Go.Maps

structure From (w0 w : World) (b mb n : Nat) (g : Text → Option Int) : Prop where
  q : BookAt w b mb n g
  below : Below w0.heap.size w0 w
  hb : w0.heap.size ≤ b
  hm : w0.heap.size ≤ mb
theorem From.step {w0 w w' : World} {b mb n n' : Nat} {g g' : Text → Option Int} (h : From w0 w b mb n g) (hq : BookAt w' b mb n' g') (hk : Kept (fun k => k = mb) w w') : From w0 w' b mb n' g' :=
  ⟨hq, h.below.trans (hk.below h.below.size (fun k hk e => by have := h.hm; omega)), h.hb, h.hm⟩
theorem newF (w0 w : World) (h : Below w0.heap.size w0 w) : Calls Try.prog 11 #[] w fun e w' => ∃ b mb, e = .returned (.pointer (some ⟨b, 0, none⟩)) ∧ From w0 w' b mb 0 (fun _ => none) := by
  refine (new_any w).mono ?_
  rintro e w' ⟨b, mb, rfl, h1, h2, h3, h4⟩
  have := h.size
  exact ⟨b, mb, rfl, h1, h.trans (h2.mono h.size), by omega, by omega⟩
theorem holdF {w0 w : World} {b mb n : Nat} {g : Text → Option Int} (h : From w0 w b mb n g) (s : ByteArray) (hs : s.size ≤ maxLen) (hn : n < maxLen) (hu : held g s.data.toList < 9223372036854775807) :
    Calls Try.prog 23 #[.pointer (some ⟨b, 0, none⟩), .string s] w fun e w' => e = holdE g s.data.toList ∧ From w0 w' b mb (holdN g n s.data.toList) (holdG g s.data.toList) :=
  (hold_any w b mb n g s h.q hs hn hu).mono fun _ _ ⟨h1, h2, h3⟩ => ⟨h1, h.step h2 h3⟩
theorem dropF {w0 w : World} {b mb n : Nat} {g : Text → Option Int} (h : From w0 w b mb n g) (s : ByteArray) (hs : s.size ≤ maxLen) (hn : n < maxLen) (hu : held g s.data.toList ≤ 9223372036854775807) :
    Calls Try.prog 24 #[.pointer (some ⟨b, 0, none⟩), .string s] w fun e w' => e = dropE g s.data.toList ∧ From w0 w' b mb (dropN g n s.data.toList) (dropG g s.data.toList) :=
  (drop_any w b mb n g s h.q hs hn hu).mono fun _ _ ⟨h1, h2, h3⟩ => ⟨h1, h.step h2 h3⟩
theorem b_not_nil_in (w : World) (d : Nat) (a : Addr) : (Op.equalIn (d + 1) 25 (.pointer (some a)) (.pointer none)).run Try.prog w = .ok false w := by
  simp [Op.equalIn, run_underlying Try.underlying25]
theorem b_not_nil (w : World) (a : Addr) : (binOp .eql 25 (.pointer (some a)) (.pointer none)).run Try.prog w = .ok (.bool false) w := by
  simp only [binOp]
  simp [show Op.equal 25 (.pointer (some a)) (.pointer none) = Op.equalIn (9999 + 1) 25 (.pointer (some a)) (.pointer none) from rfl, b_not_nil_in w 9999 a]
end Go.Proofs.Ythjaehibndmehaa
