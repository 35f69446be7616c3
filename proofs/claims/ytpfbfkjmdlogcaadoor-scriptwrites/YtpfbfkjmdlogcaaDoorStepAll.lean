/-
  The words' step, of whatever kind.
-/
import Derived.Test.YtpfbfkjmdlogcaaDoorPlA
import Derived.Test.YtpfbfkjmdlogcaaDoorStF
import Derived.Test.YtpfbfkjmdlogcaaDoorStepFB
import Derived.Test.YtpfbfkjmdlogcaaDoorStepFC
namespace Go.Proofs.YtpfbfkjmdlogcaaDoor
open Go.RowKit

/-- What the words' step answers. -/
def StepOut (W : World) (wb : Nat) (k : Int) (l : List Tx) (e : Ending) (w' : World) : Prop :=
  Kept (fun j => j = wb) W w' ∧ ((∃ p dv kv, stepK k l = some p ∧ p.kind = k ∧ e = .returned (.agg #[.int .i64 k, .int .i64 p.conn, dv, .int .i64 p.brk, kv]) ∧ Own w' W.heap.size dv p.data ∧ OwnI w' W.heap.size kv p.keep) ∨ (stepK k l = none ∧ e = pan 192))
theorem Tabs.form {w : World} (h : Tabs w) : FormAt w 1 true false false false ∧ FormAt w 2 true true true false ∧ FormAt w 3 true false true false ∧ FormAt w 4 false false true false ∧ FormAt w 5 false false false false ∧ FormAt w 6 false false false true ∧ FormAt w 7 false false true false := by
  obtain ⟨t, fz, hl⟩ := h.forms
  refine ⟨⟨⟨#[111, 112, 101, 110]⟩, ?_⟩, ⟨⟨#[102, 101, 101, 100]⟩, ?_⟩, ⟨⟨#[104, 97, 110, 103]⟩, ?_⟩, ⟨⟨#[116, 105, 99, 107]⟩, ?_⟩, ⟨⟨#[100, 114, 97, 105, 110]⟩, ?_⟩, ⟨⟨#[99, 114, 97, 115, 104]⟩, ?_⟩, ⟨⟨#[115, 116, 97, 114, 116]⟩, ?_⟩⟩ <;> simp [World.cell?, hl, formsA]
theorem step_all (W : World) (wb : Nat) (ss : List ByteArray) (k : Int) (hk : 1 ≤ k ∧ k ≤ 7) (T : Tabs W) (h6 : 6 ≤ wb) (h : WordsAt W wb ss) (hl : ss.length ≤ 1048576) (hs : ∀ x ∈ ss, x.size ≤ 1073741823) :
    Calls Tryd.prog 64 #[.pointer (some ⟨wb, 0, none⟩), .int .i64 k] W (StepOut W wb k (tl ss)) := by
  obtain ⟨f1, f2, f3, f4, f5, f6, f7⟩ := T.form
  rcases (show k = (1 : Nat) ∨ k = (2 : Nat) ∨ k = (3 : Nat) ∨ k = (4 : Nat) ∨ k = (5 : Nat) ∨ k = (6 : Nat) ∨ k = (7 : Nat) by omega) with rfl | rfl | rfl | rfl | rfl | rfl | rfl
  · exact step_A W wb ss 1 (by omega) T h6 f1 h hl hs
  · exact step_B W wb ss 2 (by omega) T h6 f2 h hl hs
  · exact step_C W wb ss 3 (by omega) T h6 f3 h hl hs
  · exact step_D W wb ss 4 (by omega) T h6 f4 h hl hs
  · exact step_E W wb ss 5 (by omega) T h6 f5 h hl hs
  · exact step_G W wb ss 6 (by omega) T h6 f6 h hl hs
  · exact step_D W wb ss 7 (by omega) T h6 f7 h hl hs
end Go.Proofs.YtpfbfkjmdlogcaaDoor
