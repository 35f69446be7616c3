/-
  A list of files that is handed in.
-/
import Derived.Test.YtnpofjeiamjioaaAtx
namespace Go.Proofs.Ytnpofjeiamjioaa
open Go.RowKit Go.Maps

/-- A file as it is handed in. -/
structure Rf where
  num : Int
  data : List UInt8
  safe : Int
def raw (f : Fl) : Rf := ⟨f.num, f.data, f.safe⟩
def cook (x : Rf) : Fl := ⟨x.num, x.data, x.safe.toNat⟩
theorem cook_raw (f : Fl) : cook (raw f) = f := by simp [cook, raw]
def totR (R : List Rf) : Nat := (R.map fun x => x.data.length).sum
def chkL : Int → List Rf → Int
  | _, [] => 0
  | last, x :: r => if withinB x.num (last + 1) 1099511627776 = true then (if withinB x.safe 0 (x.data.length : Int) = true then chkL x.num r else 114) else 111
/-- Whether a disk may have that quota and these files. -/
def chk (q : Int) (R : List Rf) : Int := if withinB q 1024 67108864 = true then (if chkL 0 R = 0 then (if q < (totR R : Int) then 115 else 0) else chkL 0 R) else 110

/-- The cells of one. -/
def RawAt (w : World) (b o : Nat) (x : Rf) : Prop :=
  w.cell? ⟨b, o, none⟩ = some (.int .i64 x.num) ∧ (∃ a c, w.cell? ⟨b, o + 1, none⟩ = some (.slice a x.data.length c) ∧ IsBytes w a c x.data) ∧ w.cell? ⟨b, o + 2, none⟩ = some (.int .i64 x.safe)
def rawFits (x : Rf) : Prop := (Lit.int .i64 x.num).wf = true ∧ (Lit.int .i64 x.safe).wf = true
/-- The slice at 'a', of capacity c, has the files R. -/
def IsRaw (w : World) (a : Option Addr) (c : Nat) (R : List Rf) : Prop :=
  R.length ≤ c ∧ c ≤ maxLen ∧ (∀ x ∈ R, rawFits x) ∧ (R = [] ∨ ∃ b o, a = some ⟨b, o, none⟩ ∧ b < w.heap.size ∧ ∀ (j : Nat) x, R[j]? = some x → RawAt w b (o + j * 3) x)
theorem RawAt.below {w w' : World} {b o : Nat} {x : Rf} (h : RawAt w b o x) (hb : b < w.heap.size) (hB : Below w.heap.size w w') : RawAt w' b o x := by
  obtain ⟨h0, ⟨a, c, h1, h2⟩, h3⟩ := h
  exact ⟨(hB.cell (p := ⟨b, o, none⟩) hb).trans h0, ⟨a, c, (hB.cell (p := ⟨b, o + 1, none⟩) hb).trans h1, h2.below hB⟩, (hB.cell (p := ⟨b, o + 2, none⟩) hb).trans h3⟩
theorem IsRaw.below {w w' : World} {a : Option Addr} {c : Nat} {R : List Rf} (h : IsRaw w a c R) (hB : Below w.heap.size w w') : IsRaw w' a c R := by
  obtain ⟨h1, h2, h3, h4⟩ := h
  refine ⟨h1, h2, h3, ?_⟩
  rcases h4 with h | ⟨b, o, ha, hb, hc⟩
  · exact .inl h
  · exact .inr ⟨b, o, ha, Nat.lt_of_lt_of_le hb hB.size, fun j x hj => (hc j x hj).below hb hB⟩
theorem IsRaw.at {w : World} {a : Option Addr} {c : Nat} {R : List Rf} (h : IsRaw w a c R) {j : Nat} {x : Rf} (hx : R[j]? = some x) : ∃ b o, a = some ⟨b, o, none⟩ ∧ b < w.heap.size ∧ RawAt w b (o + j * 3) x := by
  rcases h.2.2.2 with rfl | ⟨b, o, ha, hb, hc⟩
  · simp at hx
  · exact ⟨b, o, ha, hb, hc j x hx⟩

theorem totR_take (R : List Rf) (k : Nat) (x : Rf) (h : R[k]? = some x) : totR (R.take (k + 1)) = totR (R.take k) + x.data.length := by
  unfold totR
  rw [List.take_add_one, h]
  simp
theorem totR_le (R : List Rf) (k : Nat) : totR (R.take k) ≤ totR R := by
  have h : totR R = totR (R.take k) + totR (R.drop k) := by unfold totR; rw [← List.sum_append, ← List.map_append, List.take_append_drop]
  omega
/-- The number ahead of the k-th file. -/
def lastR (R : List Rf) : Nat → Int
  | 0 => 0
  | k + 1 => match R[k]? with | some x => x.num | none => 0
theorem drop_at {α : Type} {R : List α} {k : Nat} {x : α} (h : R[k]? = some x) : R.drop k = x :: R.drop (k + 1) := by
  obtain ⟨hk, rfl⟩ := List.getElem?_eq_some_iff.1 h
  exact List.drop_eq_getElem_cons hk

end Go.Proofs.Ytnpofjeiamjioaa
