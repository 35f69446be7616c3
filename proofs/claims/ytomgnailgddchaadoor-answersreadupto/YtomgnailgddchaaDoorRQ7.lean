/-
  The document's reader in memory.
-/
import Derived.Test.YtomgnailgddchaaDoorJF
import Derived.Test.YtomgnailgddchaaDoorJC
import Derived.Test.YtomgnailgddchaaDoorFeedA
import Derived.Test.YtomgnailgddchaaDoorJO
import Derived.Test.YtomgnailgddchaaDoorCutKit
import Derived.Deep.MidRow
namespace Go.Proofs.YtomgnailgddchaaDoor
open Go.RowKit Go.Sort

abbrev PO := Rp × Value × Nat
def oneC (p : PO) : List Value := [.int .i64 p.1.kind, .int .i64 p.1.id, .int .i64 p.1.num, .string ⟨p.1.tube.toArray⟩, p.2.1, .int .i64 (p.2.2 : Int)]
def flatO (P : List PO) : List Value := P.flatMap oneC
theorem flatO_snoc (P : List PO) (p : PO) : flatO (P ++ [p]) = flatO P ++ oneC p := by simp [flatO]
def RcBox (w : World) (rb : Nat) (vl vn : Value) (inB : Bool) (r : Rp) (vb : Value) (left cnt : Int) (bad : Bool) : Prop :=
  w.heap[rb]? = some (.cells #[vl, vn, .bool inB, .int .i64 r.kind, .int .i64 r.id, .int .i64 r.num, .string ⟨r.tube.toArray⟩, vb, .int .i64 left, .int .i64 cnt, .bool bad] 54 (0, 0))
/-- A reader's blocks. -/
def MineD (rb : Nat) (vl vn vb : Value) (P : List PO) (k : Nat) : Prop := k = rb ∨ vl.ownBlock = some k ∨ vn.ownBlock = some k ∨ vb.ownBlock = some k ∨ ∃ p ∈ P, p.2.1.ownBlock = some k
structure RcAt (w : World) (rb : Nat) (vl vn vb : Value) (P : List PO) (d : Dc) : Prop where
  box : RcBox w rb vl vn d.inB d.r vb d.left d.cnt d.bad
  line : Own w 0 vn d.line
  body : Own w 0 vb d.r.body
  row : w.ownsRow 0 60 6 vl P.length (flatO P)
  list : d.L = P.map (fun p => (p.1, p.2.2))
  bodies : ∀ p ∈ P, Own w 0 p.2.1 p.1.body
  apL : ∀ k, vn.ownBlock = some k → vb.ownBlock ≠ some k ∧ ∀ p ∈ P, p.2.1.ownBlock ≠ some k
  apB : ∀ k, vb.ownBlock = some k → ∀ p ∈ P, p.2.1.ownBlock ≠ some k
def WentD (w : World) (rb : Nat) (M : Nat → Prop) (d : Dc) (w' : World) : Prop := ∃ vl vn vb P, RcAt w' rb vl vn vb P d ∧ Kept M w w' ∧ ∀ k, MineD rb vl vn vb P k → M k ∨ w.heap.size ≤ k

section
variable {w w' : World} {rb : Nat} {vl vn vb : Value} {P : List PO} {d : Dc} {inB bad : Bool} {r : Rp} {left cnt : Int}
theorem RcBox.lt (h : RcBox w rb vl vn inB r vb left cnt bad) : rb < w.heap.size := (Array.getElem?_eq_some_iff.1 h).1
theorem RcBox.cell (h : RcBox w rb vl vn inB r vb left cnt bad) : w.cell? ⟨rb, 0, none⟩ = some vl ∧ w.cell? ⟨rb, 1, none⟩ = some vn ∧ w.cell? ⟨rb, 2, none⟩ = some (.bool inB) ∧ w.cell? ⟨rb, 7, none⟩ = some vb ∧ w.cell? ⟨rb, 8, none⟩ = some (.int .i64 left) ∧ w.cell? ⟨rb, 9, none⟩ = some (.int .i64 cnt) ∧ w.cell? ⟨rb, 10, none⟩ = some (.bool bad) :=
  ⟨cells_at h rfl, cells_at h rfl, cells_at h rfl, cells_at h rfl, cells_at h rfl, cells_at h rfl, cells_at h rfl⟩
theorem RcBox.mid (h : RcBox w rb vl vn inB r vb left cnt bad) : w.rangeAt rb 3 [.int .i64 r.kind, .int .i64 r.id, .int .i64 r.num, .string ⟨r.tube.toArray⟩, vb] := by
  intro j v hv
  match j, hv with
  | 0, hv => cases hv; exact cells_at h rfl
  | 1, hv => cases hv; exact cells_at h rfl
  | 2, hv => cases hv; exact cells_at h rfl
  | 3, hv => cases hv; exact cells_at h rfl
  | 4, hv => cases hv; exact cells_at h rfl
theorem RcBox.free (h : RcBox w rb vl vn inB r vb left cnt bad) (j : Nat) : w.frozen? ⟨rb, j, none⟩ = false := by
  unfold RcBox at h
  simp [World.frozen?, h]
theorem RcBox.kept {M : Nat → Prop} (h : RcBox w rb vl vn inB r vb left cnt bad) (hk : Kept M w w') (hP : ¬ M rb) : RcBox w' rb vl vn inB r vb left cnt bad := (hk.block rb h.lt hP).trans h
theorem rowKept {M : Nat → Prop} {e sz n : Nat} {v : Value} {xs : List Value} (h : w.ownsRow 0 e sz v n xs) (hk : Kept M w w') (hP : ∀ k, v.ownBlock = some k → ¬ M k) : w'.ownsRow 0 e sz v n xs := by
  refine ⟨h.1, ?_⟩
  rcases h.2 with h0 | ⟨g, cap, cur, rfl, hb, hg, rest⟩
  · exact .inl h0
  · exact .inr ⟨g, cap, cur, rfl, hb, (hk.block g (Array.getElem?_eq_some_iff.1 hg).1 (hP g rfl)).trans hg, rest⟩
theorem rowLt {e sz n : Nat} {v : Value} {xs : List Value} (h : w.ownsRow 0 e sz v n xs) : ∀ k, v.ownBlock = some k → ∃ cur, w.heap[k]? = some (.cells cur e (0, 0)) := by
  intro k hk
  rcases h.2 with ⟨rfl, _⟩ | ⟨g, cap, cur, rfl, hb, hg, rest⟩
  · cases hk
  · cases hk
    exact ⟨cur, hg⟩
theorem RcAt.lt (h : RcAt w rb vl vn vb P d) : ∀ k, MineD rb vl vn vb P k → k < w.heap.size := by
  have lt2 : ∀ {e sz n : Nat} {v : Value} {xs : List Value}, w.ownsRow 0 e sz v n xs → ∀ k, v.ownBlock = some k → k < w.heap.size := fun h k hk => by
    obtain ⟨cur, hg⟩ := rowLt h k hk
    exact (Array.getElem?_eq_some_iff.1 hg).1
  rintro k (rfl | hk | hk | hk | ⟨p, hp, hk⟩)
  · exact h.box.lt
  · exact lt2 h.row k hk
  · exact lt2 h.line k hk
  · exact lt2 h.body k hk
  · exact lt2 (h.bodies p hp) k hk
theorem RcAt.kept {M : Nat → Prop} (h : RcAt w rb vl vn vb P d) (hk : Kept M w w') (hP : ∀ k, MineD rb vl vn vb P k → ¬ M k) : RcAt w' rb vl vn vb P d :=
  ⟨h.box.kept hk (hP rb (.inl rfl)), rowKept h.line hk (fun k e => hP k (.inr (.inr (.inl e)))), rowKept h.body hk (fun k e => hP k (.inr (.inr (.inr (.inl e))))), rowKept h.row hk (fun k e => hP k (.inr (.inl e))), h.list,
    fun p hp => rowKept (h.bodies p hp) hk (fun k e => hP k (.inr (.inr (.inr (.inr ⟨p, hp, e⟩))))), h.apL, h.apB⟩
theorem RcAt.below (h : RcAt w rb vl vn vb P d) (hb : Below w.heap.size w w') : RcAt w' rb vl vn vb P d := h.kept (Kept.ofBelow (P := fun _ => False) hb) (fun _ _ h => h)
/-- Blocks of unlike things are not one. -/
theorem rowNe {e1 e2 s1 s2 n1 n2 : Nat} {v1 v2 : Value} {x1 x2 : List Value} (h1 : w.ownsRow 0 e1 s1 v1 n1 x1) (h2 : w.ownsRow 0 e2 s2 v2 n2 x2) (hne : e1 ≠ e2) : ∀ k, v1.ownBlock = some k → v2.ownBlock ≠ some k := by
  intro k hk hk2
  obtain ⟨c1, g1⟩ := rowLt h1 k hk
  obtain ⟨c2, g2⟩ := rowLt h2 k hk2
  rw [g1] at g2
  simp at g2
  exact hne g2.2
theorem RcBox.ne (h : RcBox w rb vl vn inB r vb left cnt bad) {e sz n : Nat} {v : Value} {xs : List Value} (h1 : w.ownsRow 0 e sz v n xs) (hne : e ≠ 54) : v.ownBlock ≠ some rb := by
  intro hk
  obtain ⟨c1, g1⟩ := rowLt h1 rb hk
  unfold RcBox at h
  rw [g1] at h
  simp at h
  exact hne h.2
end
theorem WentD.trans {w w1 w2 : World} {rb : Nat} {M M1 : Nat → Prop} {d : Dc} (hk : Kept M w w1) (hn : ∀ k, M1 k → M k ∨ w.heap.size ≤ k) (h : WentD w1 rb M1 d w2) : WentD w rb M d w2 := by
  obtain ⟨vl, vn, vb, P, h2, k2, n2⟩ := h
  refine ⟨vl, vn, vb, P, h2, hk.step k2 (fun j hj h => (hn j h).elim id (fun h => by omega)), fun k h => ?_⟩
  rcases n2 k h with h | h
  · exact hn k h
  · exact .inr (Nat.le_trans hk.size h)

theorem info_oneD : (Tryd.prog.info? 60).map (fun i => (i.zero, i.size, i.bytes)) = some (some (.agg #[.int .i64 0, .int .i64 0, .int .i64 0, .string ⟨#[]⟩, .slice none 0 0, .int .i64 0]), 6, 72) := by kernel_rfl
end Go.Proofs.YtomgnailgddchaaDoor
