/-
  What the walk of AnswersCut wants besides: a list of no replies, Feed at the desk, what is told and where, a block beside the desk.
-/
import Derived.Test.YtaaohoombjlhfaaDoorWrongW
import Derived.Test.YtaaohoombjlhfaaDoorPushR
namespace Go.Proofs.YtaaohoombjlhfaaDoor
open Go.RowKit

theorem reps_nil (w : World) (lo : Nat) (hlo : lo ≤ w.heap.size) : RepsAt (w.alloc (.cells #[] 24)) lo (.slice (some ⟨w.heap.size, 0, none⟩) 0 0) [] :=
  ⟨World.ownsRow_made w #[] 0 hlo (by unfold maxLen; omega) (by simp), fun p hp => by cases hp⟩

theorem feedD {w wx : World} {wb : Nat} {wv : Value} {b : List UInt8} {gw pb : Nat} {pv : Value} {A : List UInt8} {gp : Nat} {v : Value} {P : List (Rp × Value)} (D : Desk w wx wb wv b gw pb pv A gp v P) (hT : Tabs w) (x : List UInt8) (n : Nat) (hn : x.length = n) (a : Option Addr) (c : Nat) (hx : IsBytes wx a c x) (hA : (A ++ x).length ≤ 4294967296) :
    Calls Tryd.prog 29 #[.pointer (some ⟨pb, 0, none⟩), .slice a n c] wx fun e w' => e = .returned (.tuple #[]) ∧ ∃ pv', Desk w w' wb wv b gw pb pv' (A ++ x) gp v P := by
  subst hn
  refine (feed_any wx pb pv A x gp a c D.parts hx hA (hT.below D.below)).mono ?_
  rintro e w' ⟨rfl, pv', h1, h2, h3⟩
  exact ⟨rfl, pv', D.part h1 h2 h3⟩
theorem Told.len {b : List UInt8} : ∀ (l : List Rp) (g g' : Nat), Told b g l g' → g + l.length ≤ g'
  | [], g, g', h => by
    obtain rfl : g' = g := h
    exact Nat.le_refl _
  | x :: l, g, g', h => by
    have h1 := Told.len l _ _ h.2.2
    have h2 := (good_pos h.1).1
    rw [List.length_cons]
    omega
theorem rd_le {w : World} {rb : Nat} {v : Value} {A : List UInt8} {g : Nat} (h : RdAt w rb v A g) : g ≤ A.length := by
  obtain ⟨s, h1, h2, h3, _⟩ := h
  have := h3.bd.le
  have := scan_le A
  omega
theorem rd_next {w : World} {rb : Nat} {v : Value} {A : List UInt8} {g : Nat} (h : RdAt w rb v A g) (hlt : g < (scan A).1) : (readP (A.drop g)).2.2 = 0 := by
  obtain ⟨s, h1, h2, h3, _⟩ := h
  exact (h3.bd.next hlt).1
theorem read_take {b : List UInt8} {n g : Nat} (h0 : (readP ((b.take n).drop g)).2.2 = 0) : readP (b.drop g) = readP ((b.take n).drop g) := by
  have hlt := good_lt h0
  have e : b.drop g = (b.take n).drop g ++ b.drop n := by
    conv => lhs; rw [← List.take_append_drop n b]
    rw [List.drop_append_of_le_length (by omega)]
  rw [e]
  exact read_ext _ _ (by rw [h0]; decide)
theorem take_to (b : List UInt8) (n m : Nat) : b.take n ++ (b.drop n).take m = b.take (n + m) := by rw [List.take_add]
/-- A block that is none of the desk's turns. -/
theorem Desk.aside {w0 w w' : World} {wb : Nat} {wv : Value} {b : List UInt8} {gw pb : Nat} {pv : Value} {A : List UInt8} {gp : Nat} {v : Value} {P : List (Rp × Value)} (h : Desk w0 w wb wv b gw pb pv A gp v P) {y : Nat} (hk : Kept (fun k => k = y) w w') (hlo : w0.heap.size ≤ y)
    (h1 : ¬ Mine wb wv y) (h2 : ¬ Mine pb pv y) (h3 : ¬ v.ownBlock = some y) (h4 : ∀ p ∈ P, ¬ p.2.ownBlock = some y) : Desk w0 w' wb wv b gw pb pv A gp v P := by
  have hs := h.below.size
  refine ⟨h.below.trans (hk.below hs (fun k hk e => by omega)), h.whole.kept hk (fun k hm e => h1 (e ▸ hm)), h.parts.kept hk (fun k hm e => h2 (e ▸ hm)), h.reps.kept hk (fun k e1 e => h3 (e ▸ e1)) (fun p hp k e1 e => h4 p hp (e ▸ e1)), h.ap1, h.ap2, h.low⟩
/-- Five cells of a block are set. -/
theorem setR5 {w : World} {g : Nat} {t : TypeId} {c0 c1 c2 c3 c4 : Value} (v0 v1 v2 v3 v4 : Value) (h : w.heap[g]? = some (.cells #[c0, c1, c2, c3, c4] t (0, 0))) :
    (((((w.setCell ⟨g, 0, none⟩ v0).setCell ⟨g, 1, none⟩ v1).setCell ⟨g, 2, none⟩ v2).setCell ⟨g, 3, none⟩ v3).setCell ⟨g, 4, none⟩ v4).heap[g]? = some (.cells #[v0, v1, v2, v3, v4] t (0, 0)) ∧ Kept (fun k => k = g) w (((((w.setCell ⟨g, 0, none⟩ v0).setCell ⟨g, 1, none⟩ v1).setCell ⟨g, 2, none⟩ v2).setCell ⟨g, 3, none⟩ v3).setCell ⟨g, 4, none⟩ v4) := by
  obtain ⟨a1, b1⟩ := set_cells h 0 v0
  obtain ⟨a2, b2⟩ := set_cells a1 1 v1
  obtain ⟨a3, b3⟩ := set_cells a2 2 v2
  obtain ⟨a4, b4⟩ := set_cells a3 3 v3
  obtain ⟨a5, b5⟩ := set_cells a4 4 v4
  refine ⟨by rw [a5]; simp, ?_⟩
  have kk : ∀ {x y : World}, x.grownBy y (some g) → Kept (fun k => k = g) x y := fun hh => Kept.ofGrown hh (fun k e => by cases e; rfl)
  exact ((((kk b1).trans (kk b2)).trans (kk b3)).trans (kk b4)).trans (kk b5)
/-- All blocks of the desk are the world's. -/
theorem Desk.lt {w0 w : World} {wb : Nat} {wv : Value} {b : List UInt8} {gw pb : Nat} {pv : Value} {A : List UInt8} {gp : Nat} {v : Value} {P : List (Rp × Value)} (h : Desk w0 w wb wv b gw pb pv A gp v P) {y : Nat} (hy : w.heap.size ≤ y) :
    ¬ Mine wb wv y ∧ ¬ Mine pb pv y ∧ ¬ v.ownBlock = some y ∧ ∀ p ∈ P, ¬ p.2.ownBlock = some y := by
  refine ⟨fun e => ?_, fun e => ?_, fun e => ?_, fun p hp e => ?_⟩
  · have := h.whole.lt e
    omega
  · have := h.parts.lt e
    omega
  · obtain ⟨cur, hc, _⟩ := h.reps.block e
    have := (Array.getElem?_eq_some_iff.1 hc).1
    omega
  · have := ((h.reps.body p hp).old y e).2
    omega
/-- The end of the bytes: what is held there, and what it says. -/
theorem end_held {b : List UInt8} {g : Nat} (hg : g = (scan b).1) : heldN b g = (if (scan b).2 = 0 then b.length - g else (scan b).2) := by
  unfold heldN
  split
  · rfl
  · omega
/-- The head of what is still told. -/
theorem Told.head {b : List UInt8} {P : List (Rp × Value)} {k gw gp : Nat} {p : Rp × Value} (h : Told b gw ((P.drop k).map (·.1)) gp) (hp : P[k]? = some p) : (readP (b.drop gw)).2.2 = 0 ∧ (readP (b.drop gw)).1 = p.1 ∧ Told b (gw + (readP (b.drop gw)).2.1) ((P.drop (k + 1)).map (·.1)) gp := by
  obtain ⟨hk, rfl⟩ := List.getElem?_eq_some_iff.1 hp
  rw [List.drop_eq_getElem_cons hk] at h
  exact h
theorem Told.over {b : List UInt8} {P : List (Rp × Value)} {k gw gp : Nat} (h : Told b gw ((P.drop k).map (·.1)) gp) (hp : P.length ≤ k) : gp = gw := by
  rw [List.drop_eq_nil_of_le hp] at h
  exact h
end Go.Proofs.YtaaohoombjlhfaaDoor
