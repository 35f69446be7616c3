/-
  The document's disk: what Do shares.
-/
import Derived.Test.YtnpofjeiamjioaaRCra
import Derived.Test.YtnpofjeiamjioaaRPu
import Derived.Test.YtnpofjeiamjioaaRAp
namespace Go.Proofs.Ytnpofjeiamjioaa
open Go.RowKit

/-- What Do leaves. -/
def RDoPost (w : World) (B rb : Nat) (q : Int) (fv : Value) (F : List (Fl × Value)) (r : Int × List Fl) (e : Ending) (w' : World) : Prop :=
  e = .returned (.int .i64 r.1) ∧ Kept (fun g => g = rb ∨ fv.ownBlock = some g) w w' ∧ ∃ fv' G, RfAt w' B rb q fv' G ∧ G.map (·.1) = r.2 ∧ (∀ g, fv'.ownBlock = some g → fv.ownBlock = some g ∨ w.heap.size ≤ g) ∧ NewR w F G
theorem RDoPost.none {w w' : World} {B rb : Nat} {q : Int} {fv : Value} {F : List (Fl × Value)} {r : Int} (h : RfAt w B rb q fv F) (hb : Below w.heap.size w w') : RDoPost w B rb q fv F (r, F.map (·.1)) (.returned (.int .i64 r)) w' :=
  ⟨rfl, Kept.ofBelow hb, fv, F, h.later hb, rfl, fun _ e => .inl e, NewR.refl _ _⟩
theorem RfAt.reset {w w4 : World} {B rb : Nat} {q : Int} {fv v4 : Value} {F G : List (Fl × Value)} (h : RfAt w B rb q fv F) (hb : Below w.heap.size w w4) (ho : w4.ownsRow B 62 3 v4 G.length (flatR G)) (hG : ∀ p ∈ G, Own w4 B p.2 p.1.data) :
    RfAt (w4.setCell ⟨rb, 1, none⟩ v4) B rb q v4 G ∧ Kept (fun g => g = rb) w4 (w4.setCell ⟨rb, 1, none⟩ v4) ∧ w4.frozen? ⟨rb, 1, none⟩ = false ∧ w4.cell? ⟨rb, 1, none⟩ = some fv := by
  have bx := (h.later hb).box
  have ks : Kept (fun g => g = rb) w4 (w4.setCell ⟨rb, 1, none⟩ v4) := Kept.setCell _ _ _ _ _ rfl
  refine ⟨⟨(set_cells bx 1 v4).1, row_keptR ho ks (fun g e e2 => ?_), fun p hp => Kept.own ks (hG p hp) (fun g e e2 => ?_)⟩, ks, by simp [World.frozen?, bx], by simp [World.cell?, bx]⟩
  · obtain ⟨c1, q1⟩ := row_typeR ho e
    rw [e2, bx] at q1
    simp at q1
  · obtain ⟨c1, q1⟩ := row_typeR (hG p hp) e
    rw [e2, bx] at q1
    simp at q1
theorem RfAt.src {w : World} {B rb : Nat} {q : Int} {fa : Option Addr} {n fc : Nat} {F : List (Fl × Value)} (h : RfAt w B rb q (.slice fa n fc) F) : n = F.length ∧ F.length ≤ fc ∧ fc ≤ maxLen ∧ ((fa = none ∧ F = [] ∧ fc = 0) ∨ ∃ g, fa = some ⟨g, 0, none⟩ ∧ ∀ j u, (flatR F)[j]? = some u → w.cell? ⟨g, j, none⟩ = some u) := by
  rcases h.row.2 with ⟨e, h0⟩ | ⟨g, cap, cur, e, _, hg, hnc, hcm, _⟩
  · simp only [Value.slice.injEq] at e
    obtain ⟨rfl, rfl, rfl⟩ := e
    exact ⟨h0.symm, by omega, by simp [maxLen], .inl ⟨rfl, List.eq_nil_of_length_eq_zero h0, rfl⟩⟩
  · simp only [Value.slice.injEq] at e
    obtain ⟨rfl, rfl, rfl⟩ := e
    refine ⟨rfl, hnc, hcm, .inr ⟨g, rfl, fun j u hj => ?_⟩⟩
    have := h.row.cells (g := g) rfl j u hj
    cases j with
    | zero => simpa [Addr.add] using this
    | succ j => simpa [Addr.add] using this
theorem flatR_take (F : List (Fl × Value)) (i j : Nat) (u : Value) (hj : (flatR (F.take i))[j]? = some u) : (flatR F)[j]? = some u := by
  have e : flatR F = flatR (F.take i) ++ flatR (F.drop i) := by rw [← flatR_append, List.take_append_drop]
  rw [e, List.getElem?_append_left (List.getElem?_eq_some_iff.1 hj).1]
  exact hj
theorem flatR_drop (F : List (Fl × Value)) (i j : Nat) (hi : i ≤ F.length) (u : Value) (hj : (flatR (F.drop i))[j]? = some u) : (flatR F)[i * 3 + j]? = some u := by
  have e : flatR F = flatR (F.take i) ++ flatR (F.drop i) := by rw [← flatR_append, List.take_append_drop]
  have hl : (flatR (F.take i)).length = i * 3 := by rw [flatR_length, List.length_take, Nat.min_eq_left hi]
  rw [e, List.getElem?_append_right (by omega), hl, show i * 3 + j - i * 3 = j by omega]
  exact hj
theorem RfAt.one {w : World} {B rb : Nat} {q : Int} {fv : Value} {F : List (Fl × Value)} (h : RfAt w B rb q fv F) : ∀ u ∈ flatR F, u.oneCell' = true := by
  intro u hu
  unfold flatR at hu
  obtain ⟨p, hp, hc⟩ := List.mem_flatMap.1 hu
  obtain ⟨a, c, e, _⟩ := (h.own p hp).shape
  simp [cellR, e] at hc
  rcases hc with rfl | rfl | rfl <;> rfl
theorem flatR_mem_take {F : List (Fl × Value)} {i : Nat} {u : Value} (h : u ∈ flatR (F.take i)) : u ∈ flatR F := by
  unfold flatR at *
  obtain ⟨p, hp, hc⟩ := List.mem_flatMap.1 h
  exact List.mem_flatMap.2 ⟨p, List.mem_of_mem_take hp, hc⟩
theorem flatR_mem_drop {F : List (Fl × Value)} {i : Nat} {u : Value} (h : u ∈ flatR (F.drop i)) : u ∈ flatR F := by
  unfold flatR at *
  obtain ⟨p, hp, hc⟩ := List.mem_flatMap.1 h
  exact List.mem_flatMap.2 ⟨p, List.mem_of_mem_drop hp, hc⟩
/-- The file that stands there. -/
theorem place_is {F : List (Fl × Value)} {n : Int} (hR : Rising (F.map (·.1))) (his : (plP (F.map (·.1)) n).2 = true) :
    ∃ x, F[(plP (F.map (·.1)) n).1]? = some x ∧ (∀ f : Fl, f.num = n → ins (F.map (·.1)) f = (F.map (·.1)).set (plP (F.map (·.1)) n).1 f) ∧ look (F.map (·.1)) n = some x.1 := by
  obtain ⟨f, hl, hf⟩ := (plP_spec (F.map (·.1)) n hR).1 his
  rw [List.getElem?_map] at hf
  cases hx : F[(plP (F.map (·.1)) n).1]? with
  | none => rw [hx] at hf; simp at hf
  | some x =>
    rw [hx] at hf
    simp only [Option.map_some, Option.some.injEq] at hf
    refine ⟨x, rfl, fun f e => ?_, by rw [hl, hf]⟩
    subst e
    exact ins_old (F.map (·.1)) f hR his
end Go.Proofs.Ytnpofjeiamjioaa
