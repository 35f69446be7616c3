/-
  SpA, SpI, SpG.
-/
import Derived.Test.YteaccpolmmkclaaDoorGrX
namespace Go.Proofs.YteaccpolmmkclaaDoor
open Go.RowKit

def skel (P : List Pl) : List (Value × List (Value × Value)) := P.map fun x => (x.sv, x.l.map fun q => (q.dv, q.kv))
/-- Rows of steps, bytes and numbers of some plays lie apart. -/
structure ApS (S : List (Value × List (Value × Value))) : Prop where
  ar : ∀ (i j : Nat) x y, S[i]? = some x → S[j]? = some y → i ≠ j → ∀ g, x.1.ownBlock = some g → y.1.ownBlock ≠ some g
  al : ∀ (i j : Nat) x y (m n : Nat) a b, S[i]? = some x → S[j]? = some y → x.2[m]? = some a → y.2[n]? = some b → ¬ (i = j ∧ m = n) → (∀ g, a.1.ownBlock = some g → b.1.ownBlock ≠ some g) ∧ ∀ g, a.2.ownBlock = some g → b.2.ownBlock ≠ some g
structure Al (w : World) (B : Nat) (P : List Pl) : Prop where
  st : ∀ (i : Nat) x, P[i]? = some x → StepsAt w B x.sv x.l
  ap : ApS (skel P)
theorem clash {w : World} {g : Nat} {c1 c2 : Array Value} {t1 t2 : TypeId} (h1 : w.heap[g]? = some (.cells c1 t1 (0, 0))) (h2 : w.heap[g]? = some (.cells c2 t2 (0, 0))) (ht : t1 ≠ t2) : False := by
  rw [h1] at h2
  simp only [Option.some.injEq, Obj.cells.injEq] at h2
  exact ht h2.2.1
section
variable {w w' : World} {B : Nat} {P : List Pl} {Q : Nat → Prop}
theorem Al.ar (h : Al w B P) {i j : Nat} {x y : Pl} (hx : P[i]? = some x) (hy : P[j]? = some y) (hij : i ≠ j) : ∀ g, x.sv.ownBlock = some g → y.sv.ownBlock ≠ some g :=
  h.ap.ar i j (x.sv, x.l.map fun q => (q.dv, q.kv)) (y.sv, y.l.map fun q => (q.dv, q.kv)) (by simp [skel, hx]) (by simp [skel, hy]) hij
theorem Al.al (h : Al w B P) {i j : Nat} {x y : Pl} {m n : Nat} {a b : Sq} (hx : P[i]? = some x) (hy : P[j]? = some y) (ha : x.l[m]? = some a) (hb : y.l[n]? = some b) (hne : ¬ (i = j ∧ m = n)) : (∀ g, a.dv.ownBlock = some g → b.dv.ownBlock ≠ some g) ∧ ∀ g, a.kv.ownBlock = some g → b.kv.ownBlock ≠ some g :=
  h.ap.al i j (x.sv, x.l.map fun q => (q.dv, q.kv)) (y.sv, y.l.map fun q => (q.dv, q.kv)) m n (a.dv, a.kv) (b.dv, b.kv) (by simp [skel, hx]) (by simp [skel, hy]) (by simp [ha]) (by simp [hb]) hne
/-- Of what type the blocks of a play are. -/
theorem Al.tS (h : Al w B P) {i : Nat} {x : Pl} (hx : P[i]? = some x) {g : Nat} (e : x.sv.ownBlock = some g) : ∃ c, w.heap[g]? = some (.cells c 40 (0, 0)) := row5_type (h.st i x hx).1 e
theorem Al.t8 (h : Al w B P) {i m : Nat} {x : Pl} {a : Sq} (hx : P[i]? = some x) (ha : x.l[m]? = some a) {g : Nat} (e : a.dv.ownBlock = some g) : ∃ c, w.heap[g]? = some (.cells c 5 (0, 0)) := row_of_type ((h.st i x hx).2 a (List.mem_of_getElem? ha)).1 e
theorem Al.t64 (h : Al w B P) {i m : Nat} {x : Pl} {a : Sq} (hx : P[i]? = some x) (ha : x.l[m]? = some a) {g : Nat} (e : a.kv.ownBlock = some g) : ∃ c, w.heap[g]? = some (.cells c 3 (0, 0)) := row_of_type ((h.st i x hx).2 a (List.mem_of_getElem? ha)).2 e
theorem Al.kept (h : Al w B P) (hk : Kept Q w w') (hQ : ∀ g cur t, Q g → w.heap[g]? = some (.cells cur t (0, 0)) → t ≠ 40 ∧ t ≠ 5 ∧ t ≠ 3) : Al w' B P :=
  ⟨fun i x hx => (h.st i x hx).keptT hk hQ, h.ap⟩
theorem Al.later (h : Al w B P) (hb : Below w.heap.size w w') : Al w' B P := ⟨fun i x hx => (h.st i x hx).later hb, h.ap⟩
theorem Al.snoc {w0 : World} (h0 : Al w0 B P) (h : Al w B P) {S : Nat} {x : Pl} (hx : StepsAt w S x.sv x.l) (hS : w0.heap.size ≤ S) (hB : B ≤ S) (ha : ApartS x.l) : Al w B (P ++ [x]) := by
  have key : ∀ (i : Nat) z, (P ++ [x])[i]? = some z → P[i]? = some z ∨ (i = P.length ∧ z = x) := by
    intro i z hz
    by_cases hi : i < P.length
    · rw [List.getElem?_append_left hi] at hz; exact .inl hz
    · rw [List.getElem?_append_right (by omega)] at hz
      have : i - P.length = 0 := by have := (List.getElem?_eq_some_iff.1 hz).1; simp at this; omega
      rw [this] at hz
      simp at hz
      exact .inr ⟨by omega, hz.symm⟩
  have sk : ∀ (i : Nat) z, (skel (P ++ [x]))[i]? = some z → ∃ y, (P ++ [x])[i]? = some y ∧ z = (y.sv, y.l.map fun q => (q.dv, q.kv)) := by
    intro i z hz
    unfold skel at hz
    rw [List.getElem?_map] at hz
    cases hy : (P ++ [x])[i]? with
    | none => rw [hy] at hz; simp at hz
    | some y => rw [hy] at hz; simp at hz; exact ⟨y, rfl, hz.symm⟩
  have hxB : StepsAt w B x.sv x.l := hx.mono hB
  refine ⟨fun i z hz => ?_, ⟨fun i j a b hia hjb hij g e e2 => ?_, fun i j a b m n c d hia hjb hc hd hne => ?_⟩⟩
  · rcases key i z hz with h1 | ⟨_, rfl⟩
    · exact h.st i z h1
    · exact hxB
  · obtain ⟨y, hy, rfl⟩ := sk i a hia
    obtain ⟨z, hz, rfl⟩ := sk j b hjb
    rcases key i y hy with h1 | ⟨e1, rfl⟩
    · rcases key j z hz with h2 | ⟨e3, rfl⟩
      · exact h.ar h1 h2 hij g e e2
      · have := ((h0.st i y h1).1.lt g e).2
        have := (hx.1.lt g e2).1
        omega
    · rcases key j z hz with h2 | ⟨e3, rfl⟩
      · have := ((h0.st j z h2).1.lt g e2).2
        have := (hx.1.lt g e).1
        omega
      · omega
  · obtain ⟨y, hy, rfl⟩ := sk i a hia
    obtain ⟨z, hz, rfl⟩ := sk j b hjb
    have lf : ∀ (l : List Sq) (k : Nat) (u : Value × Value), (l.map fun q => (q.dv, q.kv))[k]? = some u → ∃ q, l[k]? = some q ∧ u = (q.dv, q.kv) := fun l k u hu => by
      rw [List.getElem?_map] at hu
      cases hq : l[k]? with
      | none => rw [hq] at hu; simp at hu
      | some q => rw [hq] at hu; simp at hu; exact ⟨q, rfl, hu.symm⟩
    obtain ⟨qc, hqc, rfl⟩ := lf _ _ _ hc
    obtain ⟨qd, hqd, rfl⟩ := lf _ _ _ hd
    rcases key i y hy with h1 | ⟨e1, rfl⟩
    · have o1 := (h0.st i y h1).2 qc (List.mem_of_getElem? hqc)
      rcases key j z hz with h2 | ⟨e3, rfl⟩
      · exact h.al h1 h2 hqc hqd hne
      · have o2 := hx.2 qd (List.mem_of_getElem? hqd)
        exact ⟨fun g e e2 => by have := (o1.1.lt g e).2; have := (o2.1.lt g e2).1; omega, fun g e e2 => by have := (o1.2.lt g e).2; have := (o2.2.lt g e2).1; omega⟩
    · have o1 := hx.2 qc (List.mem_of_getElem? hqc)
      rcases key j z hz with h2 | ⟨e3, rfl⟩
      · have o2 := (h0.st j z h2).2 qd (List.mem_of_getElem? hqd)
        exact ⟨fun g e e2 => by have := (o1.1.lt g e).1; have := (o2.1.lt g e2).2; omega, fun g e e2 => by have := (o1.2.lt g e).1; have := (o2.2.lt g e2).2; omega⟩
      · exact ha m n qc qd hqc hqd (fun e => hne ⟨by omega, e⟩)
theorem al_nil (w : World) (B : Nat) : Al w B [] := ⟨fun i x hx => by simp at hx, ⟨fun i j x y hx => by simp [skel] at hx, fun i j x y m n a b hx => by simp [skel] at hx⟩⟩
/-- The lists of one step were grown; all read as they read. -/
theorem Al.grew (h : Al w B P) (hk : Kept Q w w') {i k : Nat} {x : Pl} {a : Sq} (hx : P[i]? = some x) (ha : x.l[k]? = some a) (hd : Own w' B a.dv a.p.data) (hkk : OwnI w' B a.kv a.p.keep)
    (hQ : ∀ g, Q g → a.dv.ownBlock = some g ∨ a.kv.ownBlock = some g ∨ ∀ cur t, w.heap[g]? = some (.cells cur t (0, 0)) → t ≠ 40 ∧ t ≠ 5 ∧ t ≠ 3) : Al w' B P := by
  refine ⟨fun j y hy => ⟨row_keptG (h.st j y hy).1 hk (fun g e q => ?_), fun b hb => ?_⟩, h.ap⟩
  · obtain ⟨c, hc⟩ := h.tS hy e
    rcases hQ g q with e1 | e1 | e1
    · obtain ⟨c1, h1⟩ := h.t8 hx ha e1
      exact clash h1 hc (by decide)
    · obtain ⟨c1, h1⟩ := h.t64 hx ha e1
      exact clash h1 hc (by decide)
    · exact (e1 _ _ hc).1 rfl
  · obtain ⟨n, hn⟩ := List.getElem?_of_mem hb
    by_cases hsame : i = j ∧ k = n
    · obtain ⟨rfl, rfl⟩ := hsame
      rw [hx] at hy
      cases hy
      rw [ha] at hn
      cases hn
      exact ⟨hd, hkk⟩
    · have hap := h.al hx hy ha hn hsame
      have hst := (h.st j y hy).2 b hb
      refine ⟨Kept.own hk hst.1 (fun g e q => ?_), Kept.own hk hst.2 (fun g e q => ?_)⟩
      · obtain ⟨c, hc⟩ := h.t8 hy hn e
        rcases hQ g q with e1 | e1 | e1
        · exact hap.1 g e1 e
        · obtain ⟨c1, h1⟩ := h.t64 hx ha e1
          exact clash h1 hc (by decide)
        · exact (e1 _ _ hc).2.1 rfl
      · obtain ⟨c, hc⟩ := h.t64 hy hn e
        rcases hQ g q with e1 | e1 | e1
        · obtain ⟨c1, h1⟩ := h.t8 hx ha e1
          exact clash h1 hc (by decide)
        · exact hap.2 g e1 e
        · exact (e1 _ _ hc).2.2 rfl
/-- The row of steps of one play was grown; all reads as it reads. -/
theorem Al.grewS (h : Al w B P) (hk : Kept Q w w') {i : Nat} {x : Pl} (hx : P[i]? = some x) (hr : w'.ownsRow B 40 5 x.sv x.l.length (flatS x.l))
    (hQ : ∀ g, Q g → x.sv.ownBlock = some g ∨ ∀ cur t, w.heap[g]? = some (.cells cur t (0, 0)) → t ≠ 40 ∧ t ≠ 5 ∧ t ≠ 3) : Al w' B P := by
  refine ⟨fun j y hy => ⟨?_, fun b hb => ?_⟩, h.ap⟩
  · by_cases hij : i = j
    · subst hij
      rw [hx] at hy
      cases hy
      exact hr
    · refine row_keptG (h.st j y hy).1 hk (fun g e q => ?_)
      rcases hQ g q with e1 | e1
      · exact h.ar hx hy hij g e1 e
      · obtain ⟨c, hc⟩ := h.tS hy e
        exact (e1 _ _ hc).1 rfl
  · obtain ⟨n, hn⟩ := List.getElem?_of_mem hb
    have hst := (h.st j y hy).2 b hb
    refine ⟨Kept.own hk hst.1 (fun g e q => ?_), Kept.own hk hst.2 (fun g e q => ?_)⟩
    · obtain ⟨c, hc⟩ := h.t8 hy hn e
      rcases hQ g q with e1 | e1
      · obtain ⟨c1, h1⟩ := h.tS hx e1
        exact clash h1 hc (by decide)
      · exact (e1 _ _ hc).2.1 rfl
    · obtain ⟨c, hc⟩ := h.t64 hy hn e
      rcases hQ g q with e1 | e1
      · obtain ⟨c1, h1⟩ := h.tS hx e1
        exact clash h1 hc (by decide)
      · exact (e1 _ _ hc).2.2 rfl
end
theorem set_same {α : Type} {l : List α} {k : Nat} {a : α} (h : l[k]? = some a) : l.set k a = l := by
  apply List.ext_getElem?
  intro n
  by_cases hn : k = n
  · subst hn
    rw [List.getElem?_set_self (List.getElem?_eq_some_iff.1 h).1, h]
  · rw [List.getElem?_set_ne hn]
/-- A play with one step turned. -/
def Pl.turn (x : Pl) (k : Nat) (a : Sq) (p : StepP) : Pl := ⟨x.j, x.s, x.q, x.sv, x.l.set k ⟨p, a.dv, a.kv⟩⟩
theorem skel_turn {P : List Pl} {i k : Nat} {x : Pl} {a : Sq} (hx : P[i]? = some x) (ha : x.l[k]? = some a) (p : StepP) : skel (P.set i (x.turn k a p)) = skel P := by
  unfold skel
  rw [List.map_set]
  apply set_same
  rw [List.getElem?_map, hx]
  simp only [Option.map_some, Option.some.injEq, Pl.turn, Prod.mk.injEq, true_and]
  rw [List.map_set]
  exact (set_same (by rw [List.getElem?_map, ha]; rfl)).symm
theorem get_turn {P : List Pl} {i : Nat} {z : Pl} {j : Nat} {y : Pl} (hy : (P.set i z)[j]? = some y) : (j = i ∧ y = z) ∨ (j ≠ i ∧ P[j]? = some y) := by
  by_cases hj : j = i
  · subst hj
    have hl : j < (P.set j z).length := (List.getElem?_eq_some_iff.1 hy).1
    rw [List.length_set] at hl
    rw [List.getElem?_set_self hl] at hy
    exact .inl ⟨rfl, (Option.some.inj hy).symm⟩
  · rw [List.getElem?_set_ne (Ne.symm hj)] at hy
    exact .inr ⟨hj, hy⟩
/-- One step of two plays was turned. -/
theorem Al.turn2 {w w' : World} {B : Nat} {P : List Pl} {Q : Nat → Prop} (h : Al w B P) (hk : Kept Q w w') {i i2 k : Nat} {x y : Pl} {a b : Sq} (hne : i ≠ i2) (hx : P[i]? = some x) (hy : P[i2]? = some y) (ha : x.l[k]? = some a) (hb : y.l[k]? = some b) (pa pb : StepP)
    (rx : w'.ownsRow B 40 5 x.sv x.l.length (flatS (x.l.set k ⟨pa, a.dv, a.kv⟩))) (ry : w'.ownsRow B 40 5 y.sv y.l.length (flatS (y.l.set k ⟨pb, b.dv, b.kv⟩))) (oa : Own w' B a.dv pa.data) (ob : Own w' B b.dv pb.data) (na : OwnI w' B a.kv pa.keep) (nb : OwnI w' B b.kv pb.keep)
    (hQ : ∀ g, Q g → (a.dv.ownBlock = some g ∨ b.dv.ownBlock = some g) ∨ (a.kv.ownBlock = some g ∨ b.kv.ownBlock = some g) ∨ x.sv.ownBlock = some g ∨ y.sv.ownBlock = some g) : Al w' B ((P.set i (x.turn k a pa)).set i2 (y.turn k b pb)) := by
  have ty : ∀ g, Q g → (∃ c, w.heap[g]? = some (.cells c 5 (0, 0)) ∧ (a.dv.ownBlock = some g ∨ b.dv.ownBlock = some g)) ∨ (∃ c, w.heap[g]? = some (.cells c 3 (0, 0)) ∧ (a.kv.ownBlock = some g ∨ b.kv.ownBlock = some g)) ∨ ∃ c, w.heap[g]? = some (.cells c 40 (0, 0)) ∧ (x.sv.ownBlock = some g ∨ y.sv.ownBlock = some g) := by
    intro g q
    rcases hQ g q with e | e | e
    · refine .inl ?_
      rcases e with e | e
      · obtain ⟨c, hc⟩ := h.t8 hx ha e
        exact ⟨c, hc, .inl e⟩
      · obtain ⟨c, hc⟩ := h.t8 hy hb e
        exact ⟨c, hc, .inr e⟩
    · refine .inr (.inl ?_)
      rcases e with e | e
      · obtain ⟨c, hc⟩ := h.t64 hx ha e
        exact ⟨c, hc, .inl e⟩
      · obtain ⟨c, hc⟩ := h.t64 hy hb e
        exact ⟨c, hc, .inr e⟩
    · refine .inr (.inr ?_)
      rcases e with e | e
      · obtain ⟨c, hc⟩ := h.tS hx e
        exact ⟨c, hc, .inl e⟩
      · obtain ⟨c, hc⟩ := h.tS hy e
        exact ⟨c, hc, .inr e⟩
  have other : ∀ (j n : Nat) (z : Pl) (q : Sq), P[j]? = some z → z.l[n]? = some q → ¬ (i = j ∧ k = n) → ¬ (i2 = j ∧ k = n) → Own w' B q.dv q.p.data ∧ OwnI w' B q.kv q.p.keep := by
    intro j n z q hz hq h1 h2
    have a1 := h.al hx hz ha hq h1
    have a2 := h.al hy hz hb hq h2
    have hst := (h.st j z hz).2 q (List.mem_of_getElem? hq)
    refine ⟨Kept.own hk hst.1 (fun g e qg => ?_), Kept.own hk hst.2 (fun g e qg => ?_)⟩
    · obtain ⟨c, hc⟩ := h.t8 hz hq e
      rcases ty g qg with ⟨c1, h1, e1 | e1⟩ | ⟨c1, h1, _⟩ | ⟨c1, h1, _⟩
      · exact a1.1 g e1 e
      · exact a2.1 g e1 e
      · exact clash h1 hc (by decide)
      · exact clash h1 hc (by decide)
    · obtain ⟨c, hc⟩ := h.t64 hz hq e
      rcases ty g qg with ⟨c1, h1, _⟩ | ⟨c1, h1, e1 | e1⟩ | ⟨c1, h1, _⟩
      · exact clash h1 hc (by decide)
      · exact a1.2 g e1 e
      · exact a2.2 g e1 e
      · exact clash h1 hc (by decide)
  refine ⟨fun j z hz => ?_, by rw [skel_turn (by rw [List.getElem?_set_ne hne]; exact hy) hb, skel_turn hx ha]; exact h.ap⟩
  rcases get_turn hz with ⟨rfl, rfl⟩ | ⟨hj, hz⟩
  · refine ⟨by simp only [Pl.turn, List.length_set]; exact ry, fun q hq => ?_⟩
    obtain ⟨n, hn⟩ := List.getElem?_of_mem hq
    rcases set_key hn with ⟨rfl, rfl⟩ | ⟨hnk, hn⟩
    · exact ⟨ob, nb⟩
    · exact other j n y q hy hn (fun e => hne e.1) (fun e => hnk e.2.symm)
  · rcases get_turn hz with ⟨rfl, rfl⟩ | ⟨hj2, hz⟩
    · refine ⟨by simp only [Pl.turn, List.length_set]; exact rx, fun q hq => ?_⟩
      obtain ⟨n, hn⟩ := List.getElem?_of_mem hq
      rcases set_key hn with ⟨rfl, rfl⟩ | ⟨hnk, hn⟩
      · exact ⟨oa, na⟩
      · exact other j n x q hx hn (fun e => hnk e.2.symm) (fun e => hne e.1.symm)
    · refine ⟨row_keptG (h.st j z hz).1 hk (fun g e qg => ?_), fun q hq => ?_⟩
      · obtain ⟨c, hc⟩ := h.tS hz e
        rcases ty g qg with ⟨c1, h1, _⟩ | ⟨c1, h1, _⟩ | ⟨c1, h1, e1 | e1⟩
        · exact clash h1 hc (by decide)
        · exact clash h1 hc (by decide)
        · exact h.ar hx hz (fun e => hj2 e.symm) g e1 e
        · exact h.ar hy hz (fun e => hj e.symm) g e1 e
      · obtain ⟨n, hn⟩ := List.getElem?_of_mem hq
        exact other j n z q hz hn (fun e => hj2 e.1.symm) (fun e => hj e.1.symm)
end Go.Proofs.YteaccpolmmkclaaDoor

namespace Go.Proofs.YteaccpolmmkclaaDoor
open Go.RowKit

/-- The blocks of the plays. -/
def SpQ (S : List (Value × List (Value × Value))) (g : Nat) : Prop := ∃ (i : Nat) (x : Value × List (Value × Value)), S[i]? = some x ∧ (x.1.ownBlock = some g ∨ ∃ (m : Nat) (a : Value × Value), x.2[m]? = some a ∧ (a.1.ownBlock = some g ∨ a.2.ownBlock = some g))
theorem skel_at {P : List Pl} {i : Nat} {x : Pl} (hx : P[i]? = some x) : (skel P)[i]? = some (x.sv, x.l.map fun q => (q.dv, q.kv)) := by simp [skel, hx]
theorem SpQ.sv {P : List Pl} {i g : Nat} {x : Pl} (hx : P[i]? = some x) (e : x.sv.ownBlock = some g) : SpQ (skel P) g := ⟨i, _, skel_at hx, .inl e⟩
theorem SpQ.dv {P : List Pl} {i k g : Nat} {x : Pl} {a : Sq} (hx : P[i]? = some x) (ha : x.l[k]? = some a) (e : a.dv.ownBlock = some g) : SpQ (skel P) g := ⟨i, _, skel_at hx, .inr ⟨k, (a.dv, a.kv), by simp [ha], .inl e⟩⟩
theorem SpQ.kv {P : List Pl} {i k g : Nat} {x : Pl} {a : Sq} (hx : P[i]? = some x) (ha : x.l[k]? = some a) (e : a.kv.ownBlock = some g) : SpQ (skel P) g := ⟨i, _, skel_at hx, .inr ⟨k, (a.dv, a.kv), by simp [ha], .inr e⟩⟩
/-- What is said of a block of a play. -/
theorem Al.sq {w : World} {B : Nat} {P : List Pl} (h : Al w B P) {g : Nat} (hg : SpQ (skel P) g) : B ≤ g ∧ g < w.heap.size ∧ ∃ c t, w.heap[g]? = some (.cells c t (0, 0)) ∧ (t = 40 ∨ t = 5 ∨ t = 3) := by
  obtain ⟨i, x, hx, h2⟩ := hg
  unfold skel at hx
  rw [List.getElem?_map] at hx
  cases hy : P[i]? with
  | none => rw [hy] at hx; simp at hx
  | some y =>
    rw [hy] at hx
    simp at hx
    subst hx
    rcases h2 with e | ⟨m, a, ha, e⟩
    · obtain ⟨c, hc⟩ := h.tS hy e
      have := (h.st i y hy).1.lt g e
      exact ⟨this.1, this.2, c, _, hc, .inl rfl⟩
    · rw [List.getElem?_map] at ha
      cases hq : y.l[m]? with
      | none => rw [hq] at ha; simp at ha
      | some q =>
        rw [hq] at ha
        simp at ha
        subst ha
        have hst := (h.st i y hy).2 q (List.mem_of_getElem? hq)
        rcases e with e | e
        · obtain ⟨c, hc⟩ := h.t8 hy hq e
          have := hst.1.lt g e
          exact ⟨this.1, this.2, c, _, hc, .inr (.inl rfl)⟩
        · obtain ⟨c, hc⟩ := h.t64 hy hq e
          have := hst.2.lt g e
          exact ⟨this.1, this.2, c, _, hc, .inr (.inr rfl)⟩
theorem BkAt.keptT {w w' : World} {B hb : Nat} {ov wv : Value} {O Wn : List Pl} {Q : Nat → Prop} (h : BkAt w B hb ov wv O Wn) (hk : Kept Q w w') (hQ : ∀ g, Q g → ∃ c t, w.heap[g]? = some (.cells c t (0, 0)) ∧ t ≠ 26 ∧ t ≠ 31) : BkAt w' B hb ov wv O Wn :=
  h.kept hk (fun g hg q => by
    obtain ⟨c, t, hc, h1, h2⟩ := hQ g q
    obtain ⟨c2, t2, hc2, h3⟩ := h.typ hg
    rw [hc] at hc2
    simp only [Option.some.injEq, Obj.cells.injEq] at hc2
    rcases h3 with e | e
    · exact h1 (hc2.2.1.trans e)
    · exact h2 (hc2.2.1.trans e))
theorem flatP_set {L : List Pl} {i : Nat} {x z : Pl} (hx : L[i]? = some x) (hz : plCells z = plCells x) : flatP (L.set i z) = flatP L := by
  unfold flatP
  rw [List.flatMap_def, List.flatMap_def, List.map_set, hz, set_same (by rw [List.getElem?_map, hx]; rfl)]
theorem BkAt.re {w : World} {B hb : Nat} {ov wv : Value} {O Wn O' Wn' : List Pl} (h : BkAt w B hb ov wv O Wn) (h1 : O'.length = O.length) (h2 : flatP O' = flatP O) (h3 : Wn'.length = Wn.length) (h4 : flatP Wn' = flatP Wn) : BkAt w B hb ov wv O' Wn' :=
  ⟨h.box, by rw [h1, h2]; exact h.out, by rw [h3, h4]; exact h.want, h.ne⟩
/-- What is kept and what is wanted, without memory. -/
structure AgP (O Wn : List Pl) : Prop where
  len : O.length = Wn.length
  all : ∀ (i : Nat) (x y : Pl), O[i]? = some x → Wn[i]? = some y → x.j = y.j ∧ x.s = y.s ∧ x.q = y.q ∧ x.l.map (·.p) = y.l.map (·.p)
  few : ∀ (i : Nat) (x : Pl), O[i]? = some x → x.l.length ≤ 4000 ∧ ∀ q ∈ x.l, q.p.data.length ≤ 2147483647 ∧ q.p.keep.length ≤ 2147483647
def mkS (n : Nat) (p : StepP) : StepP := ⟨-(n : Int), p.conn, List.replicate p.data.length (mk1 n), p.brk, List.replicate p.keep.length (-(n : Int))⟩
theorem map_setSp {l : List Sq} {k : Nat} {z : Sq} : (l.set k z).map (·.p) = (l.map (·.p)).set k z.p := by rw [List.map_set]
theorem AgP.mark {O Wn : List Pl} (h : AgP O Wn) {i k n : Nat} {x y : Pl} {a b : Sq} (hx : O[i]? = some x) (hy : Wn[i]? = some y) (hpp : a.p = b.p) (ha : x.l[k]? = some a) : AgP (O.set i (x.turn k a (mkS n a.p))) (Wn.set i (y.turn k b (mkS n b.p))) := by
  refine ⟨by simp [h.len], fun j u v hu hv => ?_, fun j u hu => ?_⟩
  · rcases get_turn hu with ⟨rfl, rfl⟩ | ⟨hj, hu⟩
    · rcases get_turn hv with ⟨_, rfl⟩ | ⟨hj, _⟩
      · obtain ⟨e1, e2, e3, e4⟩ := h.all j x y hx hy
        refine ⟨e1, e2, e3, ?_⟩
        simp only [Pl.turn]
        rw [map_setSp, map_setSp, e4, hpp]
      · exact absurd rfl hj
    · rcases get_turn hv with ⟨e, _⟩ | ⟨_, hv⟩
      · exact absurd e hj
      · exact h.all j u v hu hv
  · rcases get_turn hu with ⟨rfl, rfl⟩ | ⟨hj, hu⟩
    · refine ⟨by simp only [Pl.turn, List.length_set]; exact (h.few j x hx).1, fun q hq => ?_⟩
      simp only [Pl.turn] at hq
      obtain ⟨m, hm⟩ := List.getElem?_of_mem hq
      rcases set_key hm with ⟨rfl, rfl⟩ | ⟨_, hm⟩
      · have := (h.few j x hx).2 a (List.mem_of_getElem? ha)
        simpa [mkS] using this
      · exact (h.few j x hx).2 q (List.mem_of_getElem? hm)
    · exact h.few j u hu
/-- Where spoil is while it marks. -/
structure SpI (W w : World) (B Bb hb : Nat) (ov wv : Value) (O Wn : List Pl) (S : List (Value × List (Value × Value))) : Prop where
  bk : BkAt w Bb hb ov wv O Wn
  al : Al w B (O ++ Wn)
  ag : AgP O Wn
  sk : skel (O ++ Wn) = S
  kept : Kept (SpQ S) W w
section
variable {W w w' : World} {B Bb hb : Nat} {ov wv : Value} {O Wn : List Pl} {S : List (Value × List (Value × Value))}
theorem SpI.later (h : SpI W w B Bb hb ov wv O Wn S) (hb' : Below w.heap.size w w') : SpI W w' B Bb hb ov wv O Wn S := ⟨h.bk.later hb', h.al.later hb', h.ag, h.sk, h.kept.trans (Kept.ofBelow hb')⟩
theorem SpI.agree (h : SpI W w B Bb hb ov wv O Wn S) : Agree w O Wn := by
  refine ⟨h.ag.len, fun i x y hx hy => ?_⟩
  obtain ⟨e1, e2, e3, e4⟩ := h.ag.all i x y hx hy
  have hi := (List.getElem?_eq_some_iff.1 hx).1
  have h1 := h.al.st i x (by rw [List.getElem?_append_left hi]; exact hx)
  have h2 := h.al.st (O.length + i) y (by rw [List.getElem?_append_right (by omega), Nat.add_sub_cancel_left]; exact hy)
  have l1 := (h.ag.few i x hx).1
  have l2 : y.l.length ≤ 4000 := by have := congrArg List.length e4; simp at this; omega
  exact ⟨e1, e2, e3, steps_in h1 l1, steps_in h2 l2, e4⟩
/-- The plays and steps at a place. -/
theorem SpI.at (h : SpI W w B Bb hb ov wv O Wn S) {i : Nat} (hi : i < O.length) : ∃ x y, O[i]? = some x ∧ Wn[i]? = some y ∧ (O ++ Wn)[i]? = some x ∧ (O ++ Wn)[O.length + i]? = some y ∧ y.l.length = x.l.length := by
  obtain ⟨x, hx⟩ : ∃ x, O[i]? = some x := ⟨_, List.getElem?_eq_getElem hi⟩
  obtain ⟨y, hy⟩ : ∃ y, Wn[i]? = some y := ⟨_, List.getElem?_eq_getElem (by have := h.ag.len; omega)⟩
  have e4 := (h.ag.all i x y hx hy).2.2.2
  exact ⟨x, y, hx, hy, by rw [List.getElem?_append_left hi]; exact hx, by rw [List.getElem?_append_right (by omega), Nat.add_sub_cancel_left]; exact hy, by have := congrArg List.length e4; simpa using this.symm⟩
theorem row5_at {v : Value} {l : List Sq} (h : w.ownsRow B 40 5 v l.length (flatS l)) {i : Nat} {x : Sq} (hx : l[i]? = some x) : ∃ g c, v = .slice (some ⟨g, 0, none⟩) l.length c ∧ w.cell? ⟨g, i * 5, none⟩ = some (.int .i64 x.p.kind) ∧ w.cell? ⟨g, i * 5 + 1, none⟩ = some (.int .i64 x.p.conn) ∧ w.cell? ⟨g, i * 5 + 2, none⟩ = some x.dv ∧ w.cell? ⟨g, i * 5 + 3, none⟩ = some (.int .i64 x.p.brk) ∧ w.cell? ⟨g, i * 5 + 4, none⟩ = some x.kv ∧ ∀ j, w.frozen? ⟨g, j, none⟩ = false := by
  have hl : 0 < l.length := by have := (List.getElem?_eq_some_iff.1 hx).1; omega
  rcases h.2 with ⟨_, h0⟩ | ⟨g, c, cur, rfl, _, hg, _⟩
  · omega
  · have hc : ∀ k v, k < 5 → (sqCells x)[k]? = some v → w.cell? ⟨g, i * 5 + k, none⟩ = some v := fun k v hk hv => by
      have := h.cells (g := g) rfl (i * 5 + k) v (flat_at l i x hx k hk v hv)
      generalize i * 5 + k = n at this ⊢
      cases n with
      | zero => simpa [Addr.add] using this
      | succ n => simpa [Addr.add] using this
    exact ⟨g, c, rfl, hc 0 _ (by omega) rfl, hc 1 _ (by omega) rfl, hc 2 _ (by omega) rfl, hc 3 _ (by omega) rfl, hc 4 _ (by omega) rfl, fun j => by simp [World.frozen?, hg]⟩
/-- A step was marked, and its kind. -/
theorem SpI.mark {w1 : World} (h : SpI W w B Bb hb ov wv O Wn S) {i k n : Nat} {x y : Pl} {a b : Sq} (hi : i < O.length) (hx : O[i]? = some x) (hy : Wn[i]? = some y) (ha : x.l[k]? = some a) (hb' : y.l[k]? = some b) (hpp : a.p = b.p)
    {gx gy nx ny cx cy : Nat} (ex : x.sv = .slice (some ⟨gx, 0, none⟩) nx cx) (ey : y.sv = .slice (some ⟨gy, 0, none⟩) ny cy) (km : Kept (MB a.dv a.kv b.dv b.kv) w w1)
    (oa : Own w1 B a.dv (List.replicate a.p.data.length (mk1 n))) (ob : Own w1 B b.dv (List.replicate a.p.data.length (mk1 n))) (na : OwnI w1 B a.kv (List.replicate a.p.keep.length (-(n : Int)))) (nb : OwnI w1 B b.kv (List.replicate a.p.keep.length (-(n : Int)))) :
    w1.cell? ⟨gx, k * 5, none⟩ = some (.int .i64 a.p.kind) ∧ w1.frozen? ⟨gx, k * 5, none⟩ = false ∧ (w1.setCell ⟨gx, k * 5, none⟩ (.int .i64 (-(n : Int)))).cell? ⟨gy, k * 5, none⟩ = some (.int .i64 b.p.kind) ∧ (w1.setCell ⟨gx, k * 5, none⟩ (.int .i64 (-(n : Int)))).frozen? ⟨gy, k * 5, none⟩ = false ∧
    BkAt w1 Bb hb ov wv O Wn ∧ BkAt (w1.setCell ⟨gx, k * 5, none⟩ (.int .i64 (-(n : Int)))) Bb hb ov wv O Wn ∧
    SpI W ((w1.setCell ⟨gx, k * 5, none⟩ (.int .i64 (-(n : Int)))).setCell ⟨gy, k * 5, none⟩ (.int .i64 (-(n : Int)))) B Bb hb ov wv (O.set i (x.turn k a (mkS n a.p))) (Wn.set i (y.turn k b (mkS n b.p))) S := by
  have hX : (O ++ Wn)[i]? = some x := by rw [List.getElem?_append_left hi]; exact hx
  have hY : (O ++ Wn)[O.length + i]? = some y := by rw [List.getElem?_append_right (by omega), Nat.add_sub_cancel_left]; exact hy
  have rowx := (h.al.st _ _ hX).1
  have rowy := (h.al.st _ _ hY).1
  have hkx := (List.getElem?_eq_some_iff.1 ha).1
  have hky := (List.getElem?_eq_some_iff.1 hb').1
  have nx1 : ∀ g, x.sv.ownBlock = some g → ¬ MB a.dv a.kv b.dv b.kv g := fun g e q => by
    obtain ⟨c, hc⟩ := h.al.tS hX e
    rcases q with q | q | q | q
    · obtain ⟨c1, h1⟩ := h.al.t8 hX ha q; exact clash h1 hc (by decide)
    · obtain ⟨c1, h1⟩ := h.al.t8 hY hb' q; exact clash h1 hc (by decide)
    · obtain ⟨c1, h1⟩ := h.al.t64 hX ha q; exact clash h1 hc (by decide)
    · obtain ⟨c1, h1⟩ := h.al.t64 hY hb' q; exact clash h1 hc (by decide)
  have ny1 : ∀ g, y.sv.ownBlock = some g → ¬ MB a.dv a.kv b.dv b.kv g := fun g e q => by
    obtain ⟨c, hc⟩ := h.al.tS hY e
    rcases q with q | q | q | q
    · obtain ⟨c1, h1⟩ := h.al.t8 hX ha q; exact clash h1 hc (by decide)
    · obtain ⟨c1, h1⟩ := h.al.t8 hY hb' q; exact clash h1 hc (by decide)
    · obtain ⟨c1, h1⟩ := h.al.t64 hX ha q; exact clash h1 hc (by decide)
    · obtain ⟨c1, h1⟩ := h.al.t64 hY hb' q; exact clash h1 hc (by decide)
  have rx1 := row_keptG rowx km nx1
  have ry1 := row_keptG rowy km ny1
  have gxy : ¬ gy = gx := fun e => h.al.ar hX hY (by omega) gx (by rw [ex]; rfl) (by rw [ey, e]; rfl)
  obtain ⟨gx', cx', ex', kx0, _, _, _, _, fx⟩ := row5_at rx1 ha
  obtain ⟨gy', cy', ey', ky0, _, _, _, _, fy⟩ := row5_at ry1 hb'
  rw [ex] at ex'
  rw [ey] at ey'
  simp only [Value.slice.injEq, Option.some.injEq, Addr.mk.injEq, and_true] at ex' ey'
  obtain ⟨rfl, enx, rfl⟩ := ex'
  obtain ⟨rfl, eny, rfl⟩ := ey'
  subst enx eny
  have ks1 : Kept (fun g => g = gx) w1 (w1.setCell ⟨gx, k * 5, none⟩ (.int .i64 (-(n : Int)))) := Kept.setCell _ _ _ _ _ rfl
  rw [ex] at rx1
  rw [ey] at ry1
  have sx := (rx1.stored (k * 5) (.int .i64 (-(n : Int)))).1
  have za : sqCells (⟨mkS n a.p, a.dv, a.kv⟩ : Sq) = (sqCells a).set 0 (.int .i64 (-(n : Int))) := rfl
  have zb : sqCells (⟨mkS n b.p, b.dv, b.kv⟩ : Sq) = (sqCells b).set 0 (.int .i64 (-(n : Int))) := rfl
  have fsx := flat_set x.l k 0 a ⟨mkS n a.p, a.dv, a.kv⟩ ha (.int .i64 (-(n : Int))) (by omega) za
  have fsy := flat_set y.l k 0 b ⟨mkS n b.p, b.dv, b.kv⟩ hb' (.int .i64 (-(n : Int))) (by omega) zb
  rw [Nat.add_zero] at fsx fsy
  rw [fsx] at sx
  have ry2 := row_keptG ry1 ks1 (fun g e e2 => gxy (by simp [Value.ownBlock] at e; omega))
  obtain ⟨gy', cy', ey', ky2, _, _, _, _, fy2⟩ := row5_at ry2 hb'
  simp only [Value.slice.injEq, Option.some.injEq, Addr.mk.injEq, and_true, true_and] at ey'
  obtain ⟨rfl, rfl⟩ := ey'
  have ks2 : Kept (fun g => g = gy) (w1.setCell ⟨gx, k * 5, none⟩ (.int .i64 (-(n : Int)))) ((w1.setCell ⟨gx, k * 5, none⟩ (.int .i64 (-(n : Int)))).setCell ⟨gy, k * 5, none⟩ (.int .i64 (-(n : Int)))) := Kept.setCell _ _ _ _ _ rfl
  have sy := (ry2.stored (k * 5) (.int .i64 (-(n : Int)))).1
  rw [fsy] at sy
  have sx2 := row_keptG sx ks2 (fun g e e2 => gxy (by simp [Value.ownBlock] at e; omega))
  have K : Kept (fun g => (a.dv.ownBlock = some g ∨ b.dv.ownBlock = some g) ∨ (a.kv.ownBlock = some g ∨ b.kv.ownBlock = some g) ∨ x.sv.ownBlock = some g ∨ y.sv.ownBlock = some g) w ((w1.setCell ⟨gx, k * 5, none⟩ (.int .i64 (-(n : Int)))).setCell ⟨gy, k * 5, none⟩ (.int .i64 (-(n : Int)))) := by
    refine ((km.mono (fun g _ q => ?_)).trans (ks1.mono (fun g _ e => .inr (.inr (.inl (by rw [ex, e]; rfl)))))).trans (ks2.mono (fun g _ e => .inr (.inr (.inr (by rw [ey, e]; rfl)))))
    rcases q with q | q | q | q
    · exact .inl (.inl q)
    · exact .inl (.inr q)
    · exact .inr (.inl (.inl q))
    · exact .inr (.inl (.inr q))
  have n8x : ∀ {w2 : World} {v u : Value} {z : List UInt8} {xs : List Value} {m : Nat}, Own w2 B v z → w2.ownsRow B 40 5 u m xs → ∀ g, v.ownBlock = some g → u.ownBlock ≠ some g := fun h1 h2 g e e2 => by
    obtain ⟨c1, q1⟩ := row_of_type h1 e
    obtain ⟨c2, q2⟩ := row5_type h2 e2
    exact clash q1 q2 (by decide)
  have n64x : ∀ {w2 : World} {v u : Value} {z : List Int} {xs : List Value} {m : Nat}, OwnI w2 B v z → w2.ownsRow B 40 5 u m xs → ∀ g, v.ownBlock = some g → u.ownBlock ≠ some g := fun h1 h2 g e e2 => by
    obtain ⟨c1, q1⟩ := row_of_type h1 e
    obtain ⟨c2, q2⟩ := row5_type h2 e2
    exact clash q1 q2 (by decide)
  have o8 : ∀ {v : Value} {z : List UInt8}, Own w1 B v z → Own ((w1.setCell ⟨gx, k * 5, none⟩ (.int .i64 (-(n : Int)))).setCell ⟨gy, k * 5, none⟩ (.int .i64 (-(n : Int)))) B v z := fun {v z} ho => by
    have h1 : Own (w1.setCell ⟨gx, k * 5, none⟩ (.int .i64 (-(n : Int)))) B v z := Kept.own ks1 ho (fun g e e2 => n8x ho rx1 g e (by rw [e2]; rfl))
    exact Kept.own ks2 h1 (fun g e e2 => n8x h1 ry2 g e (by rw [e2]; rfl))
  have o64 : ∀ {v : Value} {z : List Int}, OwnI w1 B v z → OwnI ((w1.setCell ⟨gx, k * 5, none⟩ (.int .i64 (-(n : Int)))).setCell ⟨gy, k * 5, none⟩ (.int .i64 (-(n : Int)))) B v z := fun {v z} ho => by
    have h1 : OwnI (w1.setCell ⟨gx, k * 5, none⟩ (.int .i64 (-(n : Int)))) B v z := Kept.own ks1 ho (fun g e e2 => n64x ho rx1 g e (by rw [e2]; rfl))
    exact Kept.own ks2 h1 (fun g e e2 => n64x h1 ry2 g e (by rw [e2]; rfl))
  have AL := h.al.turn2 K (i := i) (i2 := O.length + i) (k := k) (by omega) hX hY ha hb' (mkS n a.p) (mkS n b.p) (by rw [ex]; exact sx2) (by rw [ey]; exact sy) (o8 oa) (o8 (by rw [← hpp]; exact ob)) (o64 na) (o64 (by rw [← hpp]; exact nb)) (fun g q => q)
  have hset : ((O ++ Wn).set i (x.turn k a (mkS n a.p))).set (O.length + i) (y.turn k b (mkS n b.p)) = O.set i (x.turn k a (mkS n a.p)) ++ Wn.set i (y.turn k b (mkS n b.p)) := by
    rw [List.set_append_left _ _ hi, List.set_append_right _ _ (by simp), List.length_set, Nat.add_sub_cancel_left]
  rw [hset] at AL
  have hSk : skel (O.set i (x.turn k a (mkS n a.p)) ++ Wn.set i (y.turn k b (mkS n b.p))) = S := by
    rw [← hset, skel_turn (by rw [List.getElem?_set_ne (by omega)]; exact hY) hb', skel_turn hX ha]
    exact h.sk
  have bkT : ∀ {Q : Nat → Prop} {w2 w3 : World}, BkAt w2 Bb hb ov wv O Wn → Kept Q w2 w3 → (∀ g, Q g → ∃ c t, w2.heap[g]? = some (.cells c t (0, 0)) ∧ (t = 40 ∨ t = 5 ∨ t = 3)) → BkAt w3 Bb hb ov wv O Wn := fun b k q => b.keptT k (fun g hq => by
    obtain ⟨c, t, hc, ht⟩ := q g hq
    exact ⟨c, t, hc, by rcases ht with rfl | rfl | rfl <;> decide, by rcases ht with rfl | rfl | rfl <;> decide⟩)
  have B1 := bkT h.bk km (fun g q => by
    rcases q with q | q | q | q
    · obtain ⟨c, hc⟩ := h.al.t8 hX ha q; exact ⟨c, _, hc, .inr (.inl rfl)⟩
    · obtain ⟨c, hc⟩ := h.al.t8 hY hb' q; exact ⟨c, _, hc, .inr (.inl rfl)⟩
    · obtain ⟨c, hc⟩ := h.al.t64 hX ha q; exact ⟨c, _, hc, .inr (.inr rfl)⟩
    · obtain ⟨c, hc⟩ := h.al.t64 hY hb' q; exact ⟨c, _, hc, .inr (.inr rfl)⟩)
  have B2 := bkT B1 ks1 (fun g q => by subst q; obtain ⟨c, hc⟩ := row5_type rx1 (g := g) rfl; exact ⟨c, _, hc, .inl rfl⟩)
  have B3 := bkT B2 ks2 (fun g q => by subst q; obtain ⟨c, hc⟩ := row5_type ry2 (g := g) rfl; exact ⟨c, _, hc, .inl rfl⟩)
  refine ⟨kx0, fx _, ky2, fy2 _, B1, B2, ⟨B3.re (by simp) (flatP_set hx rfl) (by simp) (flatP_set hy rfl), AL, h.ag.mark hx hy hpp ha, hSk, h.kept.trans (K.mono (fun g _ q => ?_))⟩⟩
  rw [← h.sk]
  rcases q with (q | q) | (q | q) | q | q
  · exact SpQ.dv hX ha q
  · exact SpQ.dv hY hb' q
  · exact SpQ.kv hX ha q
  · exact SpQ.kv hY hb' q
  · exact SpQ.sv hX q
  · exact SpQ.sv hY q
end
end Go.Proofs.YteaccpolmmkclaaDoor

namespace Go.Proofs.YteaccpolmmkclaaDoor
open Go.RowKit

theorem steps_inG {w : World} {B : Nat} {sv : Value} {l : List Sq} (h : StepsAt w B sv l) (hl : l.length ≤ 1000000) : PlayIn w sv l := by
  obtain ⟨a, c, rfl⟩ := h.form
  refine ⟨⟨a, c, rfl, by unfold maxLen; omega, ?_⟩, fun q hq => ?_⟩
  · by_cases h0 : l = []
    · exact .inl h0
    · rcases h.1.2 with ⟨_, e⟩ | ⟨g, cap, cur, e, _⟩
      · exact .inl (List.eq_nil_of_length_eq_zero e)
      · simp only [Value.slice.injEq] at e
        obtain ⟨rfl, _, rfl⟩ := e
        refine .inr ⟨g, 0, rfl, (h.1.lt g rfl).2, fun i x hx => ?_⟩
        have := h.1.cells (g := g) rfl i x hx
        rw [Nat.zero_add]
        cases i with
        | zero => simpa [Addr.add] using this
        | succ i => simpa [Addr.add] using this
  · obtain ⟨a1, c1, e1, i1⟩ := (h.2 q hq).1.shape
    obtain ⟨a2, c2, e2, i2⟩ := (h.2 q hq).2.shape
    exact ⟨⟨a1, c1, e1, i1⟩, a2, c2, e2, i2⟩
/-- Steps without lists. -/
def zS (n : Nat) : Sq := ⟨⟨-(n : Int), 0, [], 0, []⟩, .slice none 0 0, .slice none 0 0⟩
def Dn8 (O : List Pl) (i k g : Nat) : Prop := ∃ (i' k' : Nat) (x : Pl) (a : Sq), (i' < i ∨ i' = i ∧ k' < k) ∧ O[i']? = some x ∧ x.l[k']? = some a ∧ a.dv.ownBlock = some g
def Dn64 (O : List Pl) (i k g : Nat) : Prop := ∃ (i' k' : Nat) (x : Pl) (a : Sq), (i' < i ∨ i' = i ∧ k' < k) ∧ O[i']? = some x ∧ x.l[k']? = some a ∧ a.kv.ownBlock = some g
def DnS (O : List Pl) (i g : Nat) : Prop := ∃ (i' : Nat) (x : Pl), i' < i ∧ O[i']? = some x ∧ x.sv.ownBlock = some g
theorem Dn8.mono {O : List Pl} {i k i2 k2 g : Nat} (h : Dn8 O i k g) (hm : ∀ i' k', (i' < i ∨ i' = i ∧ k' < k) → (i' < i2 ∨ i' = i2 ∧ k' < k2)) : Dn8 O i2 k2 g := by
  obtain ⟨i', k', x, a, h1, h2⟩ := h
  exact ⟨i', k', x, a, hm _ _ h1, h2⟩
theorem Dn64.mono {O : List Pl} {i k i2 k2 g : Nat} (h : Dn64 O i k g) (hm : ∀ i' k', (i' < i ∨ i' = i ∧ k' < k) → (i' < i2 ∨ i' = i2 ∧ k' < k2)) : Dn64 O i2 k2 g := by
  obtain ⟨i', k', x, a, h1, h2⟩ := h
  exact ⟨i', k', x, a, hm _ _ h1, h2⟩
structure SpG (W w : World) (B Bb hb : Nat) (ov wv : Value) (O Wn : List Pl) (S : List (Value × List (Value × Value))) (S0 gb : Nat) (V : Nat → Value) (R : Nat → List Value) (i k : Nat) : Prop where
  sp : SpI W w B Bb hb ov wv O Wn S
  gr : GrAt w S0 gb V R
  hW : W.heap.size ≤ S0
  hg : S0 ≤ gb
  hz : S0 ≤ w.heap.size
  hB : B ≤ S0
  low : ∀ g, SpQ S g → g < S0
  l0 : (R 0).length = i
  l1 : (R 1).length = i
  l23 : (R 2).length = (R 3).length
  l45 : (R 4).length = (R 5).length
  few : (R 2).length ≤ 4000 * i + k ∧ (R 4).length ≤ 4000 * i + k
  d : ∀ (n : Nat) v v', (R 2)[n]? = some v → (R 3)[n]? = some v' → ∃ x, Own w B v x ∧ Own w B v' x ∧ (∀ g, v.ownBlock = some g → S0 ≤ g ∨ Dn8 O i k g) ∧ ∀ g, v'.ownBlock = some g → S0 ≤ g
  kk : ∀ (n : Nat) v v', (R 4)[n]? = some v → (R 5)[n]? = some v' → ∃ x, OwnI w B v x ∧ OwnI w B v' x ∧ (∀ g, v.ownBlock = some g → S0 ≤ g ∨ Dn64 O i k g) ∧ ∀ g, v'.ownBlock = some g → S0 ≤ g
  s : ∀ (n : Nat) v v', (R 0)[n]? = some v → (R 1)[n]? = some v' → ∃ x y o t, O[n]? = some x ∧ Wn[n]? = some y ∧ w.ownsRow B 40 5 v (x.l ++ List.replicate 12 (zS t)).length (flatS (x.l ++ List.replicate 12 (zS t))) ∧ (∀ g, v.ownBlock = some g → S0 ≤ g ∨ DnS O i g) ∧ StepsAt w S0 v' (o ++ List.replicate 12 (zS t)) ∧ o.map (·.p) = y.l.map (·.p)
theorem snoc_key {α : Type} {L : List α} {z u : α} {n : Nat} (h : (L ++ [z])[n]? = some u) : L[n]? = some u ∨ (n = L.length ∧ u = z) := by
  by_cases hi : n < L.length
  · rw [List.getElem?_append_left hi] at h; exact .inl h
  · rw [List.getElem?_append_right (by omega)] at h
    have : n - L.length = 0 := by have := (List.getElem?_eq_some_iff.1 h).1; simp at this; omega
    rw [this] at h
    simp at h
    exact .inr ⟨by omega, h.symm⟩
section
variable {W w w' : World} {B Bb hb : Nat} {ov wv : Value} {O Wn : List Pl} {S : List (Value × List (Value × Value))} {S0 gb : Nat} {V : Nat → Value} {R : Nat → List Value} {i k : Nat}
theorem SpG.gq (h : SpG W w B Bb hb ov wv O Wn S S0 gb V R i k) {g : Nat} (q : GQ gb V g) : S0 ≤ g := by
  rcases q with rfl | ⟨j, hj, e⟩
  · exact h.hg
  · exact ((h.gr.row j hj).lt g e).1
/-- What stays whatever is turned of one step's lists, one row of steps, or the grown lists' own rows. -/
theorem SpG.rest {Q : Nat → Prop} (h : SpG W w B Bb hb ov wv O Wn S S0 gb V R i k) (hk : Kept Q w w')
    (q8 : ∀ g c, Q g → w.heap[g]? = some (.cells c 5 (0, 0)) → g < S0 ∧ ¬ Dn8 O i k g) (q64 : ∀ g c, Q g → w.heap[g]? = some (.cells c 3 (0, 0)) → g < S0 ∧ ¬ Dn64 O i k g) (qS : ∀ g c, Q g → w.heap[g]? = some (.cells c 40 (0, 0)) → g < S0 ∧ ¬ DnS O i g) :
    (∀ (n : Nat) v v', (R 2)[n]? = some v → (R 3)[n]? = some v' → ∃ x, Own w' B v x ∧ Own w' B v' x ∧ (∀ g, v.ownBlock = some g → S0 ≤ g ∨ Dn8 O i k g) ∧ ∀ g, v'.ownBlock = some g → S0 ≤ g) ∧
    (∀ (n : Nat) v v', (R 4)[n]? = some v → (R 5)[n]? = some v' → ∃ x, OwnI w' B v x ∧ OwnI w' B v' x ∧ (∀ g, v.ownBlock = some g → S0 ≤ g ∨ Dn64 O i k g) ∧ ∀ g, v'.ownBlock = some g → S0 ≤ g) ∧
    (∀ (n : Nat) v v', (R 0)[n]? = some v → (R 1)[n]? = some v' → ∃ x y o t, O[n]? = some x ∧ Wn[n]? = some y ∧ w'.ownsRow B 40 5 v (x.l ++ List.replicate 12 (zS t)).length (flatS (x.l ++ List.replicate 12 (zS t))) ∧ (∀ g, v.ownBlock = some g → S0 ≤ g ∨ DnS O i g) ∧ StepsAt w' S0 v' (o ++ List.replicate 12 (zS t)) ∧ o.map (·.p) = y.l.map (·.p)) := by
  refine ⟨fun n v v' h1 h2 => ?_, fun n v v' h1 h2 => ?_, fun n v v' h1 h2 => ?_⟩
  · obtain ⟨x, o1, o2, n1, n2⟩ := h.d n v v' h1 h2
    refine ⟨x, Kept.own hk o1 (fun g e q => ?_), Kept.own hk o2 (fun g e q => ?_), n1, n2⟩
    · obtain ⟨c, hc⟩ := row_of_type o1 e
      obtain ⟨a1, a2⟩ := q8 g c q hc
      rcases n1 g e with e | e
      · omega
      · exact a2 e
    · obtain ⟨c, hc⟩ := row_of_type o2 e
      have := (q8 g c q hc).1
      have := n2 g e
      omega
  · obtain ⟨x, o1, o2, n1, n2⟩ := h.kk n v v' h1 h2
    refine ⟨x, Kept.own hk o1 (fun g e q => ?_), Kept.own hk o2 (fun g e q => ?_), n1, n2⟩
    · obtain ⟨c, hc⟩ := row_of_type o1 e
      obtain ⟨a1, a2⟩ := q64 g c q hc
      rcases n1 g e with e | e
      · omega
      · exact a2 e
    · obtain ⟨c, hc⟩ := row_of_type o2 e
      have := (q64 g c q hc).1
      have := n2 g e
      omega
  · obtain ⟨x, y, o, t, hx, hy, o1, n1, o2, hm⟩ := h.s n v v' h1 h2
    refine ⟨x, y, o, t, hx, hy, row_keptG o1 hk (fun g e q => ?_), n1, o2.kept hk (fun g e q => ?_) (fun z hz => ⟨fun g e q => ?_, fun g e q => ?_⟩), hm⟩
    · obtain ⟨c, hc⟩ := row_typeG o1 e
      obtain ⟨a1, a2⟩ := qS g c q hc
      rcases n1 g e with e | e
      · omega
      · exact a2 e
    · obtain ⟨c, hc⟩ := row5_type o2.1 e
      have := (qS g c q hc).1
      have := (o2.1.lt g e).1
      omega
    · obtain ⟨c, hc⟩ := row_of_type (o2.2 z hz).1 e
      have := (q8 g c q hc).1
      have := ((o2.2 z hz).1.lt g e).1
      omega
    · obtain ⟨c, hc⟩ := row_of_type (o2.2 z hz).2 e
      have := (q64 g c q hc).1
      have := ((o2.2 z hz).2.lt g e).1
      omega
theorem SpG.later (h : SpG W w B Bb hb ov wv O Wn S S0 gb V R i k) (hb' : Below w.heap.size w w') : SpG W w' B Bb hb ov wv O Wn S S0 gb V R i k := by
  obtain ⟨r1, r2, r3⟩ := h.rest (Q := fun _ => False) (Kept.ofBelow hb') (fun _ _ q => q.elim) (fun _ _ q => q.elim) (fun _ _ q => q.elim)
  exact ⟨h.sp.later hb', h.gr.later hb', h.hW, h.hg, Nat.le_trans h.hz hb'.size, h.hB, h.low, h.l0, h.l1, h.l23, h.l45, h.few, r1, r2, r3⟩
/-- The lists of a step have grown. -/
theorem SpG.more (h : SpG W w B Bb hb ov wv O Wn S S0 gb V R i k) {n : Nat} {x : Pl} {a b : Sq} (hi : i < O.length) (hx : O[i]? = some x) (ha : x.l[k]? = some a) {e : Ending} (hp : MorePost w B S0 gb V R a.p a.dv a.kv b.dv b.kv n e w') :
    e = .returned (.tuple #[]) ∧ ∃ V' R', SpG W w' B Bb hb ov wv O Wn S S0 gb V' R' i (k + 1) := by
  obtain ⟨rfl, V', vb, vc, kb, kc, g1, kp, vn, p8, p64, oa, na, ob, nb⟩ := hp
  have hX : (O ++ Wn)[i]? = some x := by rw [List.getElem?_append_left hi]; exact hx
  have al := h.sp.al
  have dlow : ∀ g, a.dv.ownBlock = some g → g < S0 := fun g e => h.low g (by rw [← h.sp.sk]; exact SpQ.dv hX ha e)
  have klow : ∀ g, a.kv.ownBlock = some g → g < S0 := fun g e => h.low g (by rw [← h.sp.sk]; exact SpQ.kv hX ha e)
  have nX : ∀ {i' : Nat} {z : Pl}, O[i']? = some z → (O ++ Wn)[i']? = some z := fun {i' z} hz => by rw [List.getElem?_append_left (List.getElem?_eq_some_iff.1 hz).1]; exact hz
  have ty : ∀ g, MQ gb V a.dv a.kv g → (∃ c, w.heap[g]? = some (.cells c 5 (0, 0)) ∧ a.dv.ownBlock = some g) ∨ (∃ c, w.heap[g]? = some (.cells c 3 (0, 0)) ∧ a.kv.ownBlock = some g) ∨ ∃ c t, w.heap[g]? = some (.cells c t (0, 0)) ∧ isG t ∧ S0 ≤ g := fun g q => by
    rcases q with q | q | q
    · obtain ⟨c, t, hc, ht⟩ := h.gr.typ q
      exact .inr (.inr ⟨c, t, hc, ht, h.gq q⟩)
    · obtain ⟨c, hc⟩ := al.t8 hX ha q
      exact .inl ⟨c, hc, q⟩
    · obtain ⟨c, hc⟩ := al.t64 hX ha q
      exact .inr (.inl ⟨c, hc, q⟩)
  have g8 : ¬ isG 5 := by unfold isG; decide
  have g64 : ¬ isG 3 := by unfold isG; decide
  have gS : ¬ isG 40 := by unfold isG; decide
  have same : ∀ {g : Nat} {c1 c2 : Array Value} {t1 t2 : TypeId}, w.heap[g]? = some (.cells c1 t1 (0, 0)) → w.heap[g]? = some (.cells c2 t2 (0, 0)) → t1 = t2 := fun h1 h2 => by
    rw [h1] at h2
    simp only [Option.some.injEq, Obj.cells.injEq] at h2
    exact h2.2.1
  have hsp : SpI W w' B Bb hb ov wv O Wn S := by
    refine ⟨h.sp.bk.keptT kp (fun g q => ?_), al.grew kp hX ha oa na (fun g q => ?_), h.sp.ag, h.sp.sk, h.sp.kept.step kp (fun g hg q => ?_)⟩
    · rcases ty g q with ⟨c, hc, _⟩ | ⟨c, hc, _⟩ | ⟨c, t, hc, ht, _⟩
      · exact ⟨c, _, hc, by decide, by decide⟩
      · exact ⟨c, _, hc, by decide, by decide⟩
      · exact ⟨c, t, hc, by rcases ht with rfl | rfl | rfl | rfl <;> decide, by rcases ht with rfl | rfl | rfl | rfl <;> decide⟩
    · rcases ty g q with ⟨c, hc, e⟩ | ⟨c, hc, e⟩ | ⟨c, t, hc, ht, _⟩
      · exact .inl e
      · exact .inr (.inl e)
      · refine .inr (.inr (fun cur t2 h2 => ?_))
        rw [← same hc h2]
        rcases ht with rfl | rfl | rfl | rfl <;> decide
    · rcases ty g q with ⟨c, hc, e⟩ | ⟨c, hc, e⟩ | ⟨c, t, hc, ht, e⟩
      · rw [← h.sp.sk]; exact SpQ.dv hX ha e
      · rw [← h.sp.sk]; exact SpQ.kv hX ha e
      · have := h.hW; omega
  have nd8 : ∀ g, a.dv.ownBlock = some g → ¬ Dn8 O i k g := fun g e hd => by
    obtain ⟨i', k', z, q, h1, h2, h3, h4⟩ := hd
    exact (al.al hX (nX h2) ha h3 (by omega)).1 g e h4
  have nd64 : ∀ g, a.kv.ownBlock = some g → ¬ Dn64 O i k g := fun g e hd => by
    obtain ⟨i', k', z, q, h1, h2, h3, h4⟩ := hd
    exact (al.al hX (nX h2) ha h3 (by omega)).2 g e h4
  obtain ⟨r1, r2, r3⟩ := h.rest kp (fun g c q hc => by
      rcases ty g q with ⟨c1, _, e⟩ | ⟨c1, hc1, e⟩ | ⟨c1, t, hc1, ht, _⟩
      · exact ⟨dlow g e, nd8 g e⟩
      · exact (clash hc hc1 (by decide)).elim
      · rw [same hc1 hc] at ht; exact (g8 ht).elim) (fun g c q hc => by
      rcases ty g q with ⟨c1, hc1, e⟩ | ⟨c1, _, e⟩ | ⟨c1, t, hc1, ht, _⟩
      · exact (clash hc hc1 (by decide)).elim
      · exact ⟨klow g e, nd64 g e⟩
      · rw [same hc1 hc] at ht; exact (g64 ht).elim) (fun g c q hc => by
      rcases ty g q with ⟨c1, hc1, e⟩ | ⟨c1, hc1, e⟩ | ⟨c1, t, hc1, ht, _⟩
      · exact (clash hc hc1 (by decide)).elim
      · exact (clash hc hc1 (by decide)).elim
      · rw [same hc1 hc] at ht; exact (gS ht).elim)
  have st : ∀ i' k', (i' < i ∨ i' = i ∧ k' < k) → (i' < i ∨ i' = i ∧ k' < k + 1) := fun i' k' h => by omega
  have hzz := h.hz
  refine ⟨rfl, V', _, ⟨hsp, g1, h.hW, h.hg, Nat.le_trans h.hz kp.size, h.hB, h.low, h.l0, h.l1, ?_, ?_, ?_, fun n v v' h1 h2 => ?_, fun n v v' h1 h2 => ?_, fun n v v' h1 h2 => r3 n v v' h1 h2⟩⟩
  · show (R 2 ++ [vb]).length = (R 3 ++ [vc]).length
    simp [h.l23]
  · show (R 4 ++ [kb]).length = (R 5 ++ [kc]).length
    simp [h.l45]
  · show (R 2 ++ [vb]).length ≤ _ ∧ (R 4 ++ [kb]).length ≤ _
    have := h.few
    simp
    omega
  · have h1 : (R 2 ++ [vb])[n]? = some v := h1
    have h2 : (R 3 ++ [vc])[n]? = some v' := h2
    have hl := h.l23
    rcases snoc_key h1 with h1 | ⟨e1, rfl⟩
    · rcases snoc_key h2 with h2 | ⟨e2, _⟩
      · obtain ⟨z, o1, o2, n1, n2⟩ := r1 n v v' h1 h2
        exact ⟨z, o1, o2, fun g e => (n1 g e).imp id (fun d => d.mono st), n2⟩
      · have := (List.getElem?_eq_some_iff.1 h1).1; omega
    · rcases snoc_key h2 with h2 | ⟨e2, rfl⟩
      · have := (List.getElem?_eq_some_iff.1 h2).1; omega
      · refine ⟨_, p8.b, p8.c, fun g e => ?_, fun g e => by have := p8.nc g e; omega⟩
        rcases p8.nb g e with e | e
        · exact .inr ⟨i, k, x, a, .inr ⟨rfl, by omega⟩, hx, ha, e⟩
        · exact .inl (by omega)
  · have h1 : (R 4 ++ [kb])[n]? = some v := h1
    have h2 : (R 5 ++ [kc])[n]? = some v' := h2
    have hl := h.l45
    rcases snoc_key h1 with h1 | ⟨e1, rfl⟩
    · rcases snoc_key h2 with h2 | ⟨e2, _⟩
      · obtain ⟨z, o1, o2, n1, n2⟩ := r2 n v v' h1 h2
        exact ⟨z, o1, o2, fun g e => (n1 g e).imp id (fun d => d.mono st), n2⟩
      · have := (List.getElem?_eq_some_iff.1 h1).1; omega
    · rcases snoc_key h2 with h2 | ⟨e2, rfl⟩
      · have := (List.getElem?_eq_some_iff.1 h2).1; omega
      · refine ⟨_, p64.b, p64.c, fun g e => ?_, fun g e => by have := p64.nc g e; omega⟩
        rcases p64.nb g e with e | e
        · exact .inr ⟨i, k, x, a, .inr ⟨rfl, by omega⟩, hx, ha, e⟩
        · exact .inl (by omega)
/-- A row of steps has grown. -/
theorem SpG.tail (h : SpG W w B Bb hb ov wv O Wn S S0 gb V R i k) {x : Pl} (hi : i < O.length) (hx : O[i]? = some x) (hk : Kept (fun g => x.sv.ownBlock = some g) w w') (hr : w'.ownsRow B 40 5 x.sv x.l.length (flatS x.l)) : SpG W w' B Bb hb ov wv O Wn S S0 gb V R i k := by
  have hX : (O ++ Wn)[i]? = some x := by rw [List.getElem?_append_left hi]; exact hx
  have al := h.sp.al
  have ty : ∀ g, x.sv.ownBlock = some g → ∃ c, w.heap[g]? = some (.cells c 40 (0, 0)) := fun g e => al.tS hX e
  have low : ∀ g, x.sv.ownBlock = some g → g < S0 := fun g e => h.low g (by rw [← h.sp.sk]; exact SpQ.sv hX e)
  have hsp : SpI W w' B Bb hb ov wv O Wn S := by
    refine ⟨h.sp.bk.keptT hk (fun g q => ?_), al.grewS hk hX hr (fun g q => .inl q), h.sp.ag, h.sp.sk, h.sp.kept.step hk (fun g hg q => by rw [← h.sp.sk]; exact SpQ.sv hX q)⟩
    obtain ⟨c, hc⟩ := ty g q
    exact ⟨c, _, hc, by decide, by decide⟩
  obtain ⟨r1, r2, r3⟩ := h.rest hk (fun g c q hc => by obtain ⟨c1, h1⟩ := ty g q; exact (clash h1 hc (by decide)).elim) (fun g c q hc => by obtain ⟨c1, h1⟩ := ty g q; exact (clash h1 hc (by decide)).elim) (fun g c q hc => ⟨low g q, fun hd => by
    obtain ⟨i', z, h1, h2, h3⟩ := hd
    exact al.ar hX (by rw [List.getElem?_append_left (List.getElem?_eq_some_iff.1 h2).1]; exact h2) (by omega) g q h3⟩)
  refine ⟨hsp, h.gr.kept hk (fun g q e => ?_), h.hW, h.hg, Nat.le_trans h.hz hk.size, h.hB, h.low, h.l0, h.l1, h.l23, h.l45, h.few, r1, r2, r3⟩
  obtain ⟨c, hc⟩ := ty g e
  have := h.gr.tne q hc
  revert this
  unfold isG
  decide
/-- Both rows of a play were put behind the grown ones. -/
theorem SpG.done {w2 w3 : World} {V2 V3 : Nat → Value} {x y : Pl} {o : List Sq} {t : Nat} {lv mv : Value} (h : SpG W w B Bb hb ov wv O Wn S S0 gb V R i k) (hx : O[i]? = some x) (hy : Wn[i]? = some y) (hkl : k ≤ 4000)
    (k1 : Kept (GQ gb V) w w2) (g3 : GrAt w3 S0 gb V3 (upd (upd R 0 (R 0 ++ [lv])) 1 (R 1 ++ [mv]))) (k2 : Kept (GQ gb V2) w2 w3) (vn : ∀ g, GQ gb V2 g → GQ gb V g ∨ w.heap.size ≤ g)
    (hl : w.ownsRow B 40 5 lv (x.l ++ List.replicate 12 (zS t)).length (flatS (x.l ++ List.replicate 12 (zS t)))) (nl : ∀ g, lv.ownBlock = some g → x.sv.ownBlock = some g ∨ S0 ≤ g) (hm : StepsAt w S0 mv (o ++ List.replicate 12 (zS t))) (hp : o.map (·.p) = y.l.map (·.p)) :
    SpG W w3 B Bb hb ov wv O Wn S S0 gb V3 (upd (upd R 0 (R 0 ++ [lv])) 1 (R 1 ++ [mv])) (i + 1) 0 := by
  have kk : Kept (GQ gb V) w w3 := k1.step k2 (fun g hg q => by
    rcases vn g q with e | e
    · exact e
    · omega)
  have nt : ∀ g c t, GQ gb V g → w.heap[g]? = some (.cells c t (0, 0)) → isG t := fun g c t q hc => h.gr.tne q hc
  have g8 : ¬ isG 5 := by unfold isG; decide
  have g64 : ¬ isG 3 := by unfold isG; decide
  have gS : ¬ isG 40 := by unfold isG; decide
  have hsp : SpI W w3 B Bb hb ov wv O Wn S := by
    refine ⟨h.sp.bk.keptT kk (fun g q => ?_), h.sp.al.kept kk (fun g cur t q hc => ?_), h.sp.ag, h.sp.sk, h.sp.kept.step kk (fun g hg q => ?_)⟩
    · obtain ⟨c, t, hc, ht⟩ := h.gr.typ q
      exact ⟨c, t, hc, by rcases ht with rfl | rfl | rfl | rfl <;> decide, by rcases ht with rfl | rfl | rfl | rfl <;> decide⟩
    · have ht := nt g cur t q hc
      rcases ht with rfl | rfl | rfl | rfl <;> decide
    · have := h.gq q
      have := h.hW
      omega
  obtain ⟨r1, r2, r3⟩ := h.rest kk (fun g c q hc => (g8 (nt g c _ q hc)).elim) (fun g c q hc => (g64 (nt g c _ q hc)).elim) (fun g c q hc => (gS (nt g c _ q hc)).elim)
  have st : ∀ i' k', (i' < i ∨ i' = i ∧ k' < k) → (i' < i + 1 ∨ i' = i + 1 ∧ k' < 0) := fun i' k' h => by omega
  have hfew := h.few
  refine ⟨hsp, g3, h.hW, h.hg, Nat.le_trans h.hz kk.size, h.hB, h.low, ?_, ?_, h.l23, h.l45, ?_, fun n v v' h1 h2 => ?_, fun n v v' h1 h2 => ?_, fun n v v' h1 h2 => ?_⟩
  · show (R 0 ++ [lv]).length = _
    simp [h.l0]
  · show (R 1 ++ [mv]).length = _
    simp [h.l1]
  · show (R 2).length ≤ _ ∧ (R 4).length ≤ _
    omega
  · obtain ⟨z, o1, o2, n1, n2⟩ := r1 n v v' h1 h2
    exact ⟨z, o1, o2, fun g e => (n1 g e).imp id (fun d => d.mono st), n2⟩
  · obtain ⟨z, o1, o2, n1, n2⟩ := r2 n v v' h1 h2
    exact ⟨z, o1, o2, fun g e => (n1 g e).imp id (fun d => d.mono st), n2⟩
  · have h1 : (R 0 ++ [lv])[n]? = some v := h1
    have h2 : (R 1 ++ [mv])[n]? = some v' := h2
    have l0 := h.l0
    have l1 := h.l1
    rcases snoc_key h1 with h1 | ⟨e1, rfl⟩
    · rcases snoc_key h2 with h2 | ⟨e2, _⟩
      · obtain ⟨x1, y1, o1, t1, a1, a2, a3, a4, a5, a6⟩ := r3 n v v' h1 h2
        refine ⟨x1, y1, o1, t1, a1, a2, a3, fun g e => (a4 g e).imp id (fun d => ?_), a5, a6⟩
        obtain ⟨i', z, b1, b2⟩ := d
        exact ⟨i', z, by omega, b2⟩
      · have := (List.getElem?_eq_some_iff.1 h1).1; omega
    · rcases snoc_key h2 with h2 | ⟨e2, rfl⟩
      · have := (List.getElem?_eq_some_iff.1 h2).1; omega
      · obtain rfl : n = i := by omega
        refine ⟨x, y, o, t, hx, hy, row_keptG hl kk (fun g e q => ?_), fun g e => ?_, hm.keptT kk (fun g cur t q hc => ?_), hp⟩
        · obtain ⟨c, hc⟩ := row_typeG hl e
          exact gS (nt g c _ q hc)
        · rcases nl g e with e | e
          · exact .inr ⟨n, x, by omega, hx, e⟩
          · exact .inl e
        · have ht := nt g cur t q hc
          rcases ht with rfl | rfl | rfl | rfl <;> decide
/-- All read as they must. -/
theorem SpG.ghold (h : SpG W w B Bb hb ov wv O Wn S S0 gb V R i k) : GHold w R := by
  refine ⟨by rw [h.l0, h.l1], fun n v v' h1 h2 => ?_, h.l23, fun n v v' h1 h2 => ?_, h.l45, fun n v v' h1 h2 => ?_⟩
  · obtain ⟨x, y, o, t, hx, hy, a3, a4, a5, a6⟩ := h.s n v v' h1 h2
    have hX : (O ++ Wn)[n]? = some x := by rw [List.getElem?_append_left (List.getElem?_eq_some_iff.1 hx).1]; exact hx
    have st := h.sp.al.st n x hX
    have few := (h.sp.ag.few n x hx).1
    have hm := (h.sp.ag.all n x y hx hy).2.2.2
    have hol : o.length = x.l.length := by have e1 := congrArg List.length a6; have e2 := congrArg List.length hm; simp at e1 e2; omega
    refine ⟨_, _, steps_inG (B := B) ⟨a3, fun q hq => ?_⟩ (by simp; omega), steps_inG a5 (by simp; omega), ?_⟩
    · rcases List.mem_append.1 hq with hq | hq
      · exact st.2 q hq
      · have := List.eq_of_mem_replicate hq
        subst this
        exact ⟨Own.nil _ _, OwnI.nil _ _⟩
    · rw [List.map_append, List.map_append, a6, hm]
  · obtain ⟨z, o1, o2, _, _⟩ := h.d n v v' h1 h2
    obtain ⟨a, c, e, i⟩ := o1.shape
    obtain ⟨a', c', e', i'⟩ := o2.shape
    exact ⟨z, ⟨a, c, e, i⟩, a', c', e', i'⟩
  · obtain ⟨z, o1, o2, _, _⟩ := h.kk n v v' h1 h2
    obtain ⟨a, c, e, i⟩ := o1.shape
    obtain ⟨a', c', e', i'⟩ := o2.shape
    exact ⟨z, ⟨a, c, e, i⟩, a', c', e', i'⟩
end
/-- 'append' of one step, and what else reads as it reads. -/
theorem wpList_stepsK {w : World} {ops : Array Oper} {rest : List Oper} {o : Oper} {a : Act} {Q : Exit → Act → World → Prop} (hgd : o.guard = none) (s x : Operand)
    (ho : o.op = .call { callee := .builtin .append, args := #[s, x], argTypes := #[29, 29] })
    (B : Nat) (v : Value) (X : List Sq) (hs : a.eval s = v) (hown : w.ownsRow B 40 5 v X.length (flatS X)) (ad : Option Addr) (c : Nat) (Y : Sq) (hx : a.eval x = .slice ad 1 c)
    (hsrc : ∃ p, ad = some p ∧ ∀ j u, (flatS [Y])[j]? = some u → w.cell? (p.add j) = some u) (hone : ∀ u ∈ flatS [Y], u.oneCell' = true)
    (hb : X.length ≤ 2147483647) (hbase : B ≤ w.heap.size)
    (h : ∀ v' w', w'.ownsRow B 40 5 v' (X ++ [Y]).length (flatS (X ++ [Y])) → w.grownBy w' v.ownBlock → (∀ (b0 : Nat) (u : Value) (m : Nat) (ys : List Value), w.ownsRow b0 40 5 u m ys → (u.ownBlock = v.ownBlock → m ≤ X.length) → w'.ownsRow b0 40 5 u m ys) → (v'.ownBlock = v.ownBlock ∨ v'.ownBlock = some w.heap.size) → wpList Tryd.prog ops Q rest (a.put o.dst v') w') :
    wpList Tryd.prog ops Q (o :: rest) a w := by
  refine wpList_plain hgd fun K hK => ?_
  obtain ⟨i, hi, hz0, hz1, hz2⟩ := info_parts info_step
  obtain ⟨v', w', hr, h2, h3, h4, h5, h6⟩ := run_append_keepsG (P := Tryd.prog) w 5 B 29 o.type 40 i _ Tryd.underlying29 hi hz0 hz1 rfl v X.length (flatS X) hown ad 1 c (flatS [Y]) (by rw [flatS_length]; rfl) (.inr hsrc) hone (by unfold maxLen; omega) (by rw [hz2]; omega) hbase
  unfold Oper.wp execOp
  simp only [ho, resolve, invoke, builtin, Sem.run_bind, Sem.run_pure, Result.andThen_ok, List.map_toArray, List.map_cons, List.map_nil, hs, hx, hr]
  refine hK _ _ (h v' w' ?_ h3 h4 h5)
  rw [List.length_append, flatS_append]
  exact h2
/-- Two lists of steps that grow side by side. -/
structure LT (wF w : World) (B : Nat) (x : Pl) (lv mv : Value) (ls ms : List Sq) : Prop where
  kept : Kept (fun g => x.sv.ownBlock = some g) wF w
  row : w.ownsRow B 40 5 x.sv x.l.length (flatS x.l)
  l : w.ownsRow B 40 5 lv ls.length (flatS ls)
  nl : ∀ g, lv.ownBlock = some g → x.sv.ownBlock = some g ∨ wF.heap.size ≤ g
  m : StepsAt w wF.heap.size mv ms
  lm : ∀ g, lv.ownBlock = some g → mv.ownBlock ≠ some g
  xl : ∀ g, x.sv.ownBlock = some g → g < wF.heap.size
  hle : x.l.length ≤ ls.length
section
variable {wF w w1 : World} {B : Nat} {x : Pl} {lv mv v1 : Value} {ls ms : List Sq} {o : Obj} {z : Sq}
theorem LT.growL (h : LT wF w B x lv mv ls ms) (ho : w1.ownsRow B 40 5 v1 (ls ++ [z]).length (flatS (ls ++ [z]))) (hg : (w.alloc o).grownBy w1 lv.ownBlock) (hk : ∀ (b0 : Nat) (u : Value) (m : Nat) (ys : List Value), (w.alloc o).ownsRow b0 40 5 u m ys → (u.ownBlock = lv.ownBlock → m ≤ ls.length) → w1.ownsRow b0 40 5 u m ys) (hv : v1.ownBlock = lv.ownBlock ∨ v1.ownBlock = some (w.alloc o).heap.size) : LT wF w1 B x v1 mv (ls ++ [z]) ms := by
  have ka : Kept (fun g => lv.ownBlock = some g) w w1 := (Kept.ofBelow ((Below.refl _ w).alloc (Nat.le_refl _) o)).trans (Kept.ofGrown hg (fun g e => e))
  have ty : ∀ g, lv.ownBlock = some g → ∃ c, w.heap[g]? = some (.cells c 40 (0, 0)) := fun g e => row_typeG h.l e
  have hz := h.kept.size
  refine ⟨h.kept.step ka (fun g hg e => ?_), hk _ _ _ _ (World.ownsRow.alloc h.row o) (fun _ => h.hle), ho, fun g e => ?_, h.m.kept ka (fun g e e2 => h.lm g e2 e) (fun q hq => ⟨fun g e e2 => ?_, fun g e e2 => ?_⟩), fun g e e2 => ?_, h.xl, by rw [List.length_append]; have := h.hle; omega⟩
  · rcases h.nl g e with e | e
    · exact e
    · omega
  · rcases hv with hv | hv
    · exact h.nl g (by rw [← hv, e])
    · rw [hv] at e; simp at e; exact .inr (by omega)
  · obtain ⟨c, hc⟩ := ty g e2
    obtain ⟨c2, h2⟩ := row_of_type (h.m.2 q hq).1 e
    exact clash hc h2 (by decide)
  · obtain ⟨c, hc⟩ := ty g e2
    obtain ⟨c2, h2⟩ := row_of_type (h.m.2 q hq).2 e
    exact clash hc h2 (by decide)
  · rcases hv with hv | hv
    · exact h.lm g (by rw [← hv, e]) e2
    · rw [hv] at e
      have := (h.m.1.lt g e2).2
      simp at e
      omega
theorem LT.growM {n : Nat} (h : LT wF w B x lv mv ls ms) (ho : w1.ownsRow wF.heap.size 40 5 v1 (ms ++ [zS n]).length (flatS (ms ++ [zS n]))) (hg : (w.alloc o).grownBy w1 mv.ownBlock) (hv : v1.ownBlock = mv.ownBlock ∨ v1.ownBlock = some (w.alloc o).heap.size) : LT wF w1 B x lv v1 ls (ms ++ [zS n]) := by
  have ka : Kept (fun g => mv.ownBlock = some g) w w1 := (Kept.ofBelow ((Below.refl _ w).alloc (Nat.le_refl _) o)).trans (Kept.ofGrown hg (fun g e => e))
  have ty : ∀ g, mv.ownBlock = some g → ∃ c, w.heap[g]? = some (.cells c 40 (0, 0)) := fun g e => row5_type h.m.1 e
  have hz := h.kept.size
  refine ⟨h.kept.step ka (fun g hg e => ?_), row_keptG h.row ka (fun g e e2 => ?_), row_keptG h.l ka (fun g e e2 => h.lm g e e2), h.nl, ⟨ho, fun q hq => ?_⟩, fun g e e2 => ?_, h.xl, h.hle⟩
  · have := (h.m.1.lt g e).1; omega
  · have := (h.m.1.lt g e2).1; have := h.xl g e; omega
  · rcases List.mem_append.1 hq with hq | hq
    · refine ⟨Kept.own ka (h.m.2 q hq).1 (fun g e e2 => ?_), Kept.own ka (h.m.2 q hq).2 (fun g e e2 => ?_)⟩
      · obtain ⟨c, hc⟩ := ty g e2
        obtain ⟨c2, h2⟩ := row_of_type (h.m.2 q hq).1 e
        exact clash hc h2 (by decide)
      · obtain ⟨c, hc⟩ := ty g e2
        obtain ⟨c2, h2⟩ := row_of_type (h.m.2 q hq).2 e
        exact clash hc h2 (by decide)
    · have := List.mem_singleton.1 hq
      subst this
      exact ⟨Own.nil _ _, OwnI.nil _ _⟩
  · rcases hv with hv | hv
    · exact h.lm g e (by rw [← hv, e2])
    · rw [hv] at e2
      have := (h.l.lt g e).2
      simp at e2
      omega
end
end Go.Proofs.YteaccpolmmkclaaDoor
