/-
  A heap and the document's, side by side in memory.
-/
import Derived.Test.YtkjjinccnaphpaaHBoth
import Derived.Test.YtkjjinccnaphpaaPopsCT
namespace Go.Proofs.Ytkjjinccnaphpaa
open Go.RowKit

structure Hpr where
  hb : Nat
  mb : Nat
  v : Value
  f : FuncId
  way : Int
  last : Int
  R : List RowI
  db : Nat
  dv : Value
  E : List RowI
def Hpr.mine (p : Hpr) (k : Nat) : Prop := Mine p.hb p.v p.mb k ∨ MineH p.db p.dv k
structure HAt (w0 w : World) (p : Hpr) : Prop where
  h : HeapAtT w p.hb p.v p.mb p.f #[] p.last p.R
  d : RefH w w0.heap.size p.db p.dv p.way p.last p.E
  G : Grower p.f (kW p.way)
  hp : Hp (kW p.way) p.R
  perm : p.R.Perm p.E
  up : p.E.Pairwise (fun a b => a.1 < b.1)
  le : ∀ r ∈ p.E, r.1 ≤ p.last
  pos : 0 ≤ p.last
  base : ∀ k, Mine p.hb p.v p.mb k → w0.heap.size ≤ k
  dbase : ∀ k, MineH p.db p.dv k → w0.heap.size ≤ k
/-- The blocks of one are none of the other's: they are of other types. -/
theorem apart_of {w : World} {lo hb mb db : Nat} {v dv : Value} {f : FuncId} {way last last' : Int} {R E : List RowI} (h : HeapAtT w hb v mb f #[] last R) (d : RefH w lo db dv way last' E) {k : Nat} (hk : Mine hb v mb k) (hd : MineH db dv k) : False := by
  have e1 : ∃ c t, w.heap[k]? = some (.cells c t (0, 0)) ∧ (t = 55 ∨ t = 71) := by
    rcases hd with rfl | e
    · exact ⟨_, _, d.box, .inl rfl⟩
    · rcases d.row.2 with ⟨rfl, _⟩ | ⟨g, cap, cur, rfl, _, hg, _⟩
      · cases e
      · cases e; exact ⟨_, _, hg, .inr rfl⟩
  obtain ⟨c, t, hc, ht⟩ := e1
  rcases hk with rfl | e | rfl
  · rw [h.box] at hc
    simp only [Option.some.injEq, Obj.cells.injEq, and_true] at hc
    rcases ht with rfl | rfl <;> simp at hc
  · rcases h.row.2 with ⟨rfl, _⟩ | ⟨g, cap, cur, rfl, _, hg, _⟩
    · cases e
    · cases e
      rw [hg] at hc
      simp only [Option.some.injEq, Obj.cells.injEq, and_true] at hc
      rcases ht with rfl | rfl <;> simp at hc
  · obtain ⟨g, hT, _⟩ := h.tab
    obtain ⟨es, clock, hm⟩ := hT.map
    rw [hm] at hc
    simp at hc
/-- Behind the first call of two: the program's heap has turned, the document's not yet. -/
structure Mid (w0 w w1 : World) (p : Hpr) (v1 : Value) (last1 : Int) (R1 E1 : List RowI) : Prop where
  h : HeapAtT w1 p.hb v1 p.mb p.f #[] last1 R1
  d : RefH w1 w0.heap.size p.db p.dv p.way p.last p.E
  hp : Hp (kW p.way) R1
  perm : R1.Perm E1
  up : E1.Pairwise (fun a b => a.1 < b.1)
  le : ∀ r ∈ E1, r.1 ≤ last1
  pos : 0 ≤ last1
  kept : Kept p.mine w w1
  new : ∀ k, Mine p.hb v1 p.mb k → Mine p.hb p.v p.mb k ∨ w.heap.size ≤ k
/-- What a turn of both leaves. -/
def Turned (w0 w : World) (p p' : Hpr) (w' : World) : Prop := HAt w0 w' p' ∧ Kept p.mine w w' ∧ (∀ k, p'.mine k → p.mine k ∨ w.heap.size ≤ k) ∧ p'.hb = p.hb ∧ p'.db = p.db ∧ p'.way = p.way ∧ p'.f = p.f
section
variable {w0 w w1 w2 : World} {p : Hpr} {v1 : Value} {last1 : Int} {R1 E1 : List RowI}
theorem HAt.kept (h : HAt w0 w p) {K : Nat → Prop} (hk : Kept K w w1) (hK : ∀ k, p.mine k → ¬ K k) : HAt w0 w1 p :=
  ⟨h.h.kept hk (fun k e => hK k (.inl e)), h.d.kept hk (fun k e => hK k (.inr e)), h.G, h.hp, h.perm, h.up, h.le, h.pos, h.base, h.dbase⟩
theorem HAt.later (h : HAt w0 w p) (hb : Below w.heap.size w w1) : HAt w0 w1 p := h.kept (K := fun _ => False) (Kept.ofBelow hb) (fun _ _ => id)
theorem HAt.mid (h : HAt w0 w p) (h1 : HeapAtT w1 p.hb v1 p.mb p.f #[] last1 R1) (hp : Hp (kW p.way) R1) (perm : R1.Perm E1) (up : E1.Pairwise (fun a b => a.1 < b.1)) (le : ∀ r ∈ E1, r.1 ≤ last1) (pos : 0 ≤ last1) (hk : Kept (fun k => Mine p.hb p.v p.mb k ∨ False) w w1) (new : ∀ k, Mine p.hb v1 p.mb k → Mine p.hb p.v p.mb k ∨ w.heap.size ≤ k) : Mid w0 w w1 p v1 last1 R1 E1 :=
  ⟨h1, h.d.kept hk (fun _ e e2 => apart_of h.h h.d (e2.resolve_right id) e), hp, perm, up, le, pos, hk.mono (fun _ _ e => .inl (e.resolve_right id)), new⟩
theorem Mid.done (h : HAt w0 w p) (m : Mid w0 w w1 p v1 last1 R1 E1) (hw0 : w0.heap.size ≤ w.heap.size) (hd : WentH w1 w0.heap.size p.db p.dv p.way last1 E1 w2) : ∃ p', Turned w0 w p p' w2 ∧ p'.last = last1 ∧ p'.E = E1 := by
  obtain ⟨dv2, d2, k2, n2⟩ := hd
  have hh : HeapAtT w2 p.hb v1 p.mb p.f #[] last1 R1 := m.h.kept k2 (fun k e e2 => apart_of m.h m.d e e2)
  have ms := m.kept.size
  refine ⟨⟨p.hb, p.mb, v1, p.f, p.way, last1, R1, p.db, dv2, E1⟩, ⟨⟨hh, d2, h.G, m.hp, m.perm, m.up, m.le, m.pos, fun k e => ?_, fun k e => ?_⟩, m.kept.trans (k2.mono (fun k _ e => .inr e)), ?_, rfl, rfl, rfl, rfl⟩, rfl, rfl⟩
  · rcases m.new k e with e | e
    · exact h.base k e
    · omega
  · rcases n2 k e with e | e
    · exact h.dbase k e
    · omega
  · rintro k (e | e)
    · rcases m.new k e with e | e
      · exact .inl (.inl e)
      · exact .inr e
    · rcases n2 k e with e | e
      · exact .inl (.inr e)
      · exact .inr (by omega)
theorem HAt.mid0 (h : HAt w0 w p) (hb : Below w.heap.size w w1) : Mid w0 w w1 p p.v p.last p.R p.E :=
  ⟨(h.later hb).h, (h.later hb).d, h.hp, h.perm, h.up, h.le, h.pos, Kept.ofBelow hb, fun _ e => .inl e⟩
theorem HAt.push1 (h : HAt w0 w p) (x : Int × Int) (hR : p.E.length ≤ 1073741822) (hl : p.last ≤ 4611686018427387904) :
    Calls Try.prog 12 #[.pointer (some ⟨p.hb, 0, none⟩), valT x] w fun e w1 => e = .returned (.int .i64 (p.last + 1)) ∧ ∃ v1 R1, Mid w0 w w1 p v1 (p.last + 1) R1 (p.E ++ [(p.last + 1, x)]) := by
  have hle : ∀ r ∈ p.R, r.1 ≤ p.last := fun r hr => h.le r (h.perm.subset hr)
  refine (pushT h.G.asks w p.hb p.mb p.v p.last p.R x 0 h.h trivial (fun _ _ => trivial) trivial (fun _ _ h => h) (by have := h.perm.length_eq; omega) h.pos hl hle).mono ?_
  rintro e w1 ⟨rfl, v', h1, _, k1, m1⟩
  have up' := push_up (x := x) h.up h.le
  refine ⟨rfl, v', _, h.mid h1 (push_hp (ltK_key _) h.hp _ _) (push_same h1.once h.perm up') up' (fun r hr => ?_) (by have := h.pos; omega) k1 m1⟩
  rcases List.mem_append.1 hr with hr | hr
  · have := h.le r hr; omega
  · rw [List.mem_singleton.1 hr]; exact Int.le_refl _
theorem HAt.remove1 (h : HAt w0 w p) (j : Nat) (r : RowI) (hj : p.E[j]? = some r) (hR : p.E.length ≤ 1073741822) :
    Calls Try.prog 26 #[.pointer (some ⟨p.hb, 0, none⟩), .int .i64 r.1] w fun e w1 => e = .returned (.tuple #[valT r.2, .bool true]) ∧ ∃ v1 R1, Mid w0 w w1 p v1 p.last R1 (p.E.take j ++ p.E.drop (j + 1)) := by
  obtain ⟨i, hi, hr⟩ := List.mem_iff_getElem.1 (h.perm.symm.subset (List.mem_of_getElem? hj))
  have hi' : p.R[i]? = some r := by rw [List.getElem?_eq_getElem hi, hr]
  refine (removeT h.G.asks w p.hb p.mb p.v p.last p.R i 0 r h.h hi' trivial (fun _ _ => trivial) (fun _ _ h => h) (by have := h.perm.length_eq; omega)).mono ?_
  rintro e w1 ⟨rfl, v', h1, _, k1, m1⟩
  refine ⟨rfl, v', _, h.mid h1 (drop_hp (ltK_key _) h.hp hi _) (drop_same h.h.once h1.once h.perm h.up hi' hj) (drop_up h.up) (fun r hr => h.le r ((mem_without (once_up h.up) hj r).1 hr).1) h.pos k1 (fun k e => .inl ?_)⟩
  rcases e with e | e | e
  · exact .inl e
  · exact .inr (.inl (m1 ▸ e))
  · exact .inr (.inr e)
theorem HAt.pop1 (h : HAt w0 w p) (j : Nat) (r : RowI) (hj : TopOf (kW p.way) p.E j r) (hR : p.E.length ≤ 1073741822) :
    Calls Try.prog 22 #[.pointer (some ⟨p.hb, 0, none⟩)] w fun e w1 => e = .returned (.tuple #[.int .i64 r.1, valT r.2, .bool true]) ∧ ∃ v1 R1, Mid w0 w w1 p v1 p.last R1 (p.E.take j ++ p.E.drop (j + 1)) := by
  have hi' := top_same h.hp h.perm h.up hj
  have hl := (List.getElem?_eq_some_iff.1 hi').1
  refine (popT h.G.asks w p.hb p.mb p.v p.last p.R 0 h.h trivial (fun _ _ => trivial) (fun _ _ h => h) (by have := h.perm.length_eq; omega)).mono ?_
  rintro e w1 ⟨rfl, v', h1, _, k1, m1⟩
  unfold popL at h1
  rw [if_neg (by omega)] at h1
  refine ⟨by unfold topOfT; rw [hi'], v', _, h.mid h1 (drop_hp (ltK_key _) h.hp hl _) (drop_same h.h.once h1.once h.perm h.up hi' hj.1) (drop_up h.up) (fun r hr => h.le r ((mem_without (once_up h.up) hj.1 r).1 hr).1) h.pos k1 (fun k e => .inl ?_)⟩
  rcases e with e | e | e
  · exact .inl e
  · exact .inr (.inl (m1 ▸ e))
  · exact .inr (.inr e)
theorem HAt.change1 (h : HAt w0 w p) (j : Nat) (r : RowI) (x : Int × Int) (hj : p.E[j]? = some r) (hR : p.E.length ≤ 1073741822) :
    Calls Try.prog 28 #[.pointer (some ⟨p.hb, 0, none⟩), .int .i64 r.1, valT x] w fun e w1 => e = .returned (.bool true) ∧ ∃ v1 R1, Mid w0 w w1 p v1 p.last R1 (p.E.set j (r.1, x)) := by
  obtain ⟨i, hi, hr⟩ := List.mem_iff_getElem.1 (h.perm.symm.subset (List.mem_of_getElem? hj))
  have hi' : p.R[i]? = some r := by rw [List.getElem?_eq_getElem hi, hr]
  refine (changeT h.G.asks w p.hb p.mb p.v p.last p.R i 0 r x h.h hi' trivial (fun _ _ => trivial) trivial (fun _ _ h => h) (by have := h.perm.length_eq; omega)).mono ?_
  rintro e w1 ⟨rfl, h1, _, k1⟩
  refine ⟨rfl, p.v, _, h.mid h1 (change_hp h.hp hi _ _) (change_same h.h.once h1.once h.perm h.up hi' hj) (set_up h.up hj) (fun y hy => ?_) h.pos k1 (fun k e => .inl e)⟩
  rcases (mem_set_iff (once_up h.up) hj y).1 hy with e | e
  · rw [e]; exact h.le r (List.mem_of_getElem? hj)
  · exact h.le y e.1
end
end Go.Proofs.Ytkjjinccnaphpaa
