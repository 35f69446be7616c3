/-
  An entry of which one list is marked, and the other not yet.
-/
import Derived.Test.YtkjjinccnaphpaaIHeldM
import Derived.Test.YtkjjinccnaphpaaIHolds
namespace Go.Proofs.Ytkjjinccnaphpaa
open Go.RowKit

def Half (w : World) (B : Nat) (lab : Nat → Tag) (Hb : Nat) (fr : Fx) (first : Nat) (es : List Ent) (i : Nat) (e : Ent) (b : List Int) : Prop :=
  ∃ vo vw, HRows w B lab Hb vo vw fr (es.map (·.out)) (es.map (·.want)) ∧ (∀ (j : Nat) f, j ≠ i → es[j]? = some f → EntAt w B lab (okA first) j f) ∧ es[i]? = some e ∧ (OwnI w B e.out b ∧ Tagged lab e.out (.out i)) ∧ (OwnI w B e.want e.bytes ∧ Tagged lab e.want (.want i)) ∧ first ≤ i

theorem Half.below {w w' : World} {B : Nat} {lab : Nat → Tag} {Hb : Nat} {fr : Fx} {first : Nat} {es : List Ent} {i : Nat} {e : Ent} {b : List Int} (h : Half w B lab Hb fr first es i e b) (hb : Below w.heap.size w w') : Half w' B lab Hb fr first es i e b := by
  obtain ⟨vo, vw, h1, h2, h3, ⟨h4, h5⟩, ⟨h6, h7⟩, h8⟩ := h
  exact ⟨vo, vw, h1.below hb, fun j f hj hf => (h2 j f hj hf).below hb, h3, ⟨h4.below hb, h5⟩, ⟨h6.below hb, h7⟩, h8⟩

theorem Half.start {w : World} {B : Nat} {lab : Nat → Tag} {Hb : Nat} {fr : Fx} {first : Nat} {es : List Ent} (h : Held w B lab Hb fr (okA first) es) (i k : Nat) (hi : first ≤ i) (e : Ent) (he : es[i]? = some e) (x : Int) (go co : Nat) (ho : e.out = .slice (some ⟨go, 0, none⟩) e.bytes.length co) :
    Half (w.setCell ⟨go, k, none⟩ (.int .i64 x)) B lab Hb fr first es i e (e.bytes.set k x) ∧ Kept (NotUser lab) w (w.setCell ⟨go, k, none⟩ (.int .i64 x)) := by
  obtain ⟨vo, vw, hr, hes⟩ := h
  obtain ⟨⟨o1, l1⟩, o2, l2⟩ := hes i e he
  have lo : lab go = .out i := by
    obtain ⟨q, hq, hok⟩ := l1 go (by rw [ho]; rfl)
    rcases hok with ⟨h, _⟩ | h
    · omega
    · rw [hq, h]
  have kk1 : Kept (fun j => j = go) w (w.setCell ⟨go, k, none⟩ (.int .i64 x)) := Kept.setCell _ _ _ _ _ rfl
  refine ⟨⟨vo, vw, hr.kept kk1 (fun j hj e => by rw [e, lo] at hj; simp at hj), fun j f hji hf => (hes j f hf).kept kk1 (fun q hq e => ?_), he, ⟨?_, fun g hg => ?_⟩, ⟨kk1.ownI o2 (fun g hg e => ?_), l2⟩, hi⟩, kk1.mono (fun q _ e => by intro u; rw [e, lo]; simp)⟩
  · rw [e, lo] at hq
    rcases hq with ⟨q', hq', hok⟩ | hq
    · simp at hq'
      rcases hok with h | h <;> omega
    · simp at hq
  · rw [ho] at o1 ⊢
    exact (o1.set k x).1
  · rw [ho] at hg
    simp [Value.ownBlock] at hg
    rw [← hg]
    exact lo
  · have := l2 g hg
    rw [e, lo] at this
    simp at this

theorem Half.finish {w : World} {B : Nat} {lab : Nat → Tag} {Hb : Nat} {fr : Fx} {first : Nat} {es : List Ent} {i : Nat} {e : Ent} {k : Nat} {x : Int} (h : Half w B lab Hb fr first es i e (e.bytes.set k x)) (gw cw : Nat) (hw : e.want = .slice (some ⟨gw, 0, none⟩) e.bytes.length cw) :
    Held (w.setCell ⟨gw, k, none⟩ (.int .i64 x)) B lab Hb fr (okA first) (es.set i ⟨e.out, e.want, e.bytes.set k x⟩) ∧ Kept (NotUser lab) w (w.setCell ⟨gw, k, none⟩ (.int .i64 x)) := by
  obtain ⟨vo, vw, hr, hes, he, ⟨o1, l1⟩, ⟨o2, l2⟩, hi⟩ := h
  have lw : lab gw = .want i := l2 gw (by rw [hw]; rfl)
  have kk2 : Kept (fun j => j = gw) w (w.setCell ⟨gw, k, none⟩ (.int .i64 x)) := Kept.setCell _ _ _ _ _ rfl
  have t1 := kk2.ownI o1 (fun g hg e => by have := l1 g hg; rw [e, lw] at this; simp at this)
  rw [hw] at o2
  have t2 := (o2.set k x).1
  have hmo : (es.set i ⟨e.out, e.want, e.bytes.set k x⟩).map (·.out) = es.map (·.out) := by
    rw [List.map_set, set_same _ _ _ (by simp [he])]
  have hmw : (es.set i ⟨e.out, e.want, e.bytes.set k x⟩).map (·.want) = es.map (·.want) := by
    rw [List.map_set, set_same _ _ _ (by simp [he])]
  refine ⟨⟨vo, vw, ?_, ?_⟩, kk2.mono (fun q _ e => by intro u; rw [e, lw]; simp)⟩
  · rw [hmo, hmw]
    exact hr.kept kk2 (fun j hj e => by rw [e, lw] at hj; simp at hj)
  · intro j f hf
    by_cases hji : j = i
    · subst hji
      rw [List.getElem?_set_self (List.getElem?_eq_some_iff.1 he).1] at hf
      simp only [Option.some.injEq] at hf
      subst hf
      refine ⟨⟨t1, fun g hg => ⟨_, l1 g hg, .inr rfl⟩⟩, ?_, l2⟩
      simp only []
      rw [hw]
      exact t2
    · rw [List.getElem?_set_ne (fun h => hji h.symm)] at hf
      refine (hes j f hji hf).kept kk2 (fun q hq e => ?_)
      rw [e, lw] at hq
      rcases hq with ⟨q', hq', hok⟩ | hq
      · simp at hq'
      · simp at hq
        omega

/-- What the walk reads of lists that are kept. -/
theorem HRows.reads {w : World} {B : Nat} {lab : Nat → Tag} {Hb : Nat} {vo vw : Value} {fr : Fx} {es : List Ent} (hr : HRows w B lab Hb vo vw fr (es.map (·.out)) (es.map (·.want))) :
    ∃ ao co aw cw, w.cell? ⟨Hb, 2, none⟩ = some (.slice ao es.length co) ∧ w.cell? ⟨Hb, 3, none⟩ = some (.slice aw es.length cw) ∧ w.cell? ⟨Hb, 4, none⟩ = some fr.f ∧
      (∀ (j : Nat) e, es[j]? = some e → ∃ go gw, (ao = some ⟨go, 0, none⟩ ∧ w.cell? ⟨go, j, none⟩ = some e.out ∧ go < w.heap.size) ∧ (aw = some ⟨gw, 0, none⟩ ∧ w.cell? ⟨gw, j, none⟩ = some e.want ∧ gw < w.heap.size)) ∧ Hb < w.heap.size := by
  have k0 := hr.cell0
  have k1 := hr.cell1
  have k2 : w.cell? ⟨Hb, 4, none⟩ = some fr.f := by simp [World.cell?, hr.1]
  obtain ⟨ao, co, rfl, _, _, hob⟩ := row_shape hr.2.2.2.1.1
  obtain ⟨aw, cw, rfl, _, _, hwb⟩ := row_shape hr.2.2.2.2.1
  rw [List.length_map] at k0 k1 hob hwb
  refine ⟨ao, co, aw, cw, k0, k1, k2, fun j e he => ?_, hr.lt⟩
  have hl : 0 < es.length := by have := (List.getElem?_eq_some_iff.1 he).1; omega
  obtain ⟨go, h1, h2, h3⟩ := hob hl
  obtain ⟨gw, h4, h5, h6⟩ := hwb hl
  exact ⟨go, gw, ⟨h1, h3 j e.out (by simp [he]), (hr.2.2.2.1.1.lt go (by rw [List.length_map]; exact h2)).2⟩, ⟨h4, h6 j e.want (by simp [he]), (hr.2.2.2.2.1.lt gw (by rw [List.length_map]; exact h5)).2⟩⟩
end Go.Proofs.Ytkjjinccnaphpaa
