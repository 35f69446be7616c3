/-
  What marking a byte, and letting a list grow, make of lists that are kept.
-/
import Derived.Test.YtibcfbajjnpbfaaHeld
namespace Go.Proofs.Ytibcfbajjnpbfaa
open Go.RowKit

/-- Blocks that are not the caller's own. -/
def NotUser (lab : Nat → Tag) (k : Nat) : Prop := ∀ i, lab k ≠ .user i

theorem Own.shapeSome {w : World} {B : Nat} {v : Value} {l : List UInt8} (h : Own w B v l) (hl : 0 < l.length) : ∃ g c, v = .slice (some ⟨g, 0, none⟩) l.length c := by
  rcases h.2 with ⟨_, h0⟩ | ⟨g, cap, cur, hv, _⟩
  · omega
  · exact ⟨g, cap, hv⟩

theorem set_same {α : Type} (l : List α) (i : Nat) (x : α) (h : l[i]? = some x) : l.set i x = l := by
  apply List.ext_getElem?
  intro j
  rw [List.getElem?_set]
  by_cases hij : i = j
  · subst hij
    have := (List.getElem?_eq_some_iff.1 h).1
    simp [this]
    exact (List.getElem?_eq_some_iff.1 h).2.symm
  · simp [hij]

/-- One byte of an entry marked, in both of its lists. -/
theorem Held.mark {w : World} {B : Nat} {lab : Nat → Tag} {Hb : Nat} {es : List Ent} (h : Held w B lab Hb 0 es) (i k : Nat) (e : Ent) (he : es[i]? = some e) (x : UInt8) (go co gw cw : Nat)
    (ho : e.out = .slice (some ⟨go, 0, none⟩) e.bytes.length co) (hw : e.want = .slice (some ⟨gw, 0, none⟩) e.bytes.length cw) :
    Held ((w.setCell ⟨go, k, none⟩ (.int .u8 (x.toNat : Int))).setCell ⟨gw, k, none⟩ (.int .u8 (x.toNat : Int))) B lab Hb 0 (es.set i ⟨e.out, e.want, e.bytes.set k x⟩) ∧
      Kept (NotUser lab) w ((w.setCell ⟨go, k, none⟩ (.int .u8 (x.toNat : Int))).setCell ⟨gw, k, none⟩ (.int .u8 (x.toNat : Int))) := by
  obtain ⟨vo, vw, hr, hes⟩ := h
  obtain ⟨⟨o1, l1⟩, o2, l2⟩ := hes i e he
  have lo : lab go = .out i := by rcases l1 go (by rw [ho]; rfl) with h | ⟨_, h⟩; exact h; simpa using h
  have lw : lab gw = .want i := l2 gw (by rw [hw]; rfl)
  have kk1 : Kept (fun j => j = go) w (w.setCell ⟨go, k, none⟩ (.int .u8 (x.toNat : Int))) := Kept.setCell _ _ _ _ _ rfl
  have kk2 : Kept (fun j => j = gw) (w.setCell ⟨go, k, none⟩ (.int .u8 (x.toNat : Int))) ((w.setCell ⟨go, k, none⟩ (.int .u8 (x.toNat : Int))).setCell ⟨gw, k, none⟩ (.int .u8 (x.toNat : Int))) := Kept.setCell _ _ _ _ _ rfl
  have hne : go ≠ gw := fun h => by rw [h, lw] at lo; cases lo
  rw [ho] at o1
  rw [hw] at o2
  have s1 := (o1.set k x).1
  have s2 := kk1.Own o2 (fun g hg e => by simp [Value.ownBlock] at hg; omega)
  have t1 := kk2.Own s1 (fun g hg e => by simp [Value.ownBlock] at hg; omega)
  have t2 := (s2.set k x).1
  have hmo : (es.set i ⟨e.out, e.want, e.bytes.set k x⟩).map (·.out) = es.map (·.out) := by
    rw [List.map_set, set_same _ _ _ (by simp [he])]
  have hmw : (es.set i ⟨e.out, e.want, e.bytes.set k x⟩).map (·.want) = es.map (·.want) := by
    rw [List.map_set, set_same _ _ _ (by simp [he])]
  refine ⟨⟨vo, vw, ?_, ?_⟩, ?_⟩
  · rw [hmo, hmw]
    exact (hr.kept kk1 (fun j hj e => by rw [e, lo] at hj; simp at hj)).kept kk2 (fun j hj e => by rw [e, lw] at hj; simp at hj)
  · intro j f hf
    by_cases hji : j = i
    · subst hji
      rw [List.getElem?_set_self (List.getElem?_eq_some_iff.1 he).1] at hf
      simp only [Option.some.injEq] at hf
      subst hf
      refine ⟨⟨?_, l1⟩, ?_, l2⟩
      · simp only []
        rw [ho]
        exact t1
      · simp only []
        rw [hw]
        exact t2
    · rw [List.getElem?_set_ne (fun h => hji h.symm)] at hf
      have := hes j f hf
      refine (this.kept kk1 (fun q hq e => ?_)).kept kk2 (fun q hq e => ?_)
      · rw [e, lo] at hq
        simp at hq
        omega
      · rw [e, lw] at hq
        simp at hq
        omega
  · exact (kk1.mono (fun q _ e => by intro u; rw [e, lo]; simp)).trans (kk2.mono (fun q _ e => by intro u; rw [e, lw]; simp))

/-- A list that has begun to grow: where its bytes lie. -/
def LTag (lab : Nat → Tag) (n i : Nat) (v : Value) : Prop := ∀ g, v.ownBlock = some g → lab g = .out i ∨ lab g = .out (n + i)

theorem nil_of_none {w : World} {B : Nat} {v : Value} {l : List UInt8} (h : Own w B v l) (hn : v.ownBlock = none) : l = [] := by
  rcases h.2 with ⟨rfl, h0⟩ | ⟨g, cap, cur, rfl, _⟩
  · exact List.eq_nil_of_length_eq_zero h0
  · simp [Value.ownBlock] at hn

/-- A list grows that began as the list of entry i: what is kept reads as it did. -/
theorem Held.growOut {w w' : World} {B : Nat} {lab : Nat → Tag} {Hb n i : Nat} {es : List Ent} (h : Held w B lab Hb n es) (hle : es.length = n + i) (hin : i < n) (e : Ent) (he : es[i]? = some e) (v : Value) (l : List UInt8) (hv : LTag lab n i v) (hel : e.bytes.length ≤ l.length)
    (hg : w.grownBy w' v.ownBlock) (hk : ∀ (b0 : Nat) (u : Value) (ys : List UInt8), Own w b0 u ys → (u.ownBlock = v.ownBlock → ys.length ≤ l.length) → Own w' b0 u ys) : Held w' B lab Hb n es := by
  obtain ⟨vo, vw, hr, hes⟩ := h
  have kg : Kept (fun q => some q = v.ownBlock) w w' := Kept.ofGrown hg (fun g hg => hg.symm)
  refine ⟨vo, vw, hr.kept kg (fun q hq e => ?_), fun j f hf => ?_⟩
  · rcases hv q e.symm with h | h <;> rw [h] at hq <;> simp at hq
  · have hjl := (List.getElem?_eq_some_iff.1 hf).1
    obtain ⟨⟨o1, l1⟩, o2, l2⟩ := hes j f hf
    refine ⟨⟨hk B f.out f.bytes o1 (fun hb => ?_), l1⟩, kg.Own o2 (fun g hg hx => ?_), l2⟩
    · cases hfo : f.out.ownBlock with
      | none => rw [nil_of_none o1 hfo]; simp
      | some g =>
        have hj : j = i := by
          rcases l1 g hfo with h1 | ⟨hnj, h1⟩ <;> rcases hv g (by rw [← hb]; exact hfo) with h2 | h2 <;> rw [h1] at h2 <;> simp at h2 <;> omega
        subst hj
        rw [he] at hf
        simp only [Option.some.injEq] at hf
        rw [← hf]
        exact hel
    · have h1 := l2 g hg
      rcases hv g hx.symm with h2 | h2 <;> rw [h1] at h2 <;> cases h2
/-- .. and the copy beside it. -/
theorem Held.growWant {w w' : World} {B : Nat} {lab : Nat → Tag} {Hb n : Nat} {es : List Ent} (h : Held w B lab Hb n es) (v : Value) (hv : Tagged lab v (.want es.length)) (hg : w.grownBy w' v.ownBlock) : Held w' B lab Hb n es := by
  obtain ⟨vo, vw, hr, hes⟩ := h
  have kg : Kept (fun q => some q = v.ownBlock) w w' := Kept.ofGrown hg (fun g hg => hg.symm)
  refine ⟨vo, vw, hr.kept kg (fun q hq e => ?_), fun j f hf => (hes j f hf).kept kg (fun q hq e => ?_)⟩
  · rw [hv q e.symm] at hq; simp at hq
  · have hjl := (List.getElem?_eq_some_iff.1 hf).1
    rw [hv q e.symm] at hq
    simp at hq
    omega
end Go.Proofs.Ytibcfbajjnpbfaa
