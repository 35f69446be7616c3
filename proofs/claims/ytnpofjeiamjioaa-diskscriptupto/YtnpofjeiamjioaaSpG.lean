/-
  Spoiling, Growing.
-/
import Derived.Test.YtnpofjeiamjioaaHeld
namespace Go.Proofs.Ytnpofjeiamjioaa
open Go.RowKit

/-- Blocks that are not the caller's own. -/
def NotUser (lab : Nat → Tag) (k : Nat) : Prop := ∀ i, lab k ≠ .user i

theorem Own.shapeSome {w : World} {B : Nat} {v : Value} {l : List UInt8} (h : Own w B v l) (hl : 0 < l.length) : ∃ g c, v = .slice (some ⟨g, 0, none⟩) l.length c := by
  rcases h.2 with ⟨_, h0⟩ | ⟨g, cap, cur, hv, _⟩
  · omega
  · exact ⟨g, cap, hv⟩

theorem set_same {α : Type} (l : List α) (i : Nat) (x : α) (h : l[i]? = some x) : l.set i x = l := by
  apply List.ext_getElem?
  intro j
  rw [List.getElem?_set]
  by_cases hij : i = j
  · subst hij
    have := (List.getElem?_eq_some_iff.1 h).1
    simp [this]
    exact (List.getElem?_eq_some_iff.1 h).2.symm
  · simp [hij]

/-- One byte of an entry marked, in both of its lists. -/
theorem Held.mark {w : World} {B : Nat} {lab : Nat → Tag} {Hb : Nat} {es : List Ent} (h : Held w B lab Hb 0 es) (i k : Nat) (e : Ent) (he : es[i]? = some e) (x : UInt8) (go co gw cw : Nat)
    (ho : e.out = .slice (some ⟨go, 0, none⟩) e.bytes.length co) (hw : e.want = .slice (some ⟨gw, 0, none⟩) e.bytes.length cw) :
    Held ((w.setCell ⟨go, k, none⟩ (.int .u8 (x.toNat : Int))).setCell ⟨gw, k, none⟩ (.int .u8 (x.toNat : Int))) B lab Hb 0 (es.set i ⟨e.out, e.want, e.bytes.set k x⟩) ∧
      Kept (NotUser lab) w ((w.setCell ⟨go, k, none⟩ (.int .u8 (x.toNat : Int))).setCell ⟨gw, k, none⟩ (.int .u8 (x.toNat : Int))) := by
  obtain ⟨vo, vw, hr, hes⟩ := h
  obtain ⟨⟨o1, l1⟩, o2, l2⟩ := hes i e he
  have lo : lab go = .out i := by rcases l1 go (by rw [ho]; rfl) with h | ⟨_, h⟩; exact h; simpa using h
  have lw : lab gw = .want i := l2 gw (by rw [hw]; rfl)
  have kk1 : Kept (fun j => j = go) w (w.setCell ⟨go, k, none⟩ (.int .u8 (x.toNat : Int))) := Kept.setCell _ _ _ _ _ rfl
  have kk2 : Kept (fun j => j = gw) (w.setCell ⟨go, k, none⟩ (.int .u8 (x.toNat : Int))) ((w.setCell ⟨go, k, none⟩ (.int .u8 (x.toNat : Int))).setCell ⟨gw, k, none⟩ (.int .u8 (x.toNat : Int))) := Kept.setCell _ _ _ _ _ rfl
  have hne : go ≠ gw := fun h => by rw [h, lw] at lo; cases lo
  rw [ho] at o1
  rw [hw] at o2
  have s1 := (o1.set k x).1
  have s2 := kk1.Own o2 (fun g hg e => by simp [Value.ownBlock] at hg; omega)
  have t1 := kk2.Own s1 (fun g hg e => by simp [Value.ownBlock] at hg; omega)
  have t2 := (s2.set k x).1
  have hmo : (es.set i ⟨e.out, e.want, e.bytes.set k x⟩).map (·.out) = es.map (·.out) := by
    rw [List.map_set, set_same _ _ _ (by simp [he])]
  have hmw : (es.set i ⟨e.out, e.want, e.bytes.set k x⟩).map (·.want) = es.map (·.want) := by
    rw [List.map_set, set_same _ _ _ (by simp [he])]
  refine ⟨⟨vo, vw, ?_, ?_⟩, ?_⟩
  · rw [hmo, hmw]
    exact (hr.kept kk1 (fun j hj e => by rw [e, lo] at hj; simp at hj)).kept kk2 (fun j hj e => by rw [e, lw] at hj; simp at hj)
  · intro j f hf
    by_cases hji : j = i
    · subst hji
      rw [List.getElem?_set_self (List.getElem?_eq_some_iff.1 he).1] at hf
      simp only [Option.some.injEq] at hf
      subst hf
      refine ⟨⟨?_, l1⟩, ?_, l2⟩
      · simp only []
        rw [ho]
        exact t1
      · simp only []
        rw [hw]
        exact t2
    · rw [List.getElem?_set_ne (fun h => hji h.symm)] at hf
      have := hes j f hf
      refine (this.kept kk1 (fun q hq e => ?_)).kept kk2 (fun q hq e => ?_)
      · rw [e, lo] at hq
        simp at hq
        omega
      · rw [e, lw] at hq
        simp at hq
        omega
  · exact (kk1.mono (fun q _ e => by intro u; rw [e, lo]; simp)).trans (kk2.mono (fun q _ e => by intro u; rw [e, lw]; simp))

/-- A list that has begun to grow: where its bytes lie. -/
def LTag (lab : Nat → Tag) (n i : Nat) (v : Value) : Prop := ∀ g, v.ownBlock = some g → lab g = .out i ∨ lab g = .out (n + i)

theorem nil_of_none {w : World} {B : Nat} {v : Value} {l : List UInt8} (h : Own w B v l) (hn : v.ownBlock = none) : l = [] := by
  rcases h.2 with ⟨rfl, h0⟩ | ⟨g, cap, cur, rfl, _⟩
  · exact List.eq_nil_of_length_eq_zero h0
  · simp [Value.ownBlock] at hn

/-- A list grows that began as the list of entry i: what is kept reads as it did. -/
theorem Held.growOut {w w' : World} {B : Nat} {lab : Nat → Tag} {Hb n i : Nat} {es : List Ent} (h : Held w B lab Hb n es) (hle : es.length = n + i) (hin : i < n) (e : Ent) (he : es[i]? = some e) (v : Value) (l : List UInt8) (hv : LTag lab n i v) (hel : e.bytes.length ≤ l.length)
    (hg : w.grownBy w' v.ownBlock) (hk : ∀ (b0 : Nat) (u : Value) (ys : List UInt8), Own w b0 u ys → (u.ownBlock = v.ownBlock → ys.length ≤ l.length) → Own w' b0 u ys) : Held w' B lab Hb n es := by
  obtain ⟨vo, vw, hr, hes⟩ := h
  have kg : Kept (fun q => some q = v.ownBlock) w w' := Kept.ofGrown hg (fun g hg => hg.symm)
  refine ⟨vo, vw, hr.kept kg (fun q hq e => ?_), fun j f hf => ?_⟩
  · rcases hv q e.symm with h | h <;> rw [h] at hq <;> simp at hq
  · have hjl := (List.getElem?_eq_some_iff.1 hf).1
    obtain ⟨⟨o1, l1⟩, o2, l2⟩ := hes j f hf
    refine ⟨⟨hk B f.out f.bytes o1 (fun hb => ?_), l1⟩, kg.Own o2 (fun g hg hx => ?_), l2⟩
    · cases hfo : f.out.ownBlock with
      | none => rw [nil_of_none o1 hfo]; simp
      | some g =>
        have hj : j = i := by
          rcases l1 g hfo with h1 | ⟨hnj, h1⟩ <;> rcases hv g (by rw [← hb]; exact hfo) with h2 | h2 <;> rw [h1] at h2 <;> simp at h2 <;> omega
        subst hj
        rw [he] at hf
        simp only [Option.some.injEq] at hf
        rw [← hf]
        exact hel
    · have h1 := l2 g hg
      rcases hv g hx.symm with h2 | h2 <;> rw [h1] at h2 <;> cases h2
/-- .. and the copy beside it. -/
theorem Held.growWant {w w' : World} {B : Nat} {lab : Nat → Tag} {Hb n : Nat} {es : List Ent} (h : Held w B lab Hb n es) (v : Value) (hv : Tagged lab v (.want es.length)) (hg : w.grownBy w' v.ownBlock) : Held w' B lab Hb n es := by
  obtain ⟨vo, vw, hr, hes⟩ := h
  have kg : Kept (fun q => some q = v.ownBlock) w w' := Kept.ofGrown hg (fun g hg => hg.symm)
  refine ⟨vo, vw, hr.kept kg (fun q hq e => ?_), fun j f hf => (hes j f hf).kept kg (fun q hq e => ?_)⟩
  · rw [hv q e.symm] at hq; simp at hq
  · have hjl := (List.getElem?_eq_some_iff.1 hf).1
    rw [hv q e.symm] at hq
    simp at hq
    omega
end Go.Proofs.Ytnpofjeiamjioaa

namespace Go.Proofs.Ytnpofjeiamjioaa
open Go.RowKit

theorem Held.toN {w : World} {B : Nat} {lab : Nat → Tag} {Hb : Nat} {es : List Ent} (h : Held w B lab Hb 0 es) : Held w B lab Hb es.length es := by
  obtain ⟨vo, vw, hr, hes⟩ := h
  refine ⟨vo, vw, hr, fun j e he => ?_⟩
  obtain ⟨⟨o1, l1⟩, o2⟩ := hes j e he
  exact ⟨⟨o1, fun g hg => .inl (by rcases l1 g hg with h | ⟨_, h⟩; exact h; simpa using h)⟩, o2⟩

/-- The lists that are kept (n of them, i more), one that began as the list of entry i, and its copy. -/
def Grows (w : World) (B : Nat) (lab : Nat → Tag) (Hb n i : Nat) (es : List Ent) (v u : Value) (l m : List UInt8) : Prop :=
  Held w B lab Hb n es ∧ (Own w B v l ∧ LTag lab n i v) ∧ (Own w B u m ∧ Tagged lab u (.want (n + i))) ∧ es.length = n + i ∧ i < n ∧ ∃ e, es[i]? = some e ∧ e.bytes.length ≤ l.length

theorem Grows.below {w w' : World} {B : Nat} {lab : Nat → Tag} {Hb n i : Nat} {es : List Ent} {v u : Value} {l m : List UInt8} (h : Grows w B lab Hb n i es v u l m) (hb : Below w.heap.size w w') : Grows w' B lab Hb n i es v u l m :=
  ⟨h.1.below hb, ⟨h.2.1.1.below hb, h.2.1.2⟩, ⟨h.2.2.1.1.below hb, h.2.2.1.2⟩, h.2.2.2⟩

/-- The list grows. -/
theorem Grows.out {w w' : World} {B : Nat} {lab : Nat → Tag} {Hb n i : Nat} {es : List Ent} {v u v' : Value} {l m x : List UInt8} (h : Grows w B lab Hb n i es v u l m) (ho : Own w' B v' (l ++ x)) (hg : w.grownBy w' v.ownBlock)
    (hk : ∀ (b0 : Nat) (u : Value) (ys : List UInt8), Own w b0 u ys → (u.ownBlock = v.ownBlock → ys.length ≤ l.length) → Own w' b0 u ys) (hv : v'.ownBlock = v.ownBlock ∨ v'.ownBlock = some w.heap.size) :
    Grows w' B (fun k => if k = w.heap.size then .out (n + i) else lab k) Hb n i es v' u (l ++ x) m ∧ Kept (NotUser lab) w w' := by
  obtain ⟨hh, ⟨ov, tv⟩, ⟨ou, tu⟩, hle, hin, e, he, hel⟩ := h
  have hlab : ∀ k, k < w.heap.size → (fun k => if k = w.heap.size then Tag.out (n + i) else lab k) k = lab k := fun k hk => if_neg (by omega)
  have tv1 : LTag (fun k => if k = w.heap.size then Tag.out (n + i) else lab k) n i v := fun g hgv => by rw [hlab g (ov.lt g hgv).2]; exact tv g hgv
  have tu1 := tu.congr ou hlab
  have kg : Kept (fun q => some q = v.ownBlock) w w' := Kept.ofGrown hg (fun g hg => hg.symm)
  refine ⟨⟨(hh.relabel hlab).growOut hle hin e he v l tv1 hel hg hk, ⟨ho, fun g hgv => ?_⟩, ⟨kg.Own ou (fun g hgu hx => ?_), tu1⟩, hle, hin, e, he, by simp; omega⟩, kg.mono (fun q _ hq => ?_)⟩
  · rcases hv with hv | hv
    · exact tv1 g (hv.symm.trans hgv)
    · rw [hv] at hgv
      simp only [Option.some.injEq] at hgv
      right
      exact if_pos hgv.symm
  · have h1 := tu g hgu
    rcases tv g hx.symm with h2 | h2 <;> rw [h1] at h2 <;> cases h2
  · intro a
    rcases tv q hq.symm with h2 | h2 <;> rw [h2] <;> simp
/-- Its copy grows. -/
theorem Grows.want {w w' : World} {B : Nat} {lab : Nat → Tag} {Hb n i : Nat} {es : List Ent} {v u u' : Value} {l m x : List UInt8} (h : Grows w B lab Hb n i es v u l m) (ho : Own w' B u' (m ++ x)) (hg : w.grownBy w' u.ownBlock) (hv : u'.ownBlock = u.ownBlock ∨ u'.ownBlock = some w.heap.size) :
    Grows w' B (fun k => if k = w.heap.size then .want (n + i) else lab k) Hb n i es v u' l (m ++ x) ∧ Kept (NotUser lab) w w' := by
  obtain ⟨hh, ⟨ov, tv⟩, ⟨ou, tu⟩, hle, hin, e, he, hel⟩ := h
  have hlab : ∀ k, k < w.heap.size → (fun k => if k = w.heap.size then Tag.want (n + i) else lab k) k = lab k := fun k hk => if_neg (by omega)
  have tv1 : LTag (fun k => if k = w.heap.size then Tag.want (n + i) else lab k) n i v := fun g hgv => by rw [hlab g (ov.lt g hgv).2]; exact tv g hgv
  have tu1 := tu.congr ou hlab
  have kg : Kept (fun q => some q = u.ownBlock) w w' := Kept.ofGrown hg (fun g hg => hg.symm)
  refine ⟨⟨(hh.relabel hlab).growWant u (by rw [hle]; exact tu1) hg, ⟨kg.Own ov (fun g hgv hx => ?_), tv1⟩, ⟨ho, fun g hgv => ?_⟩, hle, hin, e, he, hel⟩, kg.mono (fun q _ hq => ?_)⟩
  · have h1 := tu g hx.symm
    rcases tv g hgv with h2 | h2 <;> rw [h1] at h2 <;> cases h2
  · rcases hv with hv | hv
    · exact tu1 g (hv.symm.trans hgv)
    · rw [hv] at hgv
      simp only [Option.some.injEq] at hgv
      exact if_pos hgv.symm
  · intro a
    rw [tu q hq.symm]
    simp

/-- A copy is made, and the growing begins. -/
theorem Grows.start {w w1 : World} {B : Nat} {lab : Nat → Tag} {Hb n i : Nat} {es : List Ent} {u : Value} (h : Held w B lab Hb n es) (hle : es.length = n + i) (hin : i < n) (e : Ent) (he : es[i]? = some e) (hb : Below w.heap.size w w1) (ou : Own w1 w.heap.size u e.bytes) (hB : B ≤ w.heap.size) :
    Grows w1 B (fun k => if k < w.heap.size then lab k else .want (n + i)) Hb n i es e.out u e.bytes e.bytes := by
  have hlab : ∀ k, k < w.heap.size → (fun k => if k < w.heap.size then lab k else Tag.want (n + i)) k = lab k := fun k hk => if_pos hk
  have h1 := (h.relabel hlab).below hb
  obtain ⟨vo, vw, hr, hes⟩ := h
  obtain ⟨⟨o1, l1⟩, o2⟩ := hes i e he
  refine ⟨h1, ⟨o1.below hb, fun g hg => ?_⟩, ⟨ou.mono hB, fun g hg => ?_⟩, hle, hin, e, he, Nat.le_refl _⟩
  · left
    rw [hlab g (o1.lt g hg).2]
    rcases l1 g hg with h | ⟨hn, _⟩
    · exact h
    · omega
  · have := (ou.lt g hg).1
    exact if_neg (by omega)

/-- Both are put into the lists. -/
theorem Grows.entry {w : World} {B : Nat} {lab : Nat → Tag} {Hb n i : Nat} {es : List Ent} {v u : Value} {l : List UInt8} (h : Grows w B lab Hb n i es v u l l) : EntAt w B lab n es.length ⟨v, u, l⟩ := by
  obtain ⟨_, ⟨ov, tv⟩, ⟨ou, tu⟩, hle, _⟩ := h
  rw [hle]
  exact ⟨⟨ov, fun g hg => by rcases tv g hg with h | h; exact .inr ⟨by omega, by rw [h]; congr 1; omega⟩; exact .inl h⟩, ⟨ou, tu⟩⟩

/-- One entry more: what both appends and both stores make. -/
theorem Held.pushed {w w2 w4 : World} {B : Nat} {lab : Nat → Tag} {Hb n : Nat} {es : List Ent} {vo vw vo' vw' : Value} {e : Ent} (hr : HRows w B lab Hb vo vw (es.map (·.out)) (es.map (·.want))) (hes : Ents w B lab n es) (hnew : EntAt w B lab n es.length e) (o1 o2 : Obj)
    (ho1 : w2.ownsRow B 37 1 vo' ((es.map (·.out)).length + 1) (es.map (·.out) ++ [e.out])) (hg1 : (w.alloc o1).grownBy w2 vo.ownBlock) (hv1 : vo'.ownBlock = vo.ownBlock ∨ vo'.ownBlock = some (w.alloc o1).heap.size)
    (ho2 : w4.ownsRow B 37 1 vw' ((es.map (·.want)).length + 1) (es.map (·.want) ++ [e.want])) (hg2 : ((w2.setCell ⟨Hb, 0, none⟩ vo').alloc o2).grownBy w4 vw.ownBlock) (hv2 : vw'.ownBlock = vw.ownBlock ∨ vw'.ownBlock = some ((w2.setCell ⟨Hb, 0, none⟩ vo').alloc o2).heap.size) :
    ∃ lab', Held (w4.setCell ⟨Hb, 1, none⟩ vw') B lab' Hb n (es ++ [e]) ∧ (∀ k, k < w.heap.size → lab' k = lab k) ∧ Kept (Lists lab) w (w4.setCell ⟨Hb, 1, none⟩ vw') := by
  have hal1 : Below w.heap.size w (w.alloc o1) := (Below.refl _ w).alloc (Nat.le_refl _) _
  obtain ⟨hr3, k3⟩ := (hr.alloc o1).pushOut ho1 hg1 hv1
  obtain ⟨hr5, k5⟩ := (hr3.alloc o2).pushWant ho2 hg2 hv2
  have hz2 := hg1.size
  have chain : ∀ j f, EntAt w B lab n j f → EntAt (w4.setCell ⟨Hb, 1, none⟩ vw') B _ n j f := fun j f h => (((h.below hal1).push k3 .outs (.inl rfl)).below ((Below.refl _ _).alloc (Nat.le_refl _) o2)).push k5 .wants (.inr rfl)
  refine ⟨_, ⟨_, _, by rw [List.map_append, List.map_append]; exact hr5, ?_⟩, ?_, ?_⟩
  · intro j f hj
    refine chain j f ?_
    by_cases hjl : j < es.length
    · rw [List.getElem?_append_left hjl] at hj
      exact hes j f hj
    · rw [List.getElem?_append_right (by omega)] at hj
      have hj0 : j - es.length = 0 := by have := (List.getElem?_eq_some_iff.1 hj).1; simp at this; omega
      obtain rfl : j = es.length := by omega
      rw [hj0] at hj
      simp only [List.getElem?_cons_zero, Option.some.injEq] at hj
      subst hj
      exact hnew
  · intro k hk
    simp at hz2 ⊢
    rw [if_neg (by omega), if_neg (by omega)]
  · refine (((Kept.ofBelow hal1 : Kept (Lists lab) w _).step k3 ?_).trans (Kept.ofBelow ((Below.refl _ _).alloc (Nat.le_refl _) o2))).step k5 ?_
    · intro k hk h
      exact h
    · intro k hk h
      unfold Lists at h ⊢
      simp only [World.size_alloc] at h
      rw [if_neg (by omega)] at h
      exact h
end Go.Proofs.Ytnpofjeiamjioaa
