/-
  What marking a text, and letting a list grow, make of lists of texts that are kept.
-/
import Derived.Test.YthjaehibndmehaaTHeld
namespace Go.Proofs.Ythjaehibndmehaa
open Go.RowKit

/-- Blocks that are not the caller's own. -/
def NotUser (lab : Nat → Tag) (k : Nat) : Prop := ∀ i, lab k ≠ .user i
/-- Whose blocks the entries' lists lie in: ahead of 'first' in old ones, behind it each in its own. -/
def okA (first j q : Nat) : Prop := (j < first ∧ q < first) ∨ q = j
/-- .. while they grow: the new ones, behind n, in the old one's or their own. -/
def okB (first n j q : Nat) : Prop := (j < first ∧ q < first) ∨ q = j ∨ (n ≤ j ∧ first ≤ q ∧ q < n ∧ j = n + (q - first))

theorem set_same {α : Type} (l : List α) (i : Nat) (x : α) (h : l[i]? = some x) : l.set i x = l := by
  apply List.ext_getElem?
  intro j
  rw [List.getElem?_set]
  by_cases hij : i = j
  · subst hij
    have := (List.getElem?_eq_some_iff.1 h).1
    simp [this]
    exact (List.getElem?_eq_some_iff.1 h).2.symm
  · simp [hij]

/-- One text of an entry marked, in both of its lists. -/
theorem Held.mark {w : World} {B : Nat} {lab : Nat → Tag} {Hb : Nat} {fr : Value} {first : Nat} {es : List Ent} (h : Held w B lab Hb fr (okA first) es) (i k : Nat) (hi : first ≤ i) (e : Ent) (he : es[i]? = some e) (x : ByteArray) (go co gw cw : Nat)
    (ho : e.out = .slice (some ⟨go, 0, none⟩) e.bytes.length co) (hw : e.want = .slice (some ⟨gw, 0, none⟩) e.bytes.length cw) :
    (Kept (NotUser lab) w (w.setCell ⟨go, k, none⟩ (.string x)) ∧ lab go = .out i ∧ lab gw = .want i) ∧
    Held ((w.setCell ⟨go, k, none⟩ (.string x)).setCell ⟨gw, k, none⟩ (.string x)) B lab Hb fr (okA first) (es.set i ⟨e.out, e.want, e.bytes.set k x⟩) ∧
      Kept (NotUser lab) w ((w.setCell ⟨go, k, none⟩ (.string x)).setCell ⟨gw, k, none⟩ (.string x)) := by
  obtain ⟨vo, vw, hr, hes⟩ := h
  obtain ⟨⟨o1, l1⟩, o2, l2⟩ := hes i e he
  have lo : lab go = .out i := by
    obtain ⟨q, hq, hok⟩ := l1 go (by rw [ho]; rfl)
    rcases hok with ⟨h, _⟩ | h
    · omega
    · rw [hq, h]
  have lw : lab gw = .want i := l2 gw (by rw [hw]; rfl)
  have kk1 : Kept (fun j => j = go) w (w.setCell ⟨go, k, none⟩ (.string x)) := Kept.setCell _ _ _ _ _ rfl
  have kk2 : Kept (fun j => j = gw) (w.setCell ⟨go, k, none⟩ (.string x)) ((w.setCell ⟨go, k, none⟩ (.string x)).setCell ⟨gw, k, none⟩ (.string x)) := Kept.setCell _ _ _ _ _ rfl
  have hne : go ≠ gw := fun h => by rw [h, lw] at lo; simp at lo
  rw [ho] at o1
  rw [hw] at o2
  have s1 := (o1.set k x).1
  have s2 := kk1.ownS o2 (fun g hg e => by simp [Value.ownBlock] at hg; omega)
  have t1 := kk2.ownS s1 (fun g hg e => by simp [Value.ownBlock] at hg; omega)
  have t2 := (s2.set k x).1
  have hmo : (es.set i ⟨e.out, e.want, e.bytes.set k x⟩).map (·.out) = es.map (·.out) := by
    rw [List.map_set, set_same _ _ _ (by simp [he])]
  have hmw : (es.set i ⟨e.out, e.want, e.bytes.set k x⟩).map (·.want) = es.map (·.want) := by
    rw [List.map_set, set_same _ _ _ (by simp [he])]
  refine ⟨⟨kk1.mono (fun q _ e => by intro u; rw [e, lo]; simp), lo, lw⟩, ⟨vo, vw, ?_, ?_⟩, ?_⟩
  · rw [hmo, hmw]
    exact (hr.kept kk1 (fun j hj e => by rw [e, lo] at hj; simp at hj)).kept kk2 (fun j hj e => by rw [e, lw] at hj; simp at hj)
  · intro j f hf
    by_cases hji : j = i
    · subst hji
      rw [List.getElem?_set_self (List.getElem?_eq_some_iff.1 he).1] at hf
      simp only [Option.some.injEq] at hf
      subst hf
      refine ⟨⟨?_, l1⟩, ?_, l2⟩
      · simp only []
        rw [ho]
        exact t1
      · simp only []
        rw [hw]
        exact t2
    · rw [List.getElem?_set_ne (fun h => hji h.symm)] at hf
      have := hes j f hf
      refine (this.kept kk1 (fun q hq e => ?_)).kept kk2 (fun q hq e => ?_)
      · rw [e, lo] at hq
        rcases hq with ⟨q', hq', hok⟩ | hq
        · simp at hq'
          rcases hok with h | h <;> omega
        · simp at hq
      · rw [e, lw] at hq
        rcases hq with ⟨q', hq', hok⟩ | hq
        · simp at hq'
        · simp at hq
          omega
  · exact (kk1.mono (fun q _ e => by intro u; rw [e, lo]; simp)).trans (kk2.mono (fun q _ e => by intro u; rw [e, lw]; simp))

theorem Held.toB {w : World} {B : Nat} {lab : Nat → Tag} {Hb : Nat} {fr : Value} {first n : Nat} {es : List Ent} (h : Held w B lab Hb fr (okA first) es) : Held w B lab Hb fr (okB first n) es := by
  obtain ⟨vo, vw, hr, hes⟩ := h
  refine ⟨vo, vw, hr, fun j e he => ?_⟩
  obtain ⟨⟨o1, l1⟩, o2⟩ := hes j e he
  refine ⟨⟨o1, fun g hg => ?_⟩, o2⟩
  obtain ⟨q, hq, hok⟩ := l1 g hg
  exact ⟨q, hq, by rcases hok with h | h; exact .inl h; exact .inr (.inl h)⟩
theorem Held.toA {w : World} {B : Nat} {lab : Nat → Tag} {Hb : Nat} {fr : Value} {first n : Nat} {es : List Ent} (h : Held w B lab Hb fr (okB first n) es) (hf : first ≤ n) (hl : n ≤ es.length) : Held w B lab Hb fr (okA es.length) es := by
  obtain ⟨vo, vw, hr, hes⟩ := h
  refine ⟨vo, vw, hr, fun j e he => ?_⟩
  have hj := (List.getElem?_eq_some_iff.1 he).1
  obtain ⟨⟨o1, l1⟩, o2⟩ := hes j e he
  refine ⟨⟨o1, fun g hg => ?_⟩, o2⟩
  obtain ⟨q, hq, hok⟩ := l1 g hg
  refine ⟨q, hq, ?_⟩
  unfold okB at hok
  unfold okA
  omega

/-- A list that has begun to grow: where its texts lie. -/
def LTag (lab : Nat → Tag) (i n : Nat) (v : Value) : Prop := ∀ g, v.ownBlock = some g → lab g = .out i ∨ lab g = .out n

theorem nil_of_none {w : World} {B : Nat} {v : Value} {l : List ByteArray} (h : OwnS w B v l) (hn : v.ownBlock = none) : l = [] := by
  rcases h.2 with ⟨rfl, h0⟩ | ⟨g, cap, cur, rfl, _⟩
  · exact List.eq_nil_of_length_eq_zero h0
  · simp [Value.ownBlock] at hn

/-- A list grows that began as the list of an entry: what is kept reads as it did. -/
theorem Held.growOut {w w' : World} {B : Nat} {lab : Nat → Tag} {Hb : Nat} {fr : Value} {first n t : Nat} {es : List Ent} (h : Held w B lab Hb fr (okB first n) es) (hle : es.length = n + t) (hin : first + t < n) (e : Ent) (he : es[first + t]? = some e) (v : Value) (l : List ByteArray) (hv : LTag lab (first + t) (n + t) v) (hel : e.bytes.length ≤ l.length)
    (hg : w.grownBy w' v.ownBlock) (hk : ∀ (b0 : Nat) (u : Value) (ys : List ByteArray), OwnS w b0 u ys → (u.ownBlock = v.ownBlock → ys.length ≤ l.length) → OwnS w' b0 u ys) : Held w' B lab Hb fr (okB first n) es := by
  obtain ⟨vo, vw, hr, hes⟩ := h
  have kg : Kept (fun q => some q = v.ownBlock) w w' := Kept.ofGrown hg (fun g hg => hg.symm)
  refine ⟨vo, vw, hr.kept kg (fun q hq e => ?_), fun j f hf => ?_⟩
  · rcases hv q e.symm with h | h <;> rw [h] at hq <;> simp at hq
  · have hjl := (List.getElem?_eq_some_iff.1 hf).1
    obtain ⟨⟨o1, l1⟩, o2, l2⟩ := hes j f hf
    refine ⟨⟨hk B f.out f.bytes o1 (fun hb => ?_), l1⟩, kg.ownS o2 (fun g hg hx => ?_), l2⟩
    · cases hfo : f.out.ownBlock with
      | none => rw [nil_of_none o1 hfo]; simp
      | some g =>
        have hj : j = first + t := by
          obtain ⟨q, hq, hok⟩ := l1 g hfo
          unfold okB at hok
          rcases hv g (by rw [← hb]; exact hfo) with h2 | h2 <;> rw [hq] at h2 <;> simp at h2 <;> omega
        subst hj
        rw [he] at hf
        simp only [Option.some.injEq] at hf
        rw [← hf]
        exact hel
    · have h1 := l2 g hg
      rcases hv g hx.symm with h2 | h2 <;> rw [h1] at h2 <;> simp at h2
/-- .. and the copy beside it. -/
theorem Held.growWant {w w' : World} {B : Nat} {lab : Nat → Tag} {Hb : Nat} {fr : Value} {ok : Nat → Nat → Prop} {es : List Ent} (h : Held w B lab Hb fr ok es) (v : Value) (hv : Tagged lab v (.want es.length)) (hg : w.grownBy w' v.ownBlock) : Held w' B lab Hb fr ok es := by
  obtain ⟨vo, vw, hr, hes⟩ := h
  have kg : Kept (fun q => some q = v.ownBlock) w w' := Kept.ofGrown hg (fun g hg => hg.symm)
  refine ⟨vo, vw, hr.kept kg (fun q hq e => ?_), fun j f hf => (hes j f hf).kept kg (fun q hq e => ?_)⟩
  · rw [hv q e.symm] at hq; simp at hq
  · have hjl := (List.getElem?_eq_some_iff.1 hf).1
    rw [hv q e.symm] at hq
    rcases hq with ⟨q', hq, _⟩ | hq <;> simp at hq
    omega

/-- The lists that are kept, one that began as the list of entry i, and its copy; t of them have grown. -/
def Grows (w : World) (B : Nat) (lab : Nat → Tag) (Hb : Nat) (fr : Value) (first n t : Nat) (es : List Ent) (v u : Value) (l m : List ByteArray) : Prop :=
  Held w B lab Hb fr (okB first n) es ∧ (OwnS w B v l ∧ LTag lab (first + t) (n + t) v) ∧ (OwnS w B u m ∧ Tagged lab u (.want (n + t))) ∧ es.length = n + t ∧ first + t < n ∧ ∃ e, es[first + t]? = some e ∧ e.bytes.length ≤ l.length

theorem Grows.below {w w' : World} {B : Nat} {lab : Nat → Tag} {Hb : Nat} {fr : Value} {first n t : Nat} {es : List Ent} {v u : Value} {l m : List ByteArray} (h : Grows w B lab Hb fr first n t es v u l m) (hb : Below w.heap.size w w') : Grows w' B lab Hb fr first n t es v u l m :=
  ⟨h.1.below hb, ⟨h.2.1.1.below hb, h.2.1.2⟩, ⟨h.2.2.1.1.below hb, h.2.2.1.2⟩, h.2.2.2⟩

/-- The list grows. -/
theorem Grows.out {w w' : World} {B : Nat} {lab : Nat → Tag} {Hb : Nat} {fr : Value} {first n t : Nat} {es : List Ent} {v u v' : Value} {l m x : List ByteArray} (h : Grows w B lab Hb fr first n t es v u l m) (ho : OwnS w' B v' (l ++ x)) (hg : w.grownBy w' v.ownBlock)
    (hk : ∀ (b0 : Nat) (u : Value) (ys : List ByteArray), OwnS w b0 u ys → (u.ownBlock = v.ownBlock → ys.length ≤ l.length) → OwnS w' b0 u ys) (hv : v'.ownBlock = v.ownBlock ∨ v'.ownBlock = some w.heap.size) :
    Grows w' B (fun k => if k = w.heap.size then .out (n + t) else lab k) Hb fr first n t es v' u (l ++ x) m ∧ Kept (NotUser lab) w w' := by
  obtain ⟨hh, ⟨ov, tv⟩, ⟨ou, tu⟩, hle, hin, e, he, hel⟩ := h
  have hlab : ∀ k, k < w.heap.size → (fun k => if k = w.heap.size then Tag.out (n + t) else lab k) k = lab k := fun k hk => if_neg (by omega)
  have tv1 : LTag (fun k => if k = w.heap.size then Tag.out (n + t) else lab k) (first + t) (n + t) v := fun g hgv => by rw [hlab g (ov.lt g hgv).2]; exact tv g hgv
  have tu1 := tu.congr ou hlab
  have kg : Kept (fun q => some q = v.ownBlock) w w' := Kept.ofGrown hg (fun g hg => hg.symm)
  have hheld := (hh.relabel hlab).growOut hle hin e he v l tv1 hel hg hk
  refine ⟨⟨hheld, ⟨ho, fun g hgv => ?_⟩, ⟨kg.ownS ou (fun g hgu hx => ?_), tu1⟩, hle, hin, e, he, by simp; omega⟩, kg.mono (fun q _ hq => ?_)⟩
  · rcases hv with hv | hv
    · exact tv1 g (hv.symm.trans hgv)
    · rw [hv] at hgv
      simp only [Option.some.injEq] at hgv
      right
      exact if_pos hgv.symm
  · have h1 := tu g hgu
    rcases tv g hx.symm with h2 | h2 <;> rw [h1] at h2 <;> simp at h2
  · intro a
    rcases tv q hq.symm with h2 | h2 <;> rw [h2] <;> simp
/-- Its copy grows. -/
theorem Grows.want {w w' : World} {B : Nat} {lab : Nat → Tag} {Hb : Nat} {fr : Value} {first n t : Nat} {es : List Ent} {v u u' : Value} {l m x : List ByteArray} (h : Grows w B lab Hb fr first n t es v u l m) (ho : OwnS w' B u' (m ++ x)) (hg : w.grownBy w' u.ownBlock) (hv : u'.ownBlock = u.ownBlock ∨ u'.ownBlock = some w.heap.size) :
    Grows w' B (fun k => if k = w.heap.size then .want (n + t) else lab k) Hb fr first n t es v u' l (m ++ x) ∧ Kept (NotUser lab) w w' := by
  obtain ⟨hh, ⟨ov, tv⟩, ⟨ou, tu⟩, hle, hin, e, he, hel⟩ := h
  have hlab : ∀ k, k < w.heap.size → (fun k => if k = w.heap.size then Tag.want (n + t) else lab k) k = lab k := fun k hk => if_neg (by omega)
  have tv1 : LTag (fun k => if k = w.heap.size then Tag.want (n + t) else lab k) (first + t) (n + t) v := fun g hgv => by rw [hlab g (ov.lt g hgv).2]; exact tv g hgv
  have tu1 := tu.congr ou hlab
  have kg : Kept (fun q => some q = u.ownBlock) w w' := Kept.ofGrown hg (fun g hg => hg.symm)
  have hheld := (hh.relabel hlab).growWant u (by rw [hle]; exact tu1) hg
  refine ⟨⟨hheld, ⟨kg.ownS ov (fun g hgv hx => ?_), tv1⟩, ⟨ho, fun g hgv => ?_⟩, hle, hin, e, he, hel⟩, kg.mono (fun q _ hq => ?_)⟩
  · have h1 := tu g hx.symm
    rcases tv g hgv with h2 | h2 <;> rw [h1] at h2 <;> simp at h2
  · rcases hv with hv | hv
    · exact tu1 g (hv.symm.trans hgv)
    · rw [hv] at hgv
      simp only [Option.some.injEq] at hgv
      exact if_pos hgv.symm
  · intro a
    rw [tu q hq.symm]
    simp

/-- A copy is made, and the growing begins. -/
theorem Grows.start {w w1 : World} {B : Nat} {lab : Nat → Tag} {Hb : Nat} {fr : Value} {first n t : Nat} {es : List Ent} {u : Value} (h : Held w B lab Hb fr (okB first n) es) (hle : es.length = n + t) (hin : first + t < n) (e : Ent) (he : es[first + t]? = some e) (hb : Below w.heap.size w w1) (ou : OwnS w1 w.heap.size u e.bytes) (hB : B ≤ w.heap.size) :
    Grows w1 B (fun k => if k < w.heap.size then lab k else .want (n + t)) Hb fr first n t es e.out u e.bytes e.bytes := by
  have hlab : ∀ k, k < w.heap.size → (fun k => if k < w.heap.size then lab k else Tag.want (n + t)) k = lab k := fun k hk => if_pos hk
  have h1 := (h.relabel hlab).below hb
  obtain ⟨vo, vw, hr, hes⟩ := h
  obtain ⟨⟨o1, l1⟩, o2⟩ := hes (first + t) e he
  refine ⟨h1, ⟨o1.below hb, fun g hg => ?_⟩, ⟨ou.mono hB, fun g hg => ?_⟩, hle, hin, e, he, Nat.le_refl _⟩
  · left
    rw [hlab g (o1.lt g hg).2]
    obtain ⟨q, hq, hok⟩ := l1 g hg
    unfold okB at hok
    rw [hq]
    congr 1
    omega
  · have := (ou.lt g hg).1
    exact if_neg (by omega)

/-- Both are put into the lists. -/
theorem Grows.entry {w : World} {B : Nat} {lab : Nat → Tag} {Hb : Nat} {fr : Value} {first n t : Nat} {es : List Ent} {v u : Value} {l : List ByteArray} (h : Grows w B lab Hb fr first n t es v u l l) : EntAt w B lab (okB first n) es.length ⟨v, u, l⟩ := by
  obtain ⟨_, ⟨ov, tv⟩, ⟨ou, tu⟩, hle, hin, _⟩ := h
  rw [hle]
  refine ⟨⟨ov, fun g hg => ?_⟩, ⟨ou, tu⟩⟩
  rcases tv g hg with h | h
  · exact ⟨_, h, .inr (.inr (by omega))⟩
  · exact ⟨_, h, .inr (.inl rfl)⟩
/-- One entry more: what both appends and both stores make. -/
theorem Held.pushed {w w2 w4 : World} {B : Nat} {lab : Nat → Tag} {Hb : Nat} {ok : Nat → Nat → Prop} {es : List Ent} {vo vw fr vo' vw' : Value} {e : Ent} (hr : HRows w B lab Hb vo vw fr (es.map (·.out)) (es.map (·.want))) (hes : Ents w B lab ok es) (hnew : EntAt w B lab ok es.length e) (o1 o2 : Obj)
    (ho1 : w2.ownsRow B 54 1 vo' ((es.map (·.out)).length + 1) (es.map (·.out) ++ [e.out])) (hg1 : (w.alloc o1).grownBy w2 vo.ownBlock) (hv1 : vo'.ownBlock = vo.ownBlock ∨ vo'.ownBlock = some (w.alloc o1).heap.size)
    (ho2 : w4.ownsRow B 54 1 vw' ((es.map (·.want)).length + 1) (es.map (·.want) ++ [e.want])) (hg2 : ((w2.setCell ⟨Hb, 0, none⟩ vo').alloc o2).grownBy w4 vw.ownBlock) (hv2 : vw'.ownBlock = vw.ownBlock ∨ vw'.ownBlock = some ((w2.setCell ⟨Hb, 0, none⟩ vo').alloc o2).heap.size) :
    ∃ lab', Held (w4.setCell ⟨Hb, 1, none⟩ vw') B lab' Hb fr ok (es ++ [e]) ∧ (∀ k, k < w.heap.size → lab' k = lab k) ∧ Kept (Lists lab) w (w4.setCell ⟨Hb, 1, none⟩ vw') := by
  have hal1 : Below w.heap.size w (w.alloc o1) := (Below.refl _ w).alloc (Nat.le_refl _) _
  obtain ⟨hr3, k3⟩ := (hr.alloc o1).pushOut ho1 hg1 hv1
  obtain ⟨hr5, k5⟩ := (hr3.alloc o2).pushWant ho2 hg2 hv2
  have hz2 := hg1.size
  have chain : ∀ j f, EntAt w B lab ok j f → EntAt (w4.setCell ⟨Hb, 1, none⟩ vw') B _ ok j f := fun j f h => (((h.below hal1).push k3 .outs (.inl rfl)).below ((Below.refl _ _).alloc (Nat.le_refl _) o2)).push k5 .wants (.inr rfl)
  refine ⟨_, ⟨_, _, by rw [List.map_append, List.map_append]; exact hr5, ?_⟩, ?_, ?_⟩
  · intro j f hj
    refine chain j f ?_
    by_cases hjl : j < es.length
    · rw [List.getElem?_append_left hjl] at hj
      exact hes j f hj
    · rw [List.getElem?_append_right (by omega)] at hj
      have hj0 : j - es.length = 0 := by have := (List.getElem?_eq_some_iff.1 hj).1; simp at this; omega
      obtain rfl : j = es.length := by omega
      rw [hj0] at hj
      simp only [List.getElem?_cons_zero, Option.some.injEq] at hj
      subst hj
      exact hnew
  · intro k hk
    simp at hz2 ⊢
    rw [if_neg (by omega), if_neg (by omega)]
  · refine (((Kept.ofBelow hal1 : Kept (Lists lab) w _).step k3 ?_).trans (Kept.ofBelow ((Below.refl _ _).alloc (Nat.le_refl _) o2))).step k5 ?_
    · intro k hk h
      exact h
    · intro k hk h
      unfold Lists at h ⊢
      simp only [World.size_alloc] at h
      rw [if_neg (by omega)] at h
      exact h

/-- 'h.fresh = ..'. -/
theorem Held.fresh {w : World} {B : Nat} {lab : Nat → Tag} {Hb : Nat} {fr : Value} {ok : Nat → Nat → Prop} {es : List Ent} (h : Held w B lab Hb fr ok es) (v : Value) : Held (w.setCell ⟨Hb, 2, none⟩ v) B lab Hb v ok es ∧ Kept (Lists lab) w (w.setCell ⟨Hb, 2, none⟩ v) := by
  obtain ⟨vo, vw, hr, hes⟩ := h
  have ks : Kept (fun k => k = Hb) w (w.setCell ⟨Hb, 2, none⟩ v) := Kept.setCell _ _ _ _ _ rfl
  have hb := hr.2.1
  refine ⟨⟨vo, vw, ⟨?_, hr.2.1, hr.2.2.1, ⟨ks.own hr.2.2.2.1.1 (fun g hg e => ?_), hr.2.2.2.1.2⟩, ⟨ks.own hr.2.2.2.2.1 (fun g hg e => ?_), hr.2.2.2.2.2⟩⟩, fun j e he => (hes j e he).kept ks (fun k hk e => ?_)⟩, ks.mono (fun k _ e => .inl (by rw [e]; exact hb))⟩
  · rw [setCell_eq_setRow w Hb 2 _ _ _ _ hr.1, setRow_heap w Hb _ _ _ _ hr.1]
    rfl
  · have := hr.2.2.2.1.2 g hg
    rw [e, hb] at this
    simp at this
  · have := hr.2.2.2.2.2 g hg
    rw [e, hb] at this
    simp at this
  · rw [e, hb] at hk
    rcases hk with ⟨q, hk, _⟩ | hk <;> simp at hk
end Go.Proofs.Ythjaehibndmehaa
