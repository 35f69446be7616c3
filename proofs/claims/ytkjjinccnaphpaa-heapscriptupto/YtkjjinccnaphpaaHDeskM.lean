/-
  HTwo, HDesk, HOrd.
-/
import Derived.Test.YtkjjinccnaphpaaHPairs
import Derived.Test.YtkjjinccnaphpaaSmallCT
import Derived.Test.YtkjjinccnaphpaaHRef9
import Derived.Test.YtkjjinccnaphpaaOrderW
import Derived.Test.YtkjjinccnaphpaaIWrite
namespace Go.Proofs.Ytkjjinccnaphpaa
open Go.RowKit

theorem Mid.later {w0 w w1 w2 : World} {p : Hpr} {v1 : Value} {last1 : Int} {R1 E1 : List RowI} (m : Mid w0 w w1 p v1 last1 R1 E1) (hb : Below w1.heap.size w1 w2) : Mid w0 w w2 p v1 last1 R1 E1 :=
  ⟨m.h.kept (Kept.ofBelow (P := fun _ => False) hb) (fun _ _ h => h), m.d.below hb, m.hp, m.perm, m.up, m.le, m.pos, m.kept.trans (Kept.ofBelow hb), m.new⟩

theorem Mid.done2 {w0 w w1 w2 : World} {p : Hpr} {v1 : Value} {last1 : Int} {R1 E1 : List RowI} (h : HAt w0 w p) (m : Mid w0 w w1 p v1 last1 R1 E1) (hw0 : w0.heap.size ≤ w.heap.size) (hd : WentH w1 w0.heap.size p.db p.dv p.way last1 E1 w2) : Kept (MineH p.db p.dv) w1 w2 ∧ ∃ p', Turned w0 w p p' w2 ∧ p'.last = last1 ∧ p'.E = E1 := by
  refine ⟨?_, Mid.done h m hw0 hd⟩
  obtain ⟨_, _, k, _⟩ := hd
  exact k
/-- Both calls, and what they answer. -/
structure Two (w0 w : World) (p : Hpr) (fa : FuncId) (A : Array Value) (fb : FuncId) (B : Array Value) (ans : Value) (last1 : Int) (E1 : List RowI) : Prop where
  one : Calls Try.prog fa A w fun e w1 => e = .returned ans ∧ ∃ v1 R1, Mid w0 w w1 p v1 last1 R1 E1
  two : ∀ w1 v1 R1, Mid w0 w w1 p v1 last1 R1 E1 → Calls Try.prog fb B w1 fun e w2 => e = .returned ans ∧ Kept (MineH p.db p.dv) w1 w2 ∧ ∃ p', Turned w0 w p p' w2 ∧ p'.last = last1 ∧ p'.E = E1
  len : E1.length ≤ p.E.length + 1
  lst : last1 ≤ p.last + 1

theorem topOf_unique {ky : Int × Int → Int} {E : List RowI} {p p' : Nat} {q q' : RowI} (h : TopOf ky E p q) (h' : TopOf ky E p' q') : p = p' ∧ q = q' := by
  have hpp : p = p' := by
    rcases Nat.lt_trichotomy p p' with hl | he | hl
    · have h1 := h'.2.1 p q hl h.1
      have h2 := h.2.2 p' q' hl h'.1
      omega
    · exact he
    · have h1 := h.2.1 p' q' hl h'.1
      have h2 := h'.2.2 p q hl h.1
      omega
  subst hpp
  have := h.1.symm.trans h'.1
  exact ⟨rfl, Option.some.inj this⟩
theorem topOf_some {ky : Int × Int → Int} : ∀ (E : List RowI), E = [] ∨ ∃ p q, TopOf ky E p q
  | [] => .inl rfl
  | x :: E => by
    right
    rcases topOf_some (ky := ky) E with rfl | ⟨p, q, h1, h2, h3⟩
    · exact ⟨0, x, rfl, fun j r hj => by omega, fun j r hj hr => by cases j with | zero => omega | succ j => simp at hr⟩
    · by_cases hk : ky x.2 ≤ ky q.2
      · refine ⟨0, x, rfl, fun j r hj => by omega, fun j r hj hr => ?_⟩
        cases j with
        | zero => omega
        | succ j =>
          simp at hr
          rcases Nat.lt_trichotomy j p with hl | he | hl
          · have := h2 j r hl hr; omega
          · subst he; rw [h1] at hr; cases hr; exact hk
          · have := h3 j r hl hr; omega
      · refine ⟨p + 1, q, by simpa using h1, fun j r hj hr => ?_, fun j r hj hr => ?_⟩
        · cases j with
          | zero => simp at hr; subst hr; omega
          | succ j => simp at hr; exact h2 j r (by omega) hr
        · cases j with
          | zero => omega
          | succ j => simp at hr; exact h3 j r (by omega) hr
theorem once_mem {R : List RowI} {a b : RowI} (ho : Once R) (ha : a ∈ R) (hb : b ∈ R) (he : a.1 = b.1) : a = b := by
  obtain ⟨i, hi, rfl⟩ := List.mem_iff_getElem.1 ha
  obtain ⟨j, hj, rfl⟩ := List.mem_iff_getElem.1 hb
  have := ho i j _ _ (List.getElem?_eq_getElem hi) (List.getElem?_eq_getElem hj) he
  subst this
  rfl
theorem find_none_of {R : List RowI} {t : Int} (h : ∀ r ∈ R, r.1 ≠ t) : R.find? (fun r => decide (r.1 = t)) = none := by
  rw [List.find?_eq_none]
  intro r hr
  simpa using h r hr
theorem find_some_of {R : List RowI} {r : RowI} (ho : Once R) (h : r ∈ R) : R.find? (fun x => decide (x.1 = r.1)) = some r := by
  cases hf : R.find? (fun x => decide (x.1 = r.1)) with
  | none =>
    rw [List.find?_eq_none] at hf
    exact absurd (by simp) (hf r h)
  | some y =>
    have hy := List.mem_of_find?_eq_some hf
    have he := List.find?_some hf
    simp only [decide_eq_true_eq] at he
    rw [once_mem ho hy h he]
section
variable {w0 w : World} {p : Hpr}
theorem HAt.nil_of (h : HAt w0 w p) (hE : p.E = []) : p.R = [] := by
  have := h.perm
  rw [hE] at this
  exact List.perm_nil.1 this
theorem WentH.same {w1 : World} {w2 : World} {lo hb : Nat} {v : Value} {way last : Int} {E E' : List RowI} (h : WentH w1 lo hb v way last E w2) (he : E = E') : WentH w1 lo hb v way last E' w2 := he ▸ h
theorem two_push (h : HAt w0 w p) (x : Int × Int) (hw0 : w0.heap.size ≤ w.heap.size) (hR : p.E.length ≤ 1073741822) (hl : p.last ≤ 4611686018427387904) :
    Two w0 w p 12 #[.pointer (some ⟨p.hb, 0, none⟩), valT x] 20 #[.pointer (some ⟨p.db, 0, none⟩), valT x] (.int .i64 (p.last + 1)) (p.last + 1) (p.E ++ [(p.last + 1, x)]) where
  one := h.push1 x hR hl
  two := fun w1 v1 R1 m => (hPush_any w1 w0.heap.size p.db p.dv p.way p.last p.E x m.d hR (Nat.le_trans hw0 m.kept.size) h.pos hl).mono (fun e w2 ⟨he, hd⟩ => ⟨he, Mid.done2 h m hw0 hd⟩)
  len := by simp
  lst := Int.le_refl _
theorem two_pop (h : HAt w0 w p) (hw0 : w0.heap.size ≤ w.heap.size) (hR : p.E.length ≤ 1073741822) :
    ∃ t x b E1, Two w0 w p 22 #[.pointer (some ⟨p.hb, 0, none⟩)] 23 #[.pointer (some ⟨p.db, 0, none⟩)] (.tuple #[.int .i64 t, valT x, .bool b]) p.last E1 := by
  rcases topOf_some (ky := kW p.way) p.E with hE | ⟨j, q, hj⟩
  · refine ⟨0, (0, 0), false, p.E, ?_, fun w1 v1 R1 m => (hPop_any w1 w0.heap.size p.db p.dv p.way p.last p.E m.d hR (Nat.le_trans hw0 m.kept.size)).mono ?_, by omega, by omega⟩
    · have hn := h.nil_of hE
      refine (popT h.G.asks w p.hb p.mb p.v p.last p.R 0 h.h trivial (fun _ _ => trivial) (fun _ _ h => h) (by rw [hn]; simp)).mono ?_
      rintro e w1 ⟨rfl, v', h1, _, k1, m1⟩
      have hp0 : (popL (ltK (kW p.way)) p.R 0).1 = [] := by rw [hn]; rfl
      rw [hp0] at h1
      refine ⟨by rw [hn]; rfl, v', [], h.mid h1 (hn ▸ h.hp) (hn ▸ h.perm) h.up h.le h.pos k1 (fun k e => .inl ?_)⟩
      rcases e with e | e | e
      · exact .inl e
      · exact .inr (.inl (m1 ▸ e))
      · exact .inr (.inr e)
    · rintro e w2 (⟨_, rfl, hd⟩ | ⟨p', q', ht, _⟩)
      · exact ⟨rfl, Mid.done2 h m hw0 (hE ▸ hd)⟩
      · have := ht.1
        rw [hE] at this
        simp at this
  · refine ⟨q.1, q.2, true, _, h.pop1 j q hj hR, fun w1 v1 R1 m => (hPop_any w1 w0.heap.size p.db p.dv p.way p.last p.E m.d hR (Nat.le_trans hw0 m.kept.size)).mono ?_, by simp; omega, by omega⟩
    rintro e w2 (⟨hE, _, _⟩ | ⟨p', q', ht, rfl, hd⟩)
    · have := hj.1
      rw [hE] at this
      simp at this
    · obtain ⟨rfl, rfl⟩ := topOf_unique hj ht
      exact ⟨rfl, Mid.done2 h m hw0 hd⟩
theorem two_top (h : HAt w0 w p) (hw0 : w0.heap.size ≤ w.heap.size) (hR : p.E.length ≤ 1073741822) :
    ∃ t x b, Two w0 w p 14 #[.pointer (some ⟨p.hb, 0, none⟩)] 21 #[.pointer (some ⟨p.db, 0, none⟩)] (.tuple #[.int .i64 t, valT x, .bool b]) p.last p.E := by
  have one := topT w p.hb p.mb p.v p.f #[] p.last p.R h.h
  rcases topOf_some (ky := kW p.way) p.E with hE | ⟨j, q, hj⟩
  · refine ⟨0, (0, 0), false, one.mono ?_, fun w1 v1 R1 m => (hTop_any w1 w0.heap.size p.db p.dv p.way p.last p.E m.d hR).mono ?_, by omega, by omega⟩
    · rintro e w1 ⟨rfl, hb⟩
      exact ⟨by rw [h.nil_of hE]; rfl, _, _, h.mid0 hb⟩
    · rintro e w2 ⟨⟨_, rfl⟩ | ⟨p', q', ht, _⟩, hb⟩
      · exact ⟨rfl, Mid.done2 h m hw0 (WentH.stay m.d hb)⟩
      · have := ht.1
        rw [hE] at this
        simp at this
  · refine ⟨q.1, q.2, true, one.mono ?_, fun w1 v1 R1 m => (hTop_any w1 w0.heap.size p.db p.dv p.way p.last p.E m.d hR).mono ?_, by omega, by omega⟩
    · rintro e w1 ⟨rfl, hb⟩
      exact ⟨by unfold topOfT; rw [top_same h.hp h.perm h.up hj], _, _, h.mid0 hb⟩
    · rintro e w2 ⟨⟨hE, _⟩ | ⟨p', q', ht, rfl⟩, hb⟩
      · have := hj.1
        rw [hE] at this
        simp at this
      · obtain ⟨rfl, rfl⟩ := topOf_unique hj ht
        exact ⟨rfl, Mid.done2 h m hw0 (WentH.stay m.d hb)⟩
theorem mem_or (E : List RowI) (t : Int) : (∃ (j : Nat) (r : RowI), E[j]? = some r ∧ r.1 = t) ∨ ∀ r ∈ E, r.1 ≠ t := by
  by_cases hx : ∃ r ∈ E, r.1 = t
  · obtain ⟨r, hr, ht⟩ := hx
    obtain ⟨j, hj, he⟩ := List.mem_iff_getElem.1 hr
    exact .inl ⟨j, r, by rw [List.getElem?_eq_getElem hj, he], ht⟩
  · exact .inr (fun r hr e => hx ⟨r, hr, e⟩)
theorem HAt.none_of (h : HAt w0 w p) {t : Int} (hn : ∀ r ∈ p.E, r.1 ≠ t) : p.R.find? (fun r => decide (r.1 = t)) = none := find_none_of (fun r hr => hn r (h.perm.subset hr))
theorem same_place {E : List RowI} {j i : Nat} {r s : RowI} (hup : E.Pairwise (fun a b => a.1 < b.1)) (hj : E[j]? = some r) (hi : E[i]? = some s) (he : s.1 = r.1) : i = j ∧ s = r := by
  have hs : s = r := once_mem (once_up hup) (List.mem_of_getElem? hi) (List.mem_of_getElem? hj) he
  subst hs
  have hij : i = j := by
    have h1 := (List.getElem?_eq_some_iff.1 hi)
    have h2 := (List.getElem?_eq_some_iff.1 hj)
    rcases Nat.lt_trichotomy i j with hl | e | hl
    · have := List.pairwise_iff_getElem.1 hup i j h1.1 h2.1 hl
      rw [h1.2, h2.2] at this
      omega
    · exact e
    · have := List.pairwise_iff_getElem.1 hup j i h2.1 h1.1 hl
      rw [h1.2, h2.2] at this
      omega
  exact ⟨hij, rfl⟩
theorem two_get (h : HAt w0 w p) (t : Int) (ht : (Lit.int .i64 t).wf = true) (hw0 : w0.heap.size ≤ w.heap.size) (hR : p.E.length ≤ 1073741822) :
    ∃ x b, Two w0 w p 24 #[.pointer (some ⟨p.hb, 0, none⟩), .int .i64 t] 25 #[.pointer (some ⟨p.db, 0, none⟩), .int .i64 t] (.tuple #[valT x, .bool b]) p.last p.E := by
  have one := getT w p.hb p.mb p.v p.f #[] p.last p.R t h.h ht
  rcases mem_or p.E t with ⟨j, r, hj, rfl⟩ | hn
  · refine ⟨r.2, true, one.mono ?_, fun w1 v1 R1 m => (hGet_any w1 w0.heap.size p.db p.dv p.way p.last p.E r.1 m.d hR).mono ?_, by omega, by omega⟩
    · rintro e w1 ⟨rfl, hb⟩
      refine ⟨?_, _, _, h.mid0 hb⟩
      unfold getOfT
      rw [find_some_of h.h.once (h.perm.symm.subset (List.mem_of_getElem? hj))]
    · rintro e w2 ⟨⟨i, s, hi, he, rfl⟩ | ⟨hn, _⟩, hb⟩
      · obtain ⟨_, rfl⟩ := same_place h.up hj hi he
        exact ⟨rfl, Mid.done2 h m hw0 (WentH.stay m.d hb)⟩
      · exact absurd rfl (hn r (List.mem_of_getElem? hj))
  · refine ⟨(0, 0), false, one.mono ?_, fun w1 v1 R1 m => (hGet_any w1 w0.heap.size p.db p.dv p.way p.last p.E t m.d hR).mono ?_, by omega, by omega⟩
    · rintro e w1 ⟨rfl, hb⟩
      refine ⟨?_, _, _, h.mid0 hb⟩
      unfold getOfT
      rw [h.none_of hn]
      rfl
    · rintro e w2 ⟨⟨i, s, hi, he, rfl⟩ | ⟨_, rfl⟩, hb⟩
      · exact absurd he (hn s (List.mem_of_getElem? hi))
      · exact ⟨rfl, Mid.done2 h m hw0 (WentH.stay m.d hb)⟩
theorem two_remove (h : HAt w0 w p) (t : Int) (ht : (Lit.int .i64 t).wf = true) (hw0 : w0.heap.size ≤ w.heap.size) (hR : p.E.length ≤ 1073741822) :
    ∃ x b E1, Two w0 w p 26 #[.pointer (some ⟨p.hb, 0, none⟩), .int .i64 t] 27 #[.pointer (some ⟨p.db, 0, none⟩), .int .i64 t] (.tuple #[valT x, .bool b]) p.last E1 := by
  rcases mem_or p.E t with ⟨j, r, hj, rfl⟩ | hn
  · refine ⟨r.2, true, _, h.remove1 j r hj hR, fun w1 v1 R1 m => (hRemove_any w1 w0.heap.size p.db p.dv p.way p.last p.E r.1 m.d hR (Nat.le_trans hw0 m.kept.size)).mono ?_, by simp; omega, by omega⟩
    rintro e w2 (⟨i, s, hi, he, rfl, hd⟩ | ⟨hn, _⟩)
    · obtain ⟨rfl, rfl⟩ := same_place h.up hj hi he
      exact ⟨rfl, Mid.done2 h m hw0 hd⟩
    · exact absurd rfl (hn r (List.mem_of_getElem? hj))
  · refine ⟨(0, 0), false, p.E, (removeT_no w p.hb p.mb p.v p.last p.R t h.h ht (h.none_of hn)).mono ?_, fun w1 v1 R1 m => (hRemove_any w1 w0.heap.size p.db p.dv p.way p.last p.E t m.d hR (Nat.le_trans hw0 m.kept.size)).mono ?_, by omega, by omega⟩
    · rintro e w1 ⟨rfl, hb⟩
      exact ⟨rfl, _, _, h.mid0 hb⟩
    · rintro e w2 (⟨i, s, hi, he, rfl, hd⟩ | ⟨_, rfl, hd⟩)
      · exact absurd he (hn s (List.mem_of_getElem? hi))
      · exact ⟨rfl, Mid.done2 h m hw0 hd⟩
theorem two_change_all (h0 : HAt w0 w p) (t : Int) (x : Int × Int) (ht : (Lit.int .i64 t).wf = true) (hw0 : w0.heap.size ≤ w.heap.size) (hR : p.E.length ≤ 1073741822) :
    ∃ b E1, ∀ X : World, Below w.heap.size w X → Two w0 X p 28 #[.pointer (some ⟨p.hb, 0, none⟩), .int .i64 t, valT x] 29 #[.pointer (some ⟨p.db, 0, none⟩), .int .i64 t, valT x] (.bool b) p.last E1 := by
  rcases mem_or p.E t with ⟨j, r, hj, rfl⟩ | hn
  · refine ⟨true, _, fun X hX => ⟨(h0.later hX).change1 j r x hj hR, fun w1 v1 R1 m => (hChange_any w1 w0.heap.size p.db p.dv p.way p.last p.E r.1 x m.d hR).mono ?_, by simp, by omega⟩⟩
    have h := h0.later hX
    rintro e w2 (⟨i, s, hi, he, rfl, hd⟩ | ⟨hn, _⟩)
    · obtain ⟨rfl, rfl⟩ := same_place h.up hj hi he
      exact ⟨rfl, Mid.done2 h m (Nat.le_trans hw0 hX.size) hd⟩
    · exact absurd rfl (hn r (List.mem_of_getElem? hj))
  · refine ⟨false, p.E, fun X hX => ⟨(changeT_no X p.hb p.mb p.v p.last p.R t x (h0.later hX).h ht (h0.none_of hn)).mono ?_, fun w1 v1 R1 m => (hChange_any w1 w0.heap.size p.db p.dv p.way p.last p.E t x m.d hR).mono ?_, by omega, by omega⟩⟩
    · rintro e w1 ⟨rfl, hb⟩
      exact ⟨rfl, _, _, (h0.later hX).mid0 hb⟩
    · rintro e w2 (⟨i, s, hi, he, rfl, hd⟩ | ⟨_, rfl, hd⟩)
      · exact absurd he (hn s (List.mem_of_getElem? hi))
      · exact ⟨rfl, Mid.done2 (h0.later hX) m (Nat.le_trans hw0 hX.size) hd⟩
end
end Go.Proofs.Ytkjjinccnaphpaa

namespace Go.Proofs.Ytkjjinccnaphpaa
open Go.RowKit

def ptrA (q : Nat × Hpr) : Value := .pointer (some ⟨q.2.hb, 0, none⟩)
def ptrB (q : Nat × Hpr) : Value := .pointer (some ⟨q.2.db, 0, none⟩)
/-- All of it, behind n steps. -/
structure DeskG (w0 W : World) (lab : Nat → Tag) (Db : Nat) (va vb : Value) (f : Nat) (es : List Ent) (ps : List (Nat × Hpr)) (top n : Nat) (as2 bs2 : List Value) : Prop where
  bel : Below w0.heap.size w0 W
  held : Held W w0.heap.size lab Db ⟨va, vb, .int .i64 (f : Int)⟩ (okA f) es
  fle : f ≤ es.length
  cnt : es.length + (es.length - f) ≤ 2 * n
  small : ∀ (j : Nat) e, es[j]? = some e → e.bytes.length ≤ 41 * n
  low : ∀ j, j < w0.heap.size → lab j = .user 0
  ra : W.ownsRow w0.heap.size 24 1 va as2.length as2
  la : Tagged lab va (.user 1)
  rb : W.ownsRow w0.heap.size 37 1 vb bs2.length bs2
  lb : Tagged lab vb (.user 2)
  hs : ∀ (k : Nat) q, ps[k]? = some q → HAt w0 W q.2
  own : ∀ (k : Nat) q, ps[k]? = some q → ∀ j, q.2.mine j → lab j = .user q.1
  ids : ∀ (k : Nat) q, ps[k]? = some q → 3 ≤ q.1 ∧ q.1 < top
  apart : ∀ (k k' : Nat) q q', ps[k]? = some q → ps[k']? = some q' → q.1 = q'.1 → k = k'
  few : ps.length ≤ 4
  size : ∀ (k : Nat) q, ps[k]? = some q → q.2.E.length ≤ n ∧ q.2.last ≤ n
/-- .. and each list as2 long as2 there are pairs. -/
abbrev DeskS (w0 W : World) (lab : Nat → Tag) (Db : Nat) (va vb : Value) (f : Nat) (es : List Ent) (ps : List (Nat × Hpr)) (top n : Nat) : Prop := DeskG w0 W lab Db va vb f es ps top n (ps.map ptrA) (ps.map ptrB)
section
variable {w0 W W' : World} {as2 bs2 : List Value} {g c : Nat} {lab lab' : Nat → Tag} {Db f top n : Nat} {va vb : Value} {es : List Ent} {ps : List (Nat × Hpr)}
theorem HAt.lt {w0 w : World} {p : Hpr} (h : HAt w0 w p) {k : Nat} (hk : p.mine k) : k < w.heap.size := by
  rcases hk with hk | hk
  · rcases hk with rfl | e | rfl
    · exact (Array.getElem?_eq_some_iff.1 h.h.box).1
    · exact (h.h.row.lt k e).2
    · obtain ⟨g, hT, _⟩ := h.h.tab
      obtain ⟨_, _, hm⟩ := hT.map
      exact (Array.getElem?_eq_some_iff.1 hm).1
  · exact h.d.lt hk
theorem HAt.ge {w0 w : World} {p : Hpr} (h : HAt w0 w p) {k : Nat} (hk : p.mine k) : w0.heap.size ≤ k := by
  rcases hk with hk | hk
  · exact h.base k hk
  · exact h.dbase k hk
theorem DeskG.weak (h : DeskG w0 W lab Db va vb f es ps top n as2 bs2) {m : Nat} (hm : n ≤ m) : DeskG w0 W lab Db va vb f es ps top m as2 bs2 :=
  { h with cnt := by have := h.cnt; omega, small := fun j e he => by have := h.small j e he; omega, size := fun k q hq => by have := h.size k q hq; omega }
theorem DeskG.later (h : DeskG w0 W lab Db va vb f es ps top n as2 bs2) (hb : Below W.heap.size W W') : DeskG w0 W' lab Db va vb f es ps top n as2 bs2 :=
  { h with
    bel := h.bel.trans (hb.mono h.bel.size)
    held := h.held.below hb
    ra := (Kept.ofBelow (P := fun _ => False) hb).own h.ra (fun _ _ h => h)
    rb := (Kept.ofBelow (P := fun _ => False) hb).own h.rb (fun _ _ h => h)
    hs := fun k q hq => (h.hs k q hq).later hb }
theorem DeskG.relabel (h : DeskG w0 W lab Db va vb f es ps top n as2 bs2) (hl : ∀ j, j < W.heap.size → lab' j = lab j) : DeskG w0 W lab' Db va vb f es ps top n as2 bs2 :=
  { h with
    held := h.held.relabel hl
    low := fun j hj => (hl j (by have := h.bel.size; omega)).trans (h.low j hj)
    la := h.la.congr h.ra hl
    lb := h.lb.congr h.rb hl
    own := fun k q hq j hj => (hl j ((h.hs k q hq).lt hj)).trans (h.own k q hq j hj) }
theorem user_ne {i j : Nat} (h : i ≠ j) : (Tag.user i) ≠ .user j := fun e => by simp at e; exact h e
/-- Where the k-th pair lies. -/
theorem DeskS.reads (h : DeskS w0 W lab Db va vb f es ps top n) {k : Nat} {q : Nat × Hpr} (hq : ps[k]? = some q) :
    ∃ ga ca gb cb, va = .slice (some ⟨ga, 0, none⟩) ps.length ca ∧ vb = .slice (some ⟨gb, 0, none⟩) ps.length cb ∧ W.cell? ⟨ga, k, none⟩ = some (ptrA q) ∧ W.cell? ⟨gb, k, none⟩ = some (ptrB q) ∧ ga < W.heap.size ∧ gb < W.heap.size ∧ lab ga = .user 1 ∧ lab gb = .user 2 := by
  have hk := (List.getElem?_eq_some_iff.1 hq).1
  obtain ⟨a, c, e1, _, _, r1⟩ := row_shape h.ra
  obtain ⟨a', c', e2, _, _, r2⟩ := row_shape h.rb
  rw [List.length_map] at e1 e2 r1 r2
  obtain ⟨ga, rfl, b1, c1⟩ := r1 (by omega)
  obtain ⟨gb, rfl, b2, c2⟩ := r2 (by omega)
  exact ⟨ga, c, gb, c', e1, e2, c1 k _ (by simp [hq]), c2 k _ (by simp [hq]), (h.ra.lt ga b1).2, (h.rb.lt gb b2).2, h.la ga b1, h.lb gb b2⟩
theorem DeskG.box (h : DeskG w0 W lab Db va vb f es ps top n as2 bs2) : W.cell? ⟨Db, 0, none⟩ = some va ∧ W.cell? ⟨Db, 1, none⟩ = some vb ∧ Db < W.heap.size ∧ W.frozen? ⟨Db, 0, none⟩ = false ∧ W.frozen? ⟨Db, 1, none⟩ = false ∧ w0.heap.size ≤ Db ∧ lab Db = .box := by
  obtain ⟨vo, vw, hr, _⟩ := h.held
  exact ⟨by simp [World.cell?, hr.1], by simp [World.cell?, hr.1], hr.lt, hr.frozen 0, hr.frozen 1, hr.2.2.1, hr.2.1⟩
/-- One pair has turned. -/
theorem DeskS.turn (h : DeskS w0 W lab Db va vb f es ps top n) {k : Nat} {q : Nat × Hpr} {p' : Hpr} (hq : ps[k]? = some q) (ht : Turned w0 W q.2 p' W') (he : p'.E.length ≤ n + 1) (hl : p'.last ≤ n + 1) :
    ∃ lab', DeskS w0 W' lab' Db va vb f es (ps.set k (q.1, p')) top (n + 1) := by
  classical
  obtain ⟨hat, hk, hnew, hhb, hdb, _, _⟩ := ht
  have hkl := (List.getElem?_eq_some_iff.1 hq).1
  obtain ⟨lab', hl'⟩ : ∃ lab' : Nat → Tag, lab' = fun j => if j < W.heap.size then lab j else if p'.mine j then .user q.1 else .user 0 := ⟨_, rfl⟩
  have e0 : ∀ j, j < W.heap.size → lab' j = lab j := fun j hj => by rw [hl']; exact if_pos hj
  have g := (h.relabel e0).weak (Nat.le_succ n)
  have hid := g.ids k q hq
  have hmine : ∀ j, q.2.mine j → lab' j = .user q.1 := g.own k q hq
  have hge : ∀ j, q.2.mine j → w0.heap.size ≤ j := fun j hj => (g.hs k q hq).ge hj
  have ma : (ps.set k (q.1, p')).map ptrA = ps.map ptrA := by
    rw [List.map_set]
    exact set_same _ _ _ (by simp [hq, ptrA, hhb])
  have mb : (ps.set k (q.1, p')).map ptrB = ps.map ptrB := by
    rw [List.map_set]
    exact set_same _ _ _ (by simp [hq, ptrB, hdb])
  have each : ∀ (j : Nat) r, (ps.set k (q.1, p'))[j]? = some r → (j = k ∧ r = (q.1, p')) ∨ (j ≠ k ∧ ps[j]? = some r) := fun j r hr => by
    by_cases hjk : j = k
    · subst hjk
      rw [List.getElem?_set_self hkl] at hr
      exact .inl ⟨rfl, (Option.some.inj hr).symm⟩
    · rw [List.getElem?_set_ne (fun e => hjk e.symm)] at hr
      exact .inr ⟨hjk, hr⟩
  refine ⟨lab', ?_⟩
  refine { g with bel := ?_, held := ?_, ra := ?_, rb := ?_, hs := ?_, own := ?_, ids := ?_, apart := ?_, few := ?_, size := ?_ }
  · exact g.bel.trans (hk.below g.bel.size (fun j hj e => by have := hge j e; omega))
  · exact g.held.kept hk (fun j hn e => hn q.1 (hmine j e))
  · rw [ma]
    exact hk.own g.ra (fun j hj e => by have h1 := g.la j hj; rw [hmine j e] at h1; simp at h1; omega)
  · rw [mb]
    exact hk.own g.rb (fun j hj e => by have h1 := g.lb j hj; rw [hmine j e] at h1; simp at h1; omega)
  · intro j r hr
    rcases each j r hr with ⟨_, rfl⟩ | ⟨hjk, hr⟩
    · exact hat
    · refine (g.hs j r hr).kept hk (fun x hx e => ?_)
      have h1 := g.own j r hr x hx
      rw [hmine x e] at h1
      simp at h1
      exact hjk (g.apart k j q r hq hr h1).symm
  · intro j r hr x hx
    rcases each j r hr with ⟨_, rfl⟩ | ⟨hjk, hr⟩
    · rcases hnew x hx with e | e
      · exact hmine x e
      · rw [hl']
        simp only []
        rw [if_neg (by omega), if_pos hx]
    · exact g.own j r hr x hx
  · intro j r hr
    rcases each j r hr with ⟨_, rfl⟩ | ⟨_, hr⟩
    · exact hid
    · exact g.ids j r hr
  · intro j j' r r' hr hr' hrr
    rcases each j r hr with ⟨rfl, rfl⟩ | ⟨h1, hr1⟩
    · rcases each j' r' hr' with ⟨rfl, rfl⟩ | ⟨h2, hr2⟩
      · rfl
      · exact g.apart _ _ q r' hq hr2 hrr
    · rcases each j' r' hr' with ⟨rfl, rfl⟩ | ⟨h2, hr2⟩
      · exact g.apart _ _ r q hr1 hq hrr
      · exact g.apart _ _ r r' hr1 hr2 hrr
  · rw [List.length_set]
    exact g.few
  · intro j r hr
    rcases each j r hr with ⟨_, rfl⟩ | ⟨_, hr⟩
    · exact ⟨he, by show p'.last ≤ ((n + 1 : Nat) : Int); omega⟩
    · exact g.size j r hr
/-- A change of the book alone: its blocks, or new ones. -/
theorem DeskG.book (h : DeskG w0 W lab Db va vb f es ps top n as2 bs2) {fs : List Ent} {f' m : Nat} (hl : ∀ j, j < W.heap.size → lab' j = lab j) (hk : Kept (NotUser lab) W W') (hh : Held W' w0.heap.size lab' Db ⟨va, vb, .int .i64 (f' : Int)⟩ (okA f') fs) (hf : f' ≤ fs.length) (hc : fs.length + (fs.length - f') ≤ 2 * m) (hs : ∀ (j : Nat) e, fs[j]? = some e → e.bytes.length ≤ 41 * m) (hm : n ≤ m) :
    DeskG w0 W' lab' Db va vb f' fs ps top m as2 bs2 := by
  have g := h.relabel hl
  have ge : ∀ j, j < w0.heap.size → ¬ NotUser lab j := fun j hj e => e 0 (h.low j hj)
  exact { g with
    bel := h.bel.trans (hk.below h.bel.size (fun j hj e => ge j hj e))
    held := hh
    fle := hf
    cnt := hc
    small := hs
    ra := hk.own h.ra (fun j hj e => e 1 (h.la j hj))
    rb := hk.own h.rb (fun j hj e => e 2 (h.lb j hj))
    hs := fun k q hq => (h.hs k q hq).kept hk (fun x hx e => e q.1 (h.own k q hq x hx))
    size := fun k q hq => by have := h.size k q hq; omega }
theorem DeskG.keep (h : DeskG w0 W lab Db va vb f es ps top n as2 bs2) {a : Option Addr} {c : Nat} {l : List Int} (hb : Below W.heap.size W W') (ho : OwnI W' W.heap.size (.slice a l.length c) l) (hl : l.length ≤ 41 * (n + 1)) (hn : n ≤ 2000000) :
    Calls Try.prog 45 #[.pointer (some ⟨Db, 2, none⟩), .slice a l.length c] W' fun e w' => e = .returned (.tuple #[]) ∧ ∃ lab' es', DeskG w0 w' lab' Db va vb f es' ps top (n + 1) as2 bs2 ∧ (∀ g, (Value.slice a l.length c).ownBlock = some g → w'.heap[g]? = W'.heap[g]?) ∧ W'.heap.size ≤ w'.heap.size := by
  classical
  obtain ⟨lab1, hl1⟩ : ∃ lab1 : Nat → Tag, lab1 = fun j => if j < W.heap.size then lab j else .out es.length := ⟨_, rfl⟩
  have e0 : ∀ j, j < W.heap.size → lab1 j = lab j := fun j hj => by rw [hl1]; exact if_pos hj
  have g := (h.relabel e0).later hb
  have ht : Tagged lab1 (.slice a l.length c) (.out es.length) := fun j hj => by
    rw [hl1]
    simp only []
    rw [if_neg (by have := (ho.lt j hj).1; omega)]
  have hz := h.bel.size
  have hc := h.cnt
  refine (keep_any W' w0.heap.size lab1 Db _ (okA f) es a c l g.held (Nat.le_trans hz hb.size) (ho.mono hz) ht (.inr rfl) (by omega) (by omega)).mono ?_
  rintro e w' ⟨rfl, lab2, cw, hh, hl2, hk⟩
  have nL : ∀ j, Lists lab1 j → NotUser lab1 j := fun j hL i e => by unfold Lists at hL; rw [e] at hL; simp at hL
  refine ⟨rfl, lab2, _, g.book hl2 (hk.mono (fun j _ e => nL j e)) hh ?_ ?_ ?_ (Nat.le_succ n), fun j hj => hk.block j (ho.lt j hj).2 (fun hL => ?_), hk.size⟩
  · have := h.fle
    simp
    omega
  · have := h.fle
    simp
    omega
  · intro j r hr
    by_cases hjl : j < es.length
    · rw [List.getElem?_append_left hjl] at hr
      have := h.small j r hr
      omega
    · rw [List.getElem?_append_right (by omega)] at hr
      have hm := List.mem_of_getElem? hr
      have h9 : r = ⟨.slice a l.length c, cw, l⟩ := by simpa using hm
      rw [h9]
      exact hl
  · have h1 := ht j hj
    unfold Lists at hL
    rw [h1] at hL
    simp at hL
theorem DeskG.write (h : DeskG w0 W lab Db va vb f es ps top n as2 bs2) (hn : n ≤ 2000000) :
    Calls Try.prog 11 #[.pointer (some ⟨Db, 2, none⟩)] W fun e w' => e = .returned (.bool true) ∧ ∃ lab' f' es', DeskG w0 w' lab' Db va vb f' es' ps top (n + 1) as2 bs2 := by
  have hc := h.cnt
  refine (write_any W w0.heap.size lab Db (41 * n) f va vb es h.held h.bel.size h.fle (by omega) (by omega) h.small).mono ?_
  rintro e w' ⟨rfl, lab', fs, hh, hlen, hs, hl, hk⟩
  refine ⟨rfl, lab', _, fs, h.book hl hk hh (Nat.le_refl _) ?_ (fun j r hr => by have := hs j r hr; omega) (Nat.le_succ n)⟩
  rw [hlen]
  omega
theorem DeskG.holds (h : DeskG w0 W lab Db va vb f es ps top n as2 bs2) (hn : n ≤ 2000000) :
    Calls Try.prog 9 #[.pointer (some ⟨Db, 2, none⟩)] W fun e w' => e = .returned (.bool true) ∧ DeskG w0 w' lab Db va vb f es ps top n as2 bs2 :=
  (holds_any W w0.heap.size lab Db _ _ es h.held (fun j e he => by have := h.small j e he; omega)).mono (fun e w' ⟨he, hb⟩ => ⟨he, h.later hb⟩)
/-- One pair more. -/
theorem DeskG.new (h : DeskG w0 W lab Db va vb f es ps top n as2 bs2) {p : Hpr} (hb : Below W.heap.size W W') (hn : ∀ k, p.mine k → W.heap.size ≤ k) :
    ∃ lab', DeskG w0 W' lab' Db va vb f es ps top n as2 bs2 ∧ (∀ k, p.mine k → lab' k = .user top) ∧ ∀ j, j < W.heap.size → lab' j = lab j := by
  classical
  obtain ⟨lab', hl'⟩ : ∃ lab' : Nat → Tag, lab' = fun j => if j < W.heap.size then lab j else if p.mine j then .user top else .user 0 := ⟨_, rfl⟩
  have e0 : ∀ j, j < W.heap.size → lab' j = lab j := fun j hj => by rw [hl']; exact if_pos hj
  refine ⟨lab', (h.relabel e0).later hb, fun k hk => ?_, e0⟩
  have := hn k hk
  rw [hl']
  simp only []
  rw [if_neg (by omega), if_pos hk]
/-- 'd.a = append(d.a, x)'. -/
theorem DeskG.pushA (h : DeskG w0 W lab Db va vb f es ps top n as2 bs2) {w2 : World} {va' x : Value} (o1 : Obj) (ho : w2.ownsRow w0.heap.size 24 1 va' (as2.length + 1) (as2 ++ [x])) (hg : (W.alloc o1).grownBy w2 va.ownBlock) (hv : va'.ownBlock = va.ownBlock ∨ va'.ownBlock = some (W.alloc o1).heap.size) :
    ∃ lab', DeskG w0 (w2.setCell ⟨Db, 0, none⟩ va') lab' Db va' vb f es ps top n (as2 ++ [x]) bs2 ∧ (∀ j, j ≠ W.heap.size + 1 → lab' j = lab j) ∧ Kept (fun j => lab j = .user 1 ∨ j = Db) W (w2.setCell ⟨Db, 0, none⟩ va') ∧ w2.heap[Db]? = W.heap[Db]? := by
  have hal : Below W.heap.size W (W.alloc o1) := (Below.refl _ W).alloc (Nat.le_refl _) _
  obtain ⟨lab', hl'⟩ : ∃ lab' : Nat → Tag, lab' = fun j => if j = W.heap.size + 1 then .user 1 else lab j := ⟨_, rfl⟩
  have e0 : ∀ j, j ≠ W.heap.size + 1 → lab' j = lab j := fun j hj => by rw [hl']; exact if_neg hj
  have e1 : ∀ j, j < W.heap.size → lab' j = lab j := fun j hj => e0 j (by omega)
  have gb := h.box
  have g1 := (h.relabel e1).later hal
  have tva : Tagged lab' va (.user 1) := g1.la
  have kg : Kept (fun j => some j = va.ownBlock) (W.alloc o1) w2 := Kept.ofGrown hg (fun g e => e.symm)
  have kU : ∀ j, some j = va.ownBlock → lab' j = .user 1 := fun j e => tva j e.symm
  have tva' : Tagged lab' va' (.user 1) := fun j hj => by
    rcases hv with hv | hv
    · exact tva j (by rw [← hv]; exact hj)
    · rw [hv] at hj
      simp at hj
      rw [hl']
      simp [hj]
  have h2 : Held w2 w0.heap.size lab' Db ⟨va, vb, .int .i64 (f : Int)⟩ (okA f) es := g1.held.kept kg (fun j hn e => hn 1 (kU j e))
  have h3 := h2.setX (fr' := ⟨va', vb, .int .i64 (f : Int)⟩) 0 va' (fun _ _ => rfl)
  have lDb : lab' Db = .box := (e1 Db gb.2.2.1).trans gb.2.2.2.2.2.2
  have sz := hg.size
  have kAll : Kept (fun j => lab j = .user 1 ∨ j = Db) W (w2.setCell ⟨Db, 0, none⟩ va') := ((Kept.ofBelow hal).trans (kg.mono (fun j _ e => .inl ((e1 j (h.ra.lt j e.symm).2).symm.trans (kU j e))))).trans (h3.2.mono (fun j _ e => .inr e))
  · refine ⟨lab', ?_, e0, kAll, (kg.block Db (by simp; omega) (fun e => by have := kU Db e; rw [lDb] at this; simp at this)).trans (hal.block Db gb.2.2.1)⟩
    have nU : ∀ j, (∃ i, lab' j = .user i) → j ≠ Db := fun j ⟨i, e⟩ e2 => by rw [e2, lDb] at e; simp at e
    refine { g1 with bel := ?_, held := h3.1, ra := ?_, la := tva', rb := ?_, hs := ?_ }
    · refine h.bel.trans (kAll.below h.bel.size (fun j hj e => ?_))
      rcases e with e | e
      · have := h.low j hj
        rw [e] at this
        simp at this
      · have := gb.2.2.2.2.2.1
        omega
    · rw [List.length_append]
      exact h3.2.own ho (fun j hj e => nU j ⟨1, tva' j hj⟩ e)
    · refine h3.2.own (kg.own g1.rb (fun j hj e => ?_)) (fun j hj e => nU j ⟨2, g1.lb j hj⟩ e)
      have := g1.lb j hj
      rw [kU j e] at this
      simp at this
    · intro k q hq
      have hid := g1.ids k q hq
      refine ((g1.hs k q hq).kept kg (fun j hj e => ?_)).kept h3.2 (fun j hj e => nU j ⟨q.1, g1.own k q hq j hj⟩ e)
      have := g1.own k q hq j hj
      rw [kU j e] at this
      simp at this
      omega
/-- 'd.b = append(d.b, x)'. -/
theorem DeskG.pushB (h : DeskG w0 W lab Db va vb f es ps top n as2 bs2) {w2 : World} {vb' x : Value} (o1 : Obj) (ho : w2.ownsRow w0.heap.size 37 1 vb' (bs2.length + 1) (bs2 ++ [x])) (hg : (W.alloc o1).grownBy w2 vb.ownBlock) (hv : vb'.ownBlock = vb.ownBlock ∨ vb'.ownBlock = some (W.alloc o1).heap.size) :
    ∃ lab', DeskG w0 (w2.setCell ⟨Db, 1, none⟩ vb') lab' Db va vb' f es ps top n as2 (bs2 ++ [x]) ∧ (∀ j, j ≠ W.heap.size + 1 → lab' j = lab j) ∧ Kept (fun j => lab j = .user 2 ∨ j = Db) W (w2.setCell ⟨Db, 1, none⟩ vb') ∧ w2.heap[Db]? = W.heap[Db]? := by
  have hal : Below W.heap.size W (W.alloc o1) := (Below.refl _ W).alloc (Nat.le_refl _) _
  obtain ⟨lab', hl'⟩ : ∃ lab' : Nat → Tag, lab' = fun j => if j = W.heap.size + 1 then .user 2 else lab j := ⟨_, rfl⟩
  have e0 : ∀ j, j ≠ W.heap.size + 1 → lab' j = lab j := fun j hj => by rw [hl']; exact if_neg hj
  have e1 : ∀ j, j < W.heap.size → lab' j = lab j := fun j hj => e0 j (by omega)
  have gb := h.box
  have g1 := (h.relabel e1).later hal
  have tva : Tagged lab' vb (.user 2) := g1.lb
  have kg : Kept (fun j => some j = vb.ownBlock) (W.alloc o1) w2 := Kept.ofGrown hg (fun g e => e.symm)
  have kU : ∀ j, some j = vb.ownBlock → lab' j = .user 2 := fun j e => tva j e.symm
  have tva' : Tagged lab' vb' (.user 2) := fun j hj => by
    rcases hv with hv | hv
    · exact tva j (by rw [← hv]; exact hj)
    · rw [hv] at hj
      simp at hj
      rw [hl']
      simp [hj]
  have h2 : Held w2 w0.heap.size lab' Db ⟨va, vb, .int .i64 (f : Int)⟩ (okA f) es := g1.held.kept kg (fun j hn e => hn 2 (kU j e))
  have h3 := h2.setX (fr' := ⟨va, vb', .int .i64 (f : Int)⟩) 1 vb' (fun _ _ => rfl)
  have lDb : lab' Db = .box := (e1 Db gb.2.2.1).trans gb.2.2.2.2.2.2
  have sz := hg.size
  have kAll : Kept (fun j => lab j = .user 2 ∨ j = Db) W (w2.setCell ⟨Db, 1, none⟩ vb') := ((Kept.ofBelow hal).trans (kg.mono (fun j _ e => .inl ((e1 j (h.rb.lt j e.symm).2).symm.trans (kU j e))))).trans (h3.2.mono (fun j _ e => .inr e))
  · refine ⟨lab', ?_, e0, kAll, (kg.block Db (by simp; omega) (fun e => by have := kU Db e; rw [lDb] at this; simp at this)).trans (hal.block Db gb.2.2.1)⟩
    have nU : ∀ j, (∃ i, lab' j = .user i) → j ≠ Db := fun j ⟨i, e⟩ e2 => by rw [e2, lDb] at e; simp at e
    refine { g1 with bel := ?_, held := h3.1, rb := ?_, lb := tva', ra := ?_, hs := ?_ }
    · refine h.bel.trans (kAll.below h.bel.size (fun j hj e => ?_))
      rcases e with e | e
      · have := h.low j hj
        rw [e] at this
        simp at this
      · have := gb.2.2.2.2.2.1
        omega
    · refine h3.2.own (kg.own g1.ra (fun j hj e => ?_)) (fun j hj e => nU j ⟨1, g1.la j hj⟩ e)
      have := g1.la j hj
      rw [kU j e] at this
      simp at this
    · rw [List.length_append]
      exact h3.2.own ho (fun j hj e => nU j ⟨2, tva' j hj⟩ e)
    · intro k q hq
      have hid := g1.ids k q hq
      refine ((g1.hs k q hq).kept kg (fun j hj e => ?_)).kept h3.2 (fun j hj e => nU j ⟨q.1, g1.own k q hq j hj⟩ e)
      have := g1.own k q hq j hj
      rw [kU j e] at this
      simp at this
      omega
/-- 'd.a[k] = x'. -/
theorem DeskG.setA (h : DeskG w0 W lab Db (.slice (some ⟨g, 0, none⟩) as2.length c) vb f es ps top n as2 bs2) (k : Nat) (x : Value) :
    DeskG w0 (W.setCell ⟨g, k, none⟩ x) lab Db (.slice (some ⟨g, 0, none⟩) as2.length c) vb f es ps top n (as2.set k x) bs2 ∧ Kept (fun j => j = g) W (W.setCell ⟨g, k, none⟩ x) := by
  have ks : Kept (fun j => j = g) W (W.setCell ⟨g, k, none⟩ x) := Kept.setCell _ _ _ _ _ rfl
  have lg : lab g = .user 1 := h.la g rfl
  have hw := (h.ra.lt g rfl).1
  refine ⟨{ h with bel := ?_, held := ?_, ra := ?_, rb := ?_, hs := ?_ }, ks⟩
  · exact h.bel.trans (ks.below h.bel.size (fun j hj e => by omega))
  · exact h.held.kept ks (fun j hn e => hn 1 (by rw [e]; exact lg))
  · rw [List.length_set]
    exact (h.ra.stored k x).1
  · refine ks.own h.rb (fun j hj e => ?_)
    have := h.lb j hj
    rw [e, lg] at this
    simp at this
  · intro j q hq
    have hid := h.ids j q hq
    refine (h.hs j q hq).kept ks (fun i hi e => ?_)
    have := h.own j q hq i hi
    rw [e, lg] at this
    simp at this
    omega
/-- 'd.b[k] = x'. -/
theorem DeskG.setB (h : DeskG w0 W lab Db va (.slice (some ⟨g, 0, none⟩) bs2.length c) f es ps top n as2 bs2) (k : Nat) (x : Value) :
    DeskG w0 (W.setCell ⟨g, k, none⟩ x) lab Db va (.slice (some ⟨g, 0, none⟩) bs2.length c) f es ps top n as2 (bs2.set k x) ∧ Kept (fun j => j = g) W (W.setCell ⟨g, k, none⟩ x) := by
  have ks : Kept (fun j => j = g) W (W.setCell ⟨g, k, none⟩ x) := Kept.setCell _ _ _ _ _ rfl
  have lg : lab g = .user 2 := h.lb g rfl
  have hw := (h.rb.lt g rfl).1
  refine ⟨{ h with bel := ?_, held := ?_, ra := ?_, rb := ?_, hs := ?_ }, ks⟩
  · exact h.bel.trans (ks.below h.bel.size (fun j hj e => by omega))
  · exact h.held.kept ks (fun j hn e => hn 2 (by rw [e]; exact lg))
  · refine ks.own h.ra (fun j hj e => ?_)
    have := h.la j hj
    rw [e, lg] at this
    simp at this
  · rw [List.length_set]
    exact (h.rb.stored k x).1
  · intro j q hq
    have hid := h.ids j q hq
    refine (h.hs j q hq).kept ks (fun i hi e => ?_)
    have := h.own j q hq i hi
    rw [e, lg] at this
    simp at this
    omega
/-- A pair is laid behind the others. -/
theorem DeskG.add {p : Hpr} (h : DeskG w0 W lab Db va vb f es ps top n (ps.map ptrA ++ [ptrA (top, p)]) (ps.map ptrB ++ [ptrB (top, p)])) (ht : 3 ≤ top) (hp : HAt w0 W p) (hl : ∀ j, p.mine j → lab j = .user top) (hf : ps.length < 4) (hs : p.E.length ≤ n ∧ p.last ≤ n) :
    DeskS w0 W lab Db va vb f es (ps ++ [(top, p)]) (top + 1) n := by
  have each : ∀ (j : Nat) r, (ps ++ [(top, p)])[j]? = some r → (j = ps.length ∧ r = (top, p)) ∨ (j < ps.length ∧ ps[j]? = some r) := fun j r hr => by
    by_cases hj : j < ps.length
    · rw [List.getElem?_append_left hj] at hr
      exact .inr ⟨hj, hr⟩
    · rw [List.getElem?_append_right (by omega)] at hr
      have h1 := (List.getElem?_eq_some_iff.1 hr).1
      simp at h1
      have h2 : j - ps.length = 0 := by omega
      rw [h2] at hr
      exact .inl ⟨by omega, (Option.some.inj hr).symm⟩
  refine { h with ra := ?_, rb := ?_, hs := ?_, own := ?_, ids := ?_, apart := ?_, few := ?_, size := ?_ }
  · have := h.ra
    simpa using this
  · have := h.rb
    simpa using this
  · intro j r hr
    rcases each j r hr with ⟨_, rfl⟩ | ⟨_, hr⟩
    · exact hp
    · exact h.hs j r hr
  · intro j r hr
    rcases each j r hr with ⟨_, rfl⟩ | ⟨_, hr⟩
    · exact hl
    · exact h.own j r hr
  · intro j r hr
    rcases each j r hr with ⟨_, rfl⟩ | ⟨_, hr⟩
    · exact ⟨ht, Nat.lt_succ_self _⟩
    · have := h.ids j r hr
      omega
  · intro j j' r r' hr hr' he
    rcases each j r hr with ⟨rfl, rfl⟩ | ⟨h1, hr1⟩
    · rcases each j' r' hr' with ⟨rfl, rfl⟩ | ⟨h2, hr2⟩
      · rfl
      · have := h.ids j' r' hr2
        simp only [] at he
        omega
    · rcases each j' r' hr' with ⟨rfl, rfl⟩ | ⟨h2, hr2⟩
      · have := h.ids j r hr1
        simp only [] at he
        omega
      · exact h.apart _ _ r r' hr1 hr2 he
  · simp
    omega
  · intro j r hr
    rcases each j r hr with ⟨_, rfl⟩ | ⟨_, hr⟩
    · exact hs
    · exact h.size j r hr
/-- A pair is laid in the place of another one. -/
theorem DeskG.put {p : Hpr} {k : Nat} (hk : k < ps.length) (h : DeskG w0 W lab Db va vb f es ps top n ((ps.map ptrA).set k (ptrA (top, p))) ((ps.map ptrB).set k (ptrB (top, p)))) (ht : 3 ≤ top) (hp : HAt w0 W p) (hl : ∀ j, p.mine j → lab j = .user top) (hs : p.E.length ≤ n ∧ p.last ≤ n) :
    DeskS w0 W lab Db va vb f es (ps.set k (top, p)) (top + 1) n := by
  have each : ∀ (j : Nat) r, (ps.set k (top, p))[j]? = some r → (j = k ∧ r = (top, p)) ∨ (j ≠ k ∧ ps[j]? = some r) := fun j r hr => by
    by_cases hjk : j = k
    · subst hjk
      rw [List.getElem?_set_self hk] at hr
      exact .inl ⟨rfl, (Option.some.inj hr).symm⟩
    · rw [List.getElem?_set_ne (fun e => hjk e.symm)] at hr
      exact .inr ⟨hjk, hr⟩
  refine { h with ra := ?_, rb := ?_, hs := ?_, own := ?_, ids := ?_, apart := ?_, few := ?_, size := ?_ }
  · have := h.ra
    simpa using this
  · have := h.rb
    simpa using this
  · intro j r hr
    rcases each j r hr with ⟨_, rfl⟩ | ⟨_, hr⟩
    · exact hp
    · exact h.hs j r hr
  · intro j r hr
    rcases each j r hr with ⟨_, rfl⟩ | ⟨_, hr⟩
    · exact hl
    · exact h.own j r hr
  · intro j r hr
    rcases each j r hr with ⟨_, rfl⟩ | ⟨_, hr⟩
    · exact ⟨ht, Nat.lt_succ_self _⟩
    · have := h.ids j r hr
      omega
  · intro j j' r r' hr hr' he
    rcases each j r hr with ⟨rfl, rfl⟩ | ⟨h1, hr1⟩
    · rcases each j' r' hr' with ⟨rfl, rfl⟩ | ⟨h2, hr2⟩
      · rfl
      · have := h.ids j' r' hr2
        simp only [] at he
        omega
    · rcases each j' r' hr' with ⟨rfl, rfl⟩ | ⟨h2, hr2⟩
      · have := h.ids j r hr1
        simp only [] at he
        omega
      · exact h.apart _ _ r r' hr1 hr2 he
  · rw [List.length_set]
    exact h.few
  · intro j r hr
    rcases each j r hr with ⟨_, rfl⟩ | ⟨_, hr⟩
    · exact hs
    · exact h.size j r hr
end
end Go.Proofs.Ytkjjinccnaphpaa

namespace Go.Proofs.Ytkjjinccnaphpaa
open Go.RowKit

theorem Nums.moved {w w' : World} {B : Nat} {v : Value} {l : List Int} (h : Nums w B v l) (hb : ∀ g, v.ownBlock = some g → w'.heap[g]? = w.heap[g]?) : Nums w' B v l := by
  refine ⟨h.1, ?_⟩
  rcases h.2 with h0 | ⟨g, cap, cur, rfl, hB, hg, rest⟩
  · exact .inl h0
  · exact .inr ⟨g, cap, cur, rfl, hB, (hb g rfl).trans hg, rest⟩

set_option maxHeartbeats 2000000 in
set_option maxRecDepth 1000000 in
theorem order_any {w0 W : World} {lab : Nat → Tag} {Db f top n : Nat} {va vb : Value} {es : List Ent} {ps : List (Nat × Hpr)} (h : DeskS w0 W lab Db va vb f es ps top n) (k : Nat) (hk : k < ps.length) (hn : n ≤ 2000000) :
    Calls Try.prog 30 #[.pointer (some ⟨Db, 0, none⟩), .int .i64 (k : Int)] W fun e w' => e = .returned (.bool true) ∧ ∃ lab' es', DeskS w0 w' lab' Db va vb f es' ps top (n + 1) := by
  obtain ⟨q, hq⟩ : ∃ q, ps[k]? = some q := ⟨_, List.getElem?_eq_getElem hk⟩
  obtain ⟨ga, ca, gb, cb, rfl, rfl, c1, c2, hga, hgb, _, _⟩ := h.reads hq
  obtain ⟨b0, b1, hDb, _⟩ := h.box
  have HH : Hid (DeskS w0 W lab Db _ _ f es ps top n) := h
  have hat := h.hs k q hq
  have hsz := h.size k q hq
  have hlen : q.2.R.length = q.2.E.length := hat.perm.length_eq
  have CO : Hid (Calls Try.prog 44 #[.pointer (some ⟨q.2.hb, 0, none⟩)] W fun e w' => ∃ v' S, e = .returned v' ∧ Ranked (kW q.2.way) q.2.R S ∧ Nums w' W.heap.size v' (S.map (·.1)) ∧ Below W.heap.size W w') := orderW hat.G W q.2.hb q.2.mb q.2.v q.2.last q.2.R hat.h (by omega)
  have hki : (k : Int) < (ps.length : Int) := by omega
  have hat0 : Hid (q.2.R.Perm q.2.E) := hat.perm
  unfold ptrA at c1
  clear h c2
  go_enter Try.func30, Try.ntmps30
  go_wp2_with (go_at_call 44; refine CO.out.mono ?_; rintro e w1 ⟨v1, S, rfl, hS, hN, hB1⟩)
  obtain ⟨a1, d1, hv1⟩ := hN.form
  obtain ⟨l, hl⟩ : ∃ l, S.map (fun x : RowI => x.1) = l := ⟨_, rfl⟩
  rw [hl] at hN hv1
  subst hv1
  have hll : l.length = q.2.E.length := by rw [← hl, List.length_map, hS.perm.length_eq, hlen]
  have CK := hide3 (HH.out.keep (W' := w1) hB1 (show OwnI w1 W.heap.size (.slice a1 l.length d1) l from hN) (by omega) hn)
  have HN : Hid (Nums w1 W.heap.size (.slice a1 l.length d1) l) := hN
  have HS : Hid (Ranked (kW q.2.way) q.2.R S ∧ S.map (fun x : RowI => x.1) = l) := ⟨hS, hl⟩
  have hl9 : l.length ≤ 1073741823 := by omega
  clear hS hN hl hll
  go_wp2_with fail
  refine CK.out.mono ?_
  rintro e w2 ⟨rfl, lab2, es2, h2, hbl, hz2⟩
  have hN2 := HN.out.moved hbl
  have HN2 : Hid (Nums w2 W.heap.size (.slice a1 l.length d1) l) := hN2
  have H2 : Hid (DeskS w0 w2 lab2 Db _ _ f es2 ps top (n + 1)) := h2
  obtain ⟨ga2, ca2, gb2, cb2, e1, e2, _, c2, _, hgb2, _, _⟩ := DeskS.reads h2 hq
  obtain ⟨_, b1', hDb2, _⟩ := DeskG.box h2
  have hat2 := DeskG.hs h2 k q hq
  have CR := hide3 (hOrder_any w2 w0.heap.size q.2.db q.2.dv q.2.way q.2.last q.2.E hat2.d hat2.up (by omega) (DeskG.bel h2).size)
  simp only [Value.slice.injEq, Option.some.injEq, Addr.mk.injEq, and_true, true_and] at e2
  obtain ⟨rfl, rfl⟩ := e2
  unfold ptrB at c2
  clear h2 hbl hN2 e1 hat2 hat
  go_wp2_with (first
    | (go_at_call 46
       refine CR.out.mono ?_
       rintro e w3 ⟨v3, S3, rfl, hS3, hN3, hB3⟩
       have he : S3 = S := (ranked_same (hat0.out) HS.out.1 hS3).symm
       have CS := hide3 (same_any W.heap.size w2.heap.size (.slice a1 l.length d1) v3 l w3 (HN2.out.below hB3) (by rw [he, HS.out.2] at hN3; exact hN3) (by omega))
       have H3 : Hid (DeskS w0 w3 lab2 Db _ _ f es2 ps top (n + 1)) := DeskG.later H2.out hB3
       clear hS3 hN3 hB3 he)
    | (go_at_call 33
       refine CS.out.mono ?_
       rintro e w4 ⟨rfl, hB4⟩
       have H4 : Hid (DeskS w0 w4 lab2 Db _ _ f es2 ps top (n + 1)) := DeskG.later H3.out hB4
       clear hB4))
  go_ret
  exact ⟨rfl, lab2, es2, H4.out⟩
end Go.Proofs.Ytkjjinccnaphpaa
