/-
  The walk of the method keep.
-/
import Derived.Test.YtcgpfhkndbggiaaDGrowing
import Derived.Test.YtcgpfhkndbggiaaDHolds
import Derived.Test.YtcgpfhkndbggiaaHand
import Derived.Deep.Cut
namespace Go.Proofs.Ytcgpfhkndbggiaa
open Go.RowKit

variable {fv bx : Bx}

theorem Own.lit0 (w : World) (B : Nat) (hB : B ≤ w.heap.size) : Own (w.alloc (.cells #[] 5)) B (.slice (some ⟨w.heap.size, 0, none⟩) 0 0) [] :=
  ⟨rfl, .inr ⟨w.heap.size, 0, #[], rfl, hB, heap_alloc_last _ _, Nat.le_refl _, by unfold maxLen; omega, rfl, rfl⟩⟩
theorem info_bytes : (Try.prog.info? 30).map (fun i => (i.zero, i.size, i.bytes)) = some (some (.slice none 0 0), 1, 24) := by kernel_rfl

theorem one_new (w : World) (v : Value) (t : TypeId) : ∃ p, (some (⟨w.heap.size, 0, none⟩ : Addr)) = some p ∧ ∀ j u, [v][j]? = some u → (w.alloc (.cells #[v] t)).cell? (p.add j) = some u := by
  refine ⟨_, rfl, fun j u hj => ?_⟩
  match j, hj with
  | 0, hj => simpa [Addr.add] using hj
  | (j + 1), hj => simp at hj

/-- 'append' of one slice onto a list of the call's own. -/
theorem wpList_push {w : World} {ops : Array Oper} {rest : List Oper} {o : Oper} {a : Act} {Q : Exit → Act → World → Prop} (hgd : o.guard = none) (s x : Operand)
    (ho : o.op = .call { callee := .builtin .append, args := #[s, x], argTypes := #[27, 27] })
    (B : Nat) (v : Value) (os : List Value) (hs : a.eval s = v) (hown : w.ownsRow B 30 1 v os.length os) (u : Value) (k : Nat) (hk : k = w.heap.size) (hx : a.eval x = .slice (some ⟨k, 0, none⟩) 1 1) (hu : u.oneCell' = true)
    (hb : os.length ≤ 1073741824) (hbase : B ≤ w.heap.size)
    (h : ∀ v' w', w'.ownsRow B 30 1 v' (os.length + 1) (os ++ [u]) → (w.alloc (.cells #[u] 30)).grownBy w' v.ownBlock → (v'.ownBlock = v.ownBlock ∨ v'.ownBlock = some (w.heap.size + 1)) →
      wpList Try.prog ops Q rest (a.put o.dst v') w') : wpList Try.prog ops Q (o :: rest) a (w.alloc (.cells #[u] 30)) := by
  subst hk
  obtain ⟨i, hi, hz0, hz1, hz2⟩ := info_parts info_bytes
  refine wpList_append_keeps hgd s x 27 ho B 30 i (.slice none 0 0) Try.underlying27 hi hz0 hz1 rfl v os.length os hs (hown.alloc _) (some ⟨w.heap.size, 0, none⟩) 1 1 [u] hx rfl (.inr (one_new w u _)) (by intro y hy; simp at hy; subst hy; exact hu) (by unfold maxLen; omega) (by rw [hz2]; omega) (by simp; omega) ?_
  intro v' w' h1 h2 _ h4 _
  exact h v' w' h1 h2 (by simpa using h4)

theorem one_of_ownB {w : World} {B : Nat} {v : Value} {l : List UInt8} (h : Own w B v l) : v.oneCell' = true := by
  obtain ⟨a, c, rfl, _⟩ := h.shape
  rfl


/-- One entry more: the list is put down, then its copy is made and put down. -/
theorem Held.pushed2 {w w2 w3 w3c w4 : World} {B : Nat} {lab : Nat → Tag} {Hb f n : Nat} {es : List Ent} {vo vw vo' vw' v u : Value} {l : List UInt8} (hr : HRows fv w B lab Hb vo vw (es.map (·.out)) (es.map (·.want))) (hes : Ents w B lab f n es) (hv : Own w B v l) (tv : Tagged lab v (.out es.length)) (o1 o2 : Obj)
    (ho1 : w2.ownsRow B 30 1 vo' ((es.map (·.out)).length + 1) (es.map (·.out) ++ [v])) (hg1 : (w.alloc o1).grownBy w2 vo.ownBlock) (hv1 : vo'.ownBlock = vo.ownBlock ∨ vo'.ownBlock = some (w.alloc o1).heap.size) (hw3 : w3 = w2.setCell ⟨Hb, 2, none⟩ vo')
    (hb3 : Below w3.heap.size w3 w3c) (ou : Own w3c w3.heap.size u l) (hB : B ≤ w.heap.size)
    (ho2 : w4.ownsRow B 30 1 vw' ((es.map (·.want)).length + 1) (es.map (·.want) ++ [u])) (hg2 : (w3c.alloc o2).grownBy w4 vw.ownBlock) (hv2 : vw'.ownBlock = vw.ownBlock ∨ vw'.ownBlock = some (w3c.alloc o2).heap.size) :
    ∃ lab', Held fv (w4.setCell ⟨Hb, 3, none⟩ vw') B lab' Hb f n (es ++ [⟨v, u, l⟩]) ∧ (∀ k, k < w.heap.size → lab' k = lab k) ∧ Kept (Lists lab) w (w4.setCell ⟨Hb, 3, none⟩ vw') := by
  have hal1 : Below w.heap.size w (w.alloc o1) := (Below.refl _ w).alloc (Nat.le_refl _) _
  obtain ⟨hr3, k3⟩ := (hr.alloc o1).pushOut ho1 hg1 hv1
  rw [← hw3] at hr3 k3
  have hs1 : (w.alloc o1).heap.size = w.heap.size + 1 := by simp
  have hz3 := k3.size
  obtain ⟨lab3, hlab3⟩ : ∃ lab3 : Nat → Tag, lab3 = fun k => if k = (w.alloc o1).heap.size then .outs else lab k := ⟨_, rfl⟩
  obtain ⟨lab4, hlab4⟩ : ∃ lab4 : Nat → Tag, lab4 = fun k => if k < w3.heap.size then lab3 k else .want es.length := ⟨_, rfl⟩
  have e3 : ∀ k, k < w.heap.size → lab3 k = lab k := fun k hk => by rw [hlab3]; exact if_neg (by omega)
  have e4 : ∀ k, k < w3.heap.size → lab4 k = lab3 k := fun k hk => by rw [hlab4]; exact if_pos hk
  have e5 : ∀ k, w3.heap.size ≤ k → lab4 k = .want es.length := fun k hk => by rw [hlab4]; exact if_neg (by omega)
  rw [← hlab3] at hr3
  have hr4 := (hr3.relabel e4).below hb3
  obtain ⟨hr5, k5⟩ := (hr4.alloc o2).pushWant ho2 hg2 hv2
  have hz4 := hb3.size
  have hal2 : Below w3c.heap.size w3c (w3c.alloc o2) := (Below.refl _ _).alloc (Nat.le_refl _) o2
  have nl : ∀ g, v.ownBlock = some g → ¬ Lists lab g := fun g hg hl => by
    have := tv g hg
    rcases hl with h | h | h <;> rw [this] at h <;> simp at h
  have old : ∀ j r, EntAt w B lab f n j r → EntAt w3c B lab4 f n j r := fun j r h => by
    have h1 := (h.below hal1).push k3 .outs (.inl rfl)
    rw [← hlab3] at h1
    exact (h1.relabel e4).below hb3
  have new : EntAt w3c B lab4 f n es.length ⟨v, u, l⟩ := by
    have o1 := k3.Own (hv.below hal1) nl
    refine ⟨⟨o1.below hb3, fun g hg => .inl ?_⟩, ou.mono (by omega), fun g hg => e5 g (ou.lt g hg).1⟩
    have hlt := (hv.lt g hg).2
    rw [e4 g (by omega), e3 g hlt]
    exact tv g hg
  refine ⟨_, ⟨_, _, by rw [List.map_append, List.map_append]; exact hr5, ?_⟩, ?_, ?_⟩
  · intro j r hj
    refine (EntAt.below ?_ hal2).push k5 .wants (.inr rfl)
    by_cases hjl : j < es.length
    · rw [List.getElem?_append_left hjl] at hj
      exact old j r (hes j r hj)
    · rw [List.getElem?_append_right (by omega)] at hj
      have hj0 : j - es.length = 0 := by have := (List.getElem?_eq_some_iff.1 hj).1; simp at this; omega
      obtain rfl : j = es.length := by omega
      rw [hj0] at hj
      simp only [List.getElem?_cons_zero, Option.some.injEq] at hj
      subst hj
      exact new
  · intro k hk
    have hs2 : (w3c.alloc o2).heap.size = w3c.heap.size + 1 := by simp
    show (if k = (w3c.alloc o2).heap.size then Tag.wants else lab4 k) = lab k
    rw [if_neg (by omega), e4 k (by omega), e3 k hk]
  · refine ((((Kept.ofBelow hal1 : Kept (Lists lab) w _).step k3 ?_).trans (Kept.ofBelow hb3)).trans (Kept.ofBelow hal2)).step k5 ?_
    · intro k hk h
      exact h
    · intro k hk h
      unfold Lists at h ⊢
      rwa [e4 k (by omega), e3 k hk] at h
end Go.Proofs.Ytcgpfhkndbggiaa
