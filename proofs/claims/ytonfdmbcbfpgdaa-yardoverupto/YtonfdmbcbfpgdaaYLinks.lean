/-
  Which job stands at which place of which heap; the heaps' order.
-/
import Derived.Test.YtonfdmbcbfpgdaaOrderM
import Derived.Test.YtonfdmbcbfpgdaaLayX
namespace Go.Proofs.Ytonfdmbcbfpgdaa
open Go.RowKit

/-- The ticket of a job's i-th heap. -/
def tkE (e : En) (i : Nat) : Int := if i = 0 then e.t0 else e.t1
/-- A row of a job's. -/
def RowE (L : List En) (K : HK) (r : Int × Mk) : Prop := ∃ e ∈ L, ∃ i, (ksOf e.j)[i]? = some K ∧ r = (tkE e i, e.j.mark)
structure Lk (L : List En) (hp : HK → Option HM) : Prop where
  row : ∀ K h, hp K = some h → ∀ r, r ∈ h.R ↔ RowE L K r
  has : ∀ e ∈ L, ∀ K ∈ ksOf e.j, (hp K).isSome = true
  ord : ∀ K h, hp K = some h → Hp (rkOf K.1) h.R
theorem hp_nil (k : Int) : Hp k [] := fun i r q _ h => by simp at h
theorem lk0 {hp : HK → Option HM} (h : ∀ K x, hp K = some x → x.R = []) : Lk [] hp :=
  ⟨fun K x hx r => (by rw [h K x hx]; exact ⟨fun h => (by cases h), fun ⟨e, he, _⟩ => (by cases he)⟩), fun e he => (by cases he), fun K x hx => (by rw [h K x hx]; exact hp_nil _)⟩
/-- In which heaps a job stands. -/
theorem ks_cases {j : Jb} {K : HK} (h : K ∈ ksOf j) : (j.st = 1 ∧ K = hkT 0 j.nm) ∨ (j.st = 2 ∧ (K = hkT 1 j.nm ∨ K = hkD)) ∨ (j.st = 3 ∧ (K = hkH j.ho ∨ K = hkR)) ∨ (j.st ≠ 1 ∧ j.st ≠ 2 ∧ j.st ≠ 3 ∧ K = hkT 2 j.nm) := by
  unfold ksOf at h
  split at h
  · rename_i h1
    exact .inl ⟨h1, List.mem_singleton.1 h⟩
  · rename_i h1
    split at h
    · rename_i h2
      exact .inr (.inl ⟨h2, by simpa using h⟩)
    · rename_i h2
      split at h
      · rename_i h3
        exact .inr (.inr (.inl ⟨h3, by simpa using h⟩))
      · rename_i h3
        exact .inr (.inr (.inr ⟨h1, h2, h3, List.mem_singleton.1 h⟩))
theorem hkT_inj {i j : Nat} {s t : ByteArray} (h : hkT i s = hkT j t) : i = j ∧ s = t := by simpa [hkT] using h
theorem hk_fst {a b : HK} (h : a = b) : a.1 = b.1 := by rw [h]
/-- .. a tube's. -/
theorem ks_tube {j : Jb} {i : Nat} {t : ByteArray} (hi : i ≤ 2) (h : hkT i t ∈ ksOf j) : j.nm = t ∧ (i = 0 ∧ j.st = 1 ∨ i = 1 ∧ j.st = 2 ∨ i = 2 ∧ j.st ≠ 1 ∧ j.st ≠ 2 ∧ j.st ≠ 3) := by
  rcases ks_cases h with ⟨h1, e⟩ | ⟨h1, e | e⟩ | ⟨h1, e | e⟩ | ⟨h1, h2, h3, e⟩
  · simp [hkT] at e
    exact ⟨e.2.symm, .inl ⟨e.1, h1⟩⟩
  · simp [hkT] at e
    exact ⟨e.2.symm, .inr (.inl ⟨e.1, h1⟩)⟩
  · have := hk_fst e; simp at this; omega
  · have := hk_fst e; simp at this; omega
  · have := hk_fst e; simp at this; omega
  · simp [hkT] at e
    exact ⟨e.2.symm, .inr (.inr ⟨e.1, h1, h2, h3⟩)⟩
theorem ks_held {j : Jb} {n : Int} (h : hkH n ∈ ksOf j) : j.st = 3 ∧ j.ho = n := by
  rcases ks_cases h with ⟨h1, e⟩ | ⟨h1, e | e⟩ | ⟨h1, e | e⟩ | ⟨h1, h2, h3, e⟩
  · have := hk_fst e; simp at this
  · have := hk_fst e; simp at this
  · have := hk_fst e; simp at this
  · simp at e
    exact ⟨h1, e.symm⟩
  · have := hk_fst e; simp at this
  · have := hk_fst e; simp at this
theorem RowE.key {L : List En} {K : HK} {r : Int × Mk} (h : RowE L K r) : ∃ e ∈ L, K ∈ ksOf e.j ∧ r.2 = e.j.mark := by
  obtain ⟨e, he, i, hi, rfl⟩ := h
  exact ⟨e, he, List.mem_of_getElem? hi, rfl⟩
/-- An empty heap comes in where no job stands. -/
theorem Lk.new {L : List En} {hp hp' : HK → Option HM} (h : Lk L hp) (hc : ∀ K, hp' K = hp K ∨ ((∃ x, hp' K = some x ∧ x.R = []) ∧ ∀ e ∈ L, K ∉ ksOf e.j)) : Lk L hp' := by
  refine ⟨fun K x hx r => ?_, fun e he K hK => ?_, fun K x hx => ?_⟩
  · rcases hc K with e | ⟨⟨y, hy, hR⟩, hn⟩
    · rw [e] at hx
      exact h.row K x hx r
    · rw [hy] at hx
      cases hx
      rw [hR]
      refine ⟨fun h => (by cases h), fun hr => ?_⟩
      obtain ⟨e, he, hk, _⟩ := hr.key
      exact absurd hk (hn e he)
  · rcases hc K with e2 | ⟨_, hn⟩
    · rw [e2]
      exact h.has e he K hK
    · exact absurd hK (hn e he)
  · rcases hc K with e | ⟨⟨y, hy, hR⟩, hn⟩
    · rw [e] at hx
      exact h.ord K x hx
    · rw [hy] at hx
      cases hx
      rw [hR]
      exact hp_nil _
theorem Lk.one {Y Y1 : Yd} {t : ByteArray} (h : Lk Y.L Y.hp) (hn : Y.tb t = none → ∀ e ∈ Y.L, e.j.nm ≠ t) (h1 : T1 Y t Y1) : Lk Y.L Y1.hp := by
  rcases h1 with ⟨b, _, rfl⟩ | ⟨hb, b, hb0, mb0, hb1, mb1, hb2, mb2, rfl⟩
  · exact h
  · refine h.new (fun K => ?_)
    have hno := hn hb
    simp only [Yd.withTube]
    by_cases e0 : K = hkT 0 t
    · subst e0
      exact .inr ⟨⟨_, if_pos rfl, rfl⟩, fun e he hk => hno e he (ks_tube (by omega) hk).1⟩
    · rw [if_neg e0]
      by_cases e1 : K = hkT 1 t
      · subst e1
        exact .inr ⟨⟨_, if_pos rfl, rfl⟩, fun e he hk => hno e he (ks_tube (by omega) hk).1⟩
      · rw [if_neg e1]
        by_cases e2 : K = hkT 2 t
        · subst e2
          exact .inr ⟨⟨_, if_pos rfl, rfl⟩, fun e he hk => hno e he (ks_tube (by omega) hk).1⟩
        · rw [if_neg e2]
          exact .inl rfl
theorem Lk.two {L : List En} {Y1 Y2 : Yd} {j : Jb} (h : Lk L Y1.hp) (h2 : T2 Y1 j Y2) : Lk L Y2.hp := by
  rcases h2 with ⟨_, rfl⟩ | ⟨_, hno, hb, mb, rfl⟩
  · exact h
  · refine h.new (fun K => ?_)
    show updH Y1.hp (hkH j.ho) (some (hm0 hb mb)) K = Y1.hp K ∨ ((∃ x, updH Y1.hp (hkH j.ho) (some (hm0 hb mb)) K = some x ∧ x.R = []) ∧ _)
    by_cases e : K = hkH j.ho
    · subst e
      refine .inr ⟨⟨_, updH_at _ _ _, rfl⟩, fun e he hk => ?_⟩
      have := h.has e he _ hk
      rw [hno] at this
      cases this
    · exact .inl (updH_ne _ _ e)
/-- What pushes make of the rows. -/
theorem pushes_row {Y : Yd} {m : Mk} : ∀ S : List Pu, PuV Y m S → ∀ K h, (PuY Y S).hp K = some h → ∃ h0, Y.hp K = some h0 ∧ (Hp (rkOf K.1) h0.R → Hp (rkOf K.1) h.R) ∧ ∀ r, r ∈ h.R ↔ r ∈ h0.R ∨ ∃ p ∈ S, p.1 = K ∧ r = (p.2.1.last + 1, m)
  | [], _, K, h, hh => ⟨h, hh, id, fun r => ⟨.inl, fun h => h.elim id (fun ⟨p, hp, _⟩ => (by cases hp))⟩⟩
  | p :: S, hv, K, h, hh => by
    obtain ⟨h1, h2, _, _, _, h6⟩ := hv
    by_cases e : K = p.1
    · subst e
      have hh : some p.2.2 = some h := (updH_at (PuY Y S).hp p.1 (some p.2.2)).symm.trans hh
      cases hh
      obtain ⟨h0, g1, g2, g3⟩ := pushes_row S h1 p.1 p.2.1 h2
      refine ⟨h0, g1, fun ho => ?_, fun r => ?_⟩
      · rw [h6]
        exact push_hp rfl (g2 ho) _ 0
      · rw [h6, mem_pushR, g3]
        constructor
        · rintro ((h | ⟨q, hq, e1, e2⟩) | h)
          · exact .inl h
          · exact .inr ⟨q, List.mem_cons_of_mem _ hq, e1, e2⟩
          · exact .inr ⟨p, List.mem_cons_self .., rfl, h⟩
        · rintro (h | ⟨q, hq, e1, e2⟩)
          · exact .inl (.inl h)
          · rcases List.mem_cons.1 hq with rfl | hq
            · exact .inr e2
            · exact .inl (.inr ⟨q, hq, e1, e2⟩)
    · have hh : (PuY Y S).hp K = some h := (updH_ne (PuY Y S).hp (K := p.1) (some p.2.2) e).symm.trans hh
      obtain ⟨h0, g1, g2, g3⟩ := pushes_row S h1 K h hh
      refine ⟨h0, g1, g2, fun r => ?_⟩
      rw [g3]
      constructor
      · rintro (h | ⟨q, hq, e1, e2⟩)
        · exact .inl h
        · exact .inr ⟨q, List.mem_cons_of_mem _ hq, e1, e2⟩
      · rintro (h | ⟨q, hq, e1, e2⟩)
        · exact .inl h
        · rcases List.mem_cons.1 hq with rfl | hq
          · exact absurd e1.symm e
          · exact .inr ⟨q, hq, e1, e2⟩
theorem pushes_some {Y : Yd} {m : Mk} : ∀ S : List Pu, PuV Y m S → ∀ K, (Y.hp K).isSome = true → ((PuY Y S).hp K).isSome = true
  | [], _, K, h => h
  | p :: S, hv, K, h => by
    by_cases e : K = p.1
    · subst e
      show (updH (PuY Y S).hp p.1 (some p.2.2) p.1).isSome = true
      rw [updH_at]
      rfl
    · show (updH (PuY Y S).hp p.1 (some p.2.2) K).isSome = true
      rw [updH_ne _ _ e]
      exact pushes_some S hv.1 K h
theorem tkOf_at {S : List Pu} {i : Nat} {p : Pu} (h : S.reverse[i]? = some p) : tkOf S i = p.2.1.last + 1 := by
  unfold tkOf tks
  rw [List.getElem?_map, h]
  rfl
/-- A job is laid in. -/
theorem Lk.laid {L : List En} {Y2 : Yd} {j : Jb} {S : List Pu} {bv : Value} {body : List UInt8} (h : Lk L Y2.hp) (hv : PuV Y2 j.mark S) (hk : (S.map (·.1)).reverse = ksOf j) (hs : ∀ K ∈ ksOf j, (Y2.hp K).isSome = true) :
    Lk (insE L ⟨j, bv, body, tkOf S 0, tkOf S 1⟩) (PuY Y2 S).hp := by
  have hat : ∀ (i : Nat) K, (ksOf j)[i]? = some K → ∃ p ∈ S, p.1 = K ∧ tkOf S i = p.2.1.last + 1 := fun i K hi => by
    rw [← hk, ← List.map_reverse, List.getElem?_map] at hi
    cases hp : S.reverse[i]? with
    | none => rw [hp] at hi; cases hi
    | some p =>
      rw [hp] at hi
      exact ⟨p, by simpa using List.mem_of_getElem? hp, by simpa using hi, tkOf_at hp⟩
  have hof : ∀ p ∈ S, ∃ i, (ksOf j)[i]? = some p.1 ∧ tkOf S i = p.2.1.last + 1 := fun p hp => by
    obtain ⟨i, hi⟩ := List.mem_iff_getElem?.1 (List.mem_reverse.2 hp)
    exact ⟨i, by rw [← hk, ← List.map_reverse, List.getElem?_map, hi]; rfl, tkOf_at hi⟩
  have htk : ∀ (i : Nat) K, (ksOf j)[i]? = some K → tkE ⟨j, bv, body, tkOf S 0, tkOf S 1⟩ i = tkOf S i := fun i K hi => by
    have h1 := (List.getElem?_eq_some_iff.1 hi).1
    have h2 := ks_len j
    unfold tkE
    by_cases e : i = 0
    · subst e; rfl
    · rw [if_neg e]
      have : i = 1 := by omega
      rw [this]
  refine ⟨fun K x hx r => ?_, fun e he K hK => ?_, fun K x hx => ?_⟩
  · obtain ⟨h0, g1, _, g3⟩ := pushes_row S hv K x hx
    rw [g3, h.row K h0 g1]
    constructor
    · rintro (⟨e, he, i, hi, rfl⟩ | ⟨p, hp, rfl, rfl⟩)
      · exact ⟨e, (mem_insE _ _).2 (.inr he), i, hi, rfl⟩
      · obtain ⟨i, hi, ht⟩ := hof p hp
        exact ⟨_, (mem_insE _ _).2 (.inl rfl), i, hi, by rw [htk i _ hi, ht]⟩
    · rintro ⟨e, he, i, hi, rfl⟩
      rcases (mem_insE _ _).1 he with rfl | he
      · obtain ⟨p, hp, e1, e2⟩ := hat i K hi
        exact .inr ⟨p, hp, e1, by rw [htk i _ hi, e2]⟩
      · exact .inl ⟨e, he, i, hi, rfl⟩
  · rcases (mem_insE _ _).1 he with rfl | he
    · exact pushes_some S hv K (hs K hK)
    · exact pushes_some S hv K (h.has e he K hK)
  · obtain ⟨h0, g1, g2, _⟩ := pushes_row S hv K x hx
    exact g2 (h.ord K h0 g1)
/-- A job is taken out: of each of its heaps its row. -/
theorem Lk.taken {L L' : List En} {hp hp' : HK → Option HM} {e : En} (h : Lk L hp) (he : e ∈ L) (hu : ∀ x ∈ L, ∀ y ∈ L, x.j.id = y.j.id → x = y) (hL : ∀ x, x ∈ L' ↔ x ∈ L ∧ x ≠ e)
    (hon : ∀ K x, hp K = some x → Once x.R)
    (hk : ∀ (i : Nat) K, (ksOf e.j)[i]? = some K → ∃ x x', hp K = some x ∧ hp' K = some x' ∧ ∃ (q n : Nat) (r : Int × Mk), x.R[q]? = some r ∧ r.1 = tkE e i ∧ x'.R = (dropL (ltK (rkOf K.1)) x.R q n).1)
    (hn : ∀ K, K ∉ ksOf e.j → hp' K = hp K) : Lk L' hp' := by
  refine ⟨fun K x' hx' r => ?_, fun y hy K hK => ?_, fun K x' hx' => ?_⟩
  · by_cases hK : K ∈ ksOf e.j
    · obtain ⟨i, hi⟩ := List.mem_iff_getElem?.1 hK
      obtain ⟨x, x2, g1, g2, q, n, r0, g3, g4, g5⟩ := hk i K hi
      rw [g2] at hx'
      cases hx'
      rw [g5, mem_drop (hon K x g1) g3, h.row K x g1]
      have m0 : r0 ∈ x.R := List.mem_of_getElem? g3
      have mE : (tkE e i, e.j.mark) ∈ x.R := (h.row K x g1 _).2 ⟨e, he, i, hi, rfl⟩
      have e0 : r0 = (tkE e i, e.j.mark) := (hon K x g1).same m0 mE g4
      constructor
      · rintro ⟨⟨y, hy, k, hk2, rfl⟩, hne⟩
        refine ⟨y, (hL y).2 ⟨hy, fun e2 => hne ?_⟩, k, hk2, rfl⟩
        subst e2
        have hik : k = i := by
          have h1 := (List.getElem?_eq_some_iff.1 hk2)
          have h2 := (List.getElem?_eq_some_iff.1 hi)
          exact (List.getElem_inj (ks_nodup y.j)).1 (h1.2.trans h2.2.symm)
        rw [hik, e0]
      · rintro ⟨y, hy, k, hk2, rfl⟩
        obtain ⟨hy1, hy2⟩ := (hL y).1 hy
        refine ⟨⟨y, hy1, k, hk2, rfl⟩, fun e2 => hy2 ?_⟩
        have mY : (tkE y k, y.j.mark) ∈ x.R := (h.row K x g1 _).2 ⟨y, hy1, k, hk2, rfl⟩
        have := (hon K x g1).same mY m0 e2
        rw [e0] at this
        have hid := congrArg (fun z : Int × Mk => z.2.id) this
        exact hu y hy1 e he hid
    · rw [hn K hK] at hx'
      rw [h.row K x' hx']
      constructor
      · rintro ⟨y, hy, k, hk2, rfl⟩
        exact ⟨y, (hL y).2 ⟨hy, fun e2 => hK (by rw [← e2]; exact List.mem_of_getElem? hk2)⟩, k, hk2, rfl⟩
      · rintro ⟨y, hy, k, hk2, rfl⟩
        exact ⟨y, ((hL y).1 hy).1, k, hk2, rfl⟩
  · have hy1 := ((hL y).1 hy).1
    by_cases hKe : K ∈ ksOf e.j
    · obtain ⟨i, hi⟩ := List.mem_iff_getElem?.1 hKe
      obtain ⟨x, x2, g1, g2, _⟩ := hk i K hi
      rw [g2]
      rfl
    · rw [hn K hKe]
      exact h.has y hy1 K hK
  · by_cases hK : K ∈ ksOf e.j
    · obtain ⟨i, hi⟩ := List.mem_iff_getElem?.1 hK
      obtain ⟨x, x2, g1, g2, q, n, r0, g3, g4, g5⟩ := hk i K hi
      rw [g2] at hx'
      cases hx'
      rw [g5]
      exact drop_hp rfl (h.ord K x g1) (List.getElem?_eq_some_iff.1 g3).1 n
    · rw [hn K hK] at hx'
      exact h.ord K x' hx'
/-- A heap where no job stands goes. -/
theorem Lk.gone {L : List En} {hp hp' : HK → Option HM} (h : Lk L hp) (hc : ∀ K, hp' K = hp K ∨ (hp' K = none ∧ ∀ e ∈ L, K ∉ ksOf e.j)) : Lk L hp' := by
  refine ⟨fun K x hx r => ?_, fun e he K hK => ?_, fun K x hx => ?_⟩
  · rcases hc K with e | ⟨e, _⟩
    · rw [e] at hx
      exact h.row K x hx r
    · rw [e] at hx; cases hx
  · rcases hc K with e2 | ⟨_, hn⟩
    · rw [e2]
      exact h.has e he K hK
    · exact absurd hK (hn e he)
  · rcases hc K with e | ⟨e, _⟩
    · rw [e] at hx
      exact h.ord K x hx
    · rw [e] at hx; cases hx
/-- The first row of a heap is that of the first job. -/
theorem Lk.first {L : List En} {hp : HK → Option HM} (h : Lk L hp) {K : HK} {x : HM} (hx : hp K = some x) :
    (x.R = [] ∧ ∀ e ∈ L, K ∉ ksOf e.j) ∨ ∃ e ∈ L, K ∈ ksOf e.j ∧ (x.R.head?.map (fun r => r.2.id)).getD 0 = e.j.id ∧ ∀ y ∈ L, K ∈ ksOf y.j → keyK (rkOf K.1) e.j.mark < keyK (rkOf K.1) y.j.mark ∨ (keyK (rkOf K.1) e.j.mark = keyK (rkOf K.1) y.j.mark ∧ e.j.id ≤ y.j.id) := by
  have hrow := h.row K x hx
  cases hR : x.R with
  | nil =>
    refine .inl ⟨rfl, fun e he hk => ?_⟩
    obtain ⟨i, hi⟩ := List.mem_iff_getElem?.1 hk
    have := (hrow (tkE e i, e.j.mark)).2 ⟨e, he, i, hi, rfl⟩
    rw [hR] at this
    cases this
  | cons r R =>
    have hr : r ∈ x.R := by rw [hR]; exact List.mem_cons_self ..
    obtain ⟨e, he, hk, hm⟩ := ((hrow r).1 hr).key
    refine .inr ⟨e, he, hk, ?_, fun y hy hky => ?_⟩
    · simp [hm]
      rfl
    · obtain ⟨i, hi⟩ := List.mem_iff_getElem?.1 hky
      have hyr := (hrow (tkE y i, y.j.mark)).2 ⟨y, hy, i, hi, rfl⟩
      obtain ⟨q, hq⟩ := List.mem_iff_getElem?.1 hyr
      have := hp_first (h.ord K x hx) (z := r) (by rw [hR]; rfl) q _ hq
      unfold LtM at this
      rw [hm] at this
      simp only [] at this
      have e1 : e.j.mark.id = e.j.id := rfl
      have e2 : y.j.mark.id = y.j.id := rfl
      rw [e1, e2] at this
      omega
end Go.Proofs.Ytonfdmbcbfpgdaa
