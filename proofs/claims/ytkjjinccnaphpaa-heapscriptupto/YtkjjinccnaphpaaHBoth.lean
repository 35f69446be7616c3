/-
  A heap beside the document's: the same rows; what each says of them is the same (no memory).
-/
import Derived.Test.YtkjjinccnaphpaaHRef9
namespace Go.Proofs.Ytkjjinccnaphpaa

theorem once_up {E : List RowI} (hup : E.Pairwise (fun a b => a.1 < b.1)) : Once E := by
  intro i j a b hi hj e
  have h1 := (List.getElem?_eq_some_iff.1 hi)
  have h2 := (List.getElem?_eq_some_iff.1 hj)
  rw [List.pairwise_iff_getElem] at hup
  rcases Nat.lt_trichotomy i j with h | h | h
  · have := hup i j h1.1 h2.1 h
    rw [h1.2, h2.2] at this
    omega
  · exact h
  · have := hup j i h2.1 h1.1 h
    rw [h1.2, h2.2] at this
    omega
theorem top_same {ky : Int × Int → Int} {R E : List RowI} {p : Nat} {q : RowI} (hh : Hp ky R) (hp : R.Perm E) (hup : E.Pairwise (fun a b => a.1 < b.1)) (ht : TopOf ky E p q) : R[0]? = some q := by
  have hq : q ∈ R := hp.symm.subset (List.mem_of_getElem? ht.1)
  cases R with
  | nil => simp at hq
  | cons z R =>
    have hz : z ∈ q :: (E.take p ++ E.drop (p + 1)) := (drop_perm ht.1).subset (hp.subset (by simp))
    rcases List.mem_cons.1 hz with e | e
    · rw [e]; rfl
    · obtain ⟨i, hi, hr⟩ := List.mem_iff_getElem.1 hq
      exact absurd (ht.first hup z e) (hp_first hh (z := z) rfl i q (by rw [List.getElem?_eq_getElem hi, hr]))
theorem ranked_same {ky : Int × Int → Int} {R E S S' : List RowI} (hp : R.Perm E) (h : Ranked ky R S) (h' : Ranked ky E S') : S = S' := sorted_unique ky S S' (h.perm.trans (hp.trans h'.perm.symm)) h.up h'.up
theorem mem_without {E : List RowI} {p : Nat} {q : RowI} (ho : Once E) (h : E[p]? = some q) (x : RowI) : x ∈ E.take p ++ E.drop (p + 1) ↔ x ∈ E ∧ x.1 ≠ q.1 := by
  have hd := drop_perm h
  have hn : (q :: (E.take p ++ E.drop (p + 1))).Nodup := hd.nodup_iff.1 ho.nodup
  constructor
  · intro hx
    have hxE : x ∈ E := hd.symm.subset (List.mem_cons_of_mem _ hx)
    refine ⟨hxE, fun e => ?_⟩
    have := ho.same hxE (List.mem_of_getElem? h) e
    rw [this] at hx
    exact (List.nodup_cons.1 hn).1 hx
  · rintro ⟨hx, hne⟩
    rcases List.mem_cons.1 (hd.subset hx) with e | e
    · exact absurd (by rw [e]) hne
    · exact e
theorem without_up {E : List RowI} {p : Nat} (hup : E.Pairwise (fun a b => a.1 < b.1)) : Once (E.take p ++ E.drop (p + 1)) := once_up (drop_up hup)
theorem drop_same {lt : Int × Int → Int × Int → Bool} {R E : List RowI} {i p n : Nat} {a : RowI} (ho : Once R) (ho' : Once (dropL lt R i n).1) (hp : R.Perm E) (hup : E.Pairwise (fun a b => a.1 < b.1)) (hi : R[i]? = some a) (he : E[p]? = some a) : (dropL lt R i n).1.Perm (E.take p ++ E.drop (p + 1)) := by
  refine (List.perm_ext_iff_of_nodup ho'.nodup (without_up hup).nodup).2 fun x => ?_
  rw [mem_drop ho hi, mem_without (once_up hup) he, hp.mem_iff]
theorem push_same {lt : Int × Int → Int × Int → Bool} {R E : List RowI} {r : RowI} {n : Nat} (ho' : Once (riseL lt R.length (R ++ [r]) R.length n).1) (hp : R.Perm E) (hup' : (E ++ [r]).Pairwise (fun a b => a.1 < b.1)) : (riseL lt R.length (R ++ [r]) R.length n).1.Perm (E ++ [r]) := by
  refine (List.perm_ext_iff_of_nodup ho'.nodup (once_up hup').nodup).2 fun x => ?_
  rw [mem_rise, List.mem_append, List.mem_append, hp.mem_iff]
theorem push_up {E : List RowI} {last : Int} {x : Int × Int} (hup : E.Pairwise (fun a b => a.1 < b.1)) (hl : ∀ r ∈ E, r.1 ≤ last) : (E ++ [(last + 1, x)]).Pairwise (fun a b => a.1 < b.1) :=
  List.pairwise_append.2 ⟨hup, List.pairwise_singleton _ _, fun a ha b hb => by rw [List.mem_singleton.1 hb]; have := hl a ha; show a.1 < last + 1; omega⟩
theorem set_up {E : List RowI} {p : Nat} {q : RowI} {x : Int × Int} (hup : E.Pairwise (fun a b => a.1 < b.1)) (h : E[p]? = some q) : (E.set p (q.1, x)).Pairwise (fun a b => a.1 < b.1) := by
  have hq := List.getElem?_eq_some_iff.1 h
  rw [List.pairwise_iff_getElem] at hup ⊢
  intro i j hi hj hij
  simp only [List.length_set] at hi hj
  have := hup i j hi hj hij
  rw [List.getElem_set, List.getElem_set]
  split <;> split
  · omega
  · rename_i e _; subst e; rw [hq.2] at this; exact this
  · rename_i _ e; subst e; rw [hq.2] at this; exact this
  · exact this
theorem mem_set_iff {E : List RowI} {p : Nat} {q : RowI} {x : Int × Int} (ho : Once E) (h : E[p]? = some q) (y : RowI) : y ∈ E.set p (q.1, x) ↔ y = (q.1, x) ∨ (y ∈ E ∧ y.1 ≠ q.1) := by
  have hp := (List.getElem?_eq_some_iff.1 h).1
  have hd : (E.set p (q.1, x)).Perm ((q.1, x) :: (E.take p ++ E.drop (p + 1))) := by
    have h2 : (E.set p (q.1, x))[p]? = some (q.1, x) := by simp [hp]
    have := drop_perm h2
    rw [List.take_set_of_le (Nat.le_refl _), List.drop_set_of_lt (by omega)] at this
    exact this
  rw [hd.mem_iff, List.mem_cons, mem_without ho h]
theorem change_same {lt : Int × Int → Int × Int → Bool} {R E : List RowI} {i p n : Nat} {a : RowI} {x : Int × Int} (ho : Once R) (ho' : Once (changeL lt R i (a.1, x) n).1) (hp : R.Perm E) (hup : E.Pairwise (fun a b => a.1 < b.1)) (hi : R[i]? = some a) (he : E[p]? = some a) : (changeL lt R i (a.1, x) n).1.Perm (E.set p (a.1, x)) := by
  refine (List.perm_ext_iff_of_nodup ho'.nodup (once_up (set_up hup he)).nodup).2 fun y => ?_
  unfold changeL
  rw [mem_settle, mem_set_iff ho hi, mem_set_iff (once_up hup) he, hp.mem_iff]
theorem Hp.loose {ky : Int × Int → Int} {R : List RowI} (h : Hp ky R) {i : Nat} (hi : i < R.length) (r : RowI) : Loose ky (R.set i r) i := by
  constructor
  · intro j s q h0 h1 h2 hs hq
    rw [List.getElem?_set_ne (fun e => h1 e.symm)] at hs
    rw [List.getElem?_set_ne (fun e => h2 e.symm)] at hq
    exact h j s q h0 hs hq
  · intro j s q h0 h1 h2 hs hq
    rw [List.getElem?_set_ne (by omega)] at hs hq
    have ha := List.getElem?_eq_getElem hi
    exact not_L_trans (h j s _ h0 hs (by rw [h1]; exact ha)) (h i _ q h2 ha hq)
theorem change_hp {ky : Int × Int → Int} {R : List RowI} (h : Hp ky R) {i : Nat} (hi : i < R.length) (r : RowI) (n : Nat) : Hp ky (changeL (ltK ky) R i r n).1 :=
  settle_hp (ltK_key ky) n (by simpa using hi) (h.loose hi r)
end Go.Proofs.Ytkjjinccnaphpaa
