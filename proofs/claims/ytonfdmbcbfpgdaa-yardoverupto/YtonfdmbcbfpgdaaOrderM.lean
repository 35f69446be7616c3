/-
  The order of a heap of marks, without memory.
-/
import Derived.Test.YtonfdmbcbfpgdaaHeapy
import Derived.Test.YtonfdmbcbfpgdaaYRank
namespace Go.Proofs.Ytonfdmbcbfpgdaa


/-- One row ranks ahead of another one: by its number, of equals by the id, of equals by the ticket. -/
def LtM (k : Int) (a b : Int × Mk) : Prop := keyK k a.2 < keyK k b.2 ∨ (keyK k a.2 = keyK k b.2 ∧ (a.2.id < b.2.id ∨ (a.2.id = b.2.id ∧ a.1 < b.1)))
theorem rank_iff {k : Int} {lt : Mk → Mk → Bool} (hk : lt = ltK k) (a b : Int × Mk) : rankB lt a b = true ↔ LtM k a b := by
  subst hk
  unfold rankB LtM ltK
  generalize keyK k a.2 = x
  generalize keyK k b.2 = y
  by_cases h1 : a.1 < b.1
  · rw [if_pos h1]
    by_cases h2 : y = x
    · subst h2
      rw [if_pos rfl]
      simp
      omega
    · rw [if_neg h2]
      simp only [Bool.not_eq_true', decide_eq_false_iff_not]
      omega
  · rw [if_neg h1]
    by_cases h2 : x = y
    · subst h2
      rw [if_pos rfl]
      simp
      omega
    · rw [if_neg h2]
      simp only [decide_eq_true_iff]
      omega
theorem rank_not {k : Int} {lt : Mk → Mk → Bool} (hk : lt = ltK k) {a b : Int × Mk} (h : rankB lt a b = false) : ¬ LtM k a b := fun e => by
  rw [(rank_iff hk a b).2 e] at h; cases h
theorem LtM.asymm {k : Int} {a b : Int × Mk} (h : LtM k a b) : ¬ LtM k b a := by unfold LtM at *; omega
theorem LtM.trans {k : Int} {a b c : Int × Mk} (h : LtM k a b) (h2 : LtM k b c) : LtM k a c := by unfold LtM at *; omega
theorem not_L_trans {k : Int} {a b c : Int × Mk} (h : ¬ LtM k a b) (h2 : ¬ LtM k b c) : ¬ LtM k a c := by unfold LtM at *; omega

/-- No row ranks ahead of the one above it. -/
def Hp (k : Int) (R : List (Int × Mk)) : Prop := ∀ (i : Nat) r q, 0 < i → R[i]? = some r → R[(i - 1) / 2]? = some q → ¬ LtM k r q
/-- .. but for the row at p. -/
structure Loose (k : Int) (R : List (Int × Mk)) (p : Nat) : Prop where
  far : ∀ (i : Nat) r q, 0 < i → i ≠ p → (i - 1) / 2 ≠ p → R[i]? = some r → R[(i - 1) / 2]? = some q → ¬ LtM k r q
  over : ∀ (i : Nat) r q, 0 < i → (i - 1) / 2 = p → 0 < p → R[i]? = some r → R[(p - 1) / 2]? = some q → ¬ LtM k r q
/-- .. but for what stands under p. -/
structure Sinking (k : Int) (R : List (Int × Mk)) (p : Nat) : Prop where
  far : ∀ (i : Nat) r q, 0 < i → (i - 1) / 2 ≠ p → R[i]? = some r → R[(i - 1) / 2]? = some q → ¬ LtM k r q
  over : ∀ (i : Nat) r q, 0 < i → (i - 1) / 2 = p → 0 < p → R[i]? = some r → R[(p - 1) / 2]? = some q → ¬ LtM k r q
/-- .. but for p itself. -/
structure Rising (k : Int) (R : List (Int × Mk)) (p : Nat) : Prop where
  far : ∀ (i : Nat) r q, 0 < i → i ≠ p → R[i]? = some r → R[(i - 1) / 2]? = some q → ¬ LtM k r q
  over : ∀ (i : Nat) r q, 0 < i → (i - 1) / 2 = p → 0 < p → R[i]? = some r → R[(p - 1) / 2]? = some q → ¬ LtM k r q
theorem Rising.loose {k : Int} {R : List (Int × Mk)} {p : Nat} (h : Rising k R p) : Loose k R p := ⟨fun i r q h0 h1 _ => h.far i r q h0 h1, h.over⟩

theorem rise_step {k : Int} {R : List (Int × Mk)} {p : Nat} {a b : Int × Mk} (h : Loose k R p) (hp : p ≠ 0) (ha : R[p]? = some a) (hb : R[(p - 1) / 2]? = some b) (hl : LtM k a b) : Rising k (swapL R p ((p - 1) / 2)) ((p - 1) / 2) := by
  have hne : (p - 1) / 2 ≠ p := by omega
  have G := swapL_get ha hb
  constructor
  · intro i r q h0 h1 hr hq
    rw [G] at hr hq
    rw [if_neg h1] at hr
    by_cases hip : i = p
    · rw [if_pos hip] at hr; cases hr
      rw [hip, if_pos rfl] at hq; cases hq
      exact hl.asymm
    · rw [if_neg hip] at hr
      by_cases hpp : (i - 1) / 2 = p
      · rw [if_neg (by omega), if_pos hpp] at hq; cases hq
        exact h.over i r b h0 hpp (by omega) hr hb
      · by_cases hpq : (i - 1) / 2 = (p - 1) / 2
        · rw [if_pos hpq] at hq; cases hq
          have := h.far i r b h0 hip hpp hr (by rw [hpq]; exact hb)
          exact fun e => this (e.trans hl)
        · rw [if_neg hpq, if_neg hpp] at hq
          exact h.far i r q h0 hip hpp hr hq
  · intro i r q h0 h1 h2 hr hq
    rw [G] at hr hq
    rw [if_neg (by omega), if_neg (by omega)] at hq
    have hbq : ¬ LtM k b q := h.far ((p - 1) / 2) b q h2 hne (by omega) hb hq
    rw [if_neg (by omega)] at hr
    by_cases hip : i = p
    · rw [if_pos hip] at hr; cases hr
      exact hbq
    · rw [if_neg hip] at hr
      have := h.far i r b h0 hip (by omega) hr (by rw [h1]; exact hb)
      exact not_L_trans this hbq

theorem Loose.sinking {k : Int} {R : List (Int × Mk)} {p : Nat} (h : Loose k R p) (ht : ∀ a b, p ≠ 0 → R[p]? = some a → R[(p - 1) / 2]? = some b → ¬ LtM k a b) : Sinking k R p := by
  refine ⟨fun i r q h0 h1 hr hq => ?_, h.over⟩
  by_cases hip : i = p
  · subst hip; exact ht r q (by omega) hr hq
  · exact h.far i r q h0 hip h1 hr hq
theorem Rising.hp {k : Int} {R : List (Int × Mk)} {p : Nat} (h : Rising k R p) (ht : ∀ a b, p ≠ 0 → R[p]? = some a → R[(p - 1) / 2]? = some b → ¬ LtM k a b) : Hp k R := by
  intro i r q h0 hr hq
  by_cases hip : i = p
  · subst hip; exact ht r q (by omega) hr hq
  · exact h.far i r q h0 hip hr hq

theorem rise_le (lt : Mk → Mk → Bool) : ∀ (f : Nat) (R : List (Int × Mk)) (p n : Nat), (riseL lt f R p n).2.1 ≤ p
  | 0, R, p, n => Nat.le_refl _
  | f + 1, R, p, n => by
    unfold riseL
    split
    · exact Nat.le_refl _
    · split
      · split
        · have := rise_le lt f (swapL R p ((p - 1) / 2)) ((p - 1) / 2) (n + 1)
          omega
        · exact Nat.le_refl _
      · exact Nat.le_refl _

theorem rising_hp {k : Int} {lt : Mk → Mk → Bool} (hk : lt = ltK k) : ∀ (f : Nat) (R : List (Int × Mk)) (p n : Nat), p ≤ f → p < R.length → Rising k R p → Hp k (riseL lt f R p n).1 := by
  intro f
  induction f using Nat.strongRecOn with
  | _ f ih =>
    intro R p n hf hl h
    by_cases hp : p = 0
    · subst hp
      rw [riseL_zero]
      exact h.hp (fun a b h0 => absurd rfl h0)
    · obtain ⟨a, ha⟩ : ∃ a, R[p]? = some a := ⟨_, List.getElem?_eq_getElem hl⟩
      obtain ⟨b, hb⟩ : ∃ b, R[(p - 1) / 2]? = some b := ⟨_, List.getElem?_eq_getElem (by omega)⟩
      cases hr : rankB lt a b with
      | false =>
        rw [riseL_no hp hf ha hb hr]
        exact h.hp (fun a' b' _ ha' hb' => by rw [ha] at ha'; rw [hb] at hb'; cases ha'; cases hb'; exact rank_not hk hr)
      | true =>
        rw [riseL_go hp hf ha hb hr]
        have : f - 1 < f := by omega
        exact ih (f - 1) this _ _ _ (by omega) (by rw [swapL_length]; omega) (rise_step h.loose hp ha hb ((rank_iff hk a b).1 hr))

/-- What rises comes to a heap, or stands still. -/
theorem rise_ok {k : Int} {lt : Mk → Mk → Bool} (hk : lt = ltK k) {f : Nat} {R : List (Int × Mk)} {p : Nat} (n : Nat) (hf : p ≤ f) (hl : p < R.length) (h : Loose k R p) :
    ((riseL lt f R p n).2.1 ≠ p → Hp k (riseL lt f R p n).1) ∧ ((riseL lt f R p n).2.1 = p → (riseL lt f R p n).1 = R ∧ Sinking k R p) := by
  by_cases hp : p = 0
  · subst hp
    rw [riseL_zero]
    exact ⟨fun e => absurd rfl e, fun _ => ⟨rfl, h.sinking (fun a b h0 => absurd rfl h0)⟩⟩
  · obtain ⟨a, ha⟩ : ∃ a, R[p]? = some a := ⟨_, List.getElem?_eq_getElem hl⟩
    obtain ⟨b, hb⟩ : ∃ b, R[(p - 1) / 2]? = some b := ⟨_, List.getElem?_eq_getElem (by omega)⟩
    cases hr : rankB lt a b with
    | false =>
      rw [riseL_no hp hf ha hb hr]
      exact ⟨fun e => absurd rfl e, fun _ => ⟨rfl, h.sinking (fun a' b' _ ha' hb' => by rw [ha] at ha'; rw [hb] at hb'; cases ha'; cases hb'; exact rank_not hk hr)⟩⟩
    | true =>
      rw [riseL_go hp hf ha hb hr]
      have h1 := rising_hp hk (f - 1) _ _ (n + 1) (by omega) (by rw [swapL_length]; omega) (rise_step h hp ha hb ((rank_iff hk a b).1 hr))
      refine ⟨fun _ => h1, fun e => ?_⟩
      have := rise_le lt (f - 1) (swapL R p ((p - 1) / 2)) ((p - 1) / 2) (n + 1)
      omega

theorem sink_step {k : Int} {R : List (Int × Mk)} {p c : Nat} {a x : Int × Mk} (h : Sinking k R p) (hc : 0 < c) (hpc : (c - 1) / 2 = p) (ha : R[p]? = some a) (hx : R[c]? = some x) (hl : LtM k x a)
    (hm : ∀ (i : Nat) r, 0 < i → (i - 1) / 2 = p → R[i]? = some r → ¬ LtM k r x) : Sinking k (swapL R p c) c := by
  have hne : p ≠ c := by omega
  have G := swapL_get ha hx
  constructor
  · intro i r q h0 h1 hr hq
    rw [G] at hr hq
    rw [if_neg h1] at hq
    by_cases hic : i = c
    · rw [if_pos hic] at hr; cases hr
      rw [hic, if_pos hpc] at hq; cases hq
      exact hl.asymm
    · rw [if_neg hic] at hr
      by_cases hip : i = p
      · rw [if_pos hip] at hr; cases hr
        rw [if_neg (by omega)] at hq
        exact h.over c x q hc hpc (by omega) hx (by rw [← hip]; exact hq)
      · rw [if_neg hip] at hr
        by_cases hpp : (i - 1) / 2 = p
        · rw [if_pos hpp] at hq; cases hq
          exact hm i r h0 hpp hr
        · rw [if_neg hpp] at hq
          exact h.far i r q h0 hpp hr hq
  · intro i r q h0 h1 h2 hr hq
    rw [G] at hr hq
    rw [if_neg (by omega), if_pos hpc] at hq; cases hq
    rw [if_neg (by omega), if_neg (by omega)] at hr
    exact h.far i r x h0 (by omega) hr (by rw [h1]; exact hx)

theorem Sinking.hp {k : Int} {R : List (Int × Mk)} {p : Nat} (h : Sinking k R p) (ht : ∀ (i : Nat) r a, 0 < i → (i - 1) / 2 = p → R[i]? = some r → R[p]? = some a → ¬ LtM k r a) : Hp k R := by
  intro i r q h0 hr hq
  by_cases hpp : (i - 1) / 2 = p
  · exact ht i r q h0 hpp hr (by rw [← hpp]; exact hq)
  · exact h.far i r q h0 hpp hr hq

theorem two_below {i p : Nat} (h0 : 0 < i) (h : (i - 1) / 2 = p) : i = 2 * p + 1 ∨ i = 2 * p + 2 := by omega

theorem sinking_hp {k : Int} {lt : Mk → Mk → Bool} (hk : lt = ltK k) : ∀ (f : Nat) (R : List (Int × Mk)) (p n : Nat), R.length ≤ p + f → p < R.length → Sinking k R p → Hp k (sinkL lt f R p n).1 := by
  intro f
  induction f using Nat.strongRecOn with
  | _ f ih =>
    intro R p n hf hl h
    obtain ⟨a, ha⟩ : ∃ a, R[p]? = some a := ⟨_, List.getElem?_eq_getElem hl⟩
    cases hb : R[2 * p + 1]? with
    | none =>
      rw [sinkL_end hb]
      refine h.hp (fun i r x h0 h1 hr _ => ?_)
      have hn := List.getElem?_eq_none_iff.1 hb
      have hi := (List.getElem?_eq_some_iff.1 hr).1
      have := two_below h0 h1
      omega
    | some b =>
      have hbl := (List.getElem?_eq_some_iff.1 hb).1
      cases hc : R[2 * p + 2]? with
      | none =>
        have hn := List.getElem?_eq_none_iff.1 hc
        have only : ∀ (i : Nat) r, 0 < i → (i - 1) / 2 = p → R[i]? = some r → r = b := fun i r h0 h1 hr => by
          have hi := (List.getElem?_eq_some_iff.1 hr).1
          have : i = 2 * p + 1 := by have := two_below h0 h1; omega
          rw [this, hb] at hr
          exact (Option.some.inj hr).symm
        cases hr : rankB lt b a with
        | false =>
          rw [sinkL_one_no (by omega) ha hb hc hr]
          exact h.hp (fun i r x h0 h1 hi hx => by rw [ha] at hx; cases hx; rw [only i r h0 h1 hi]; exact rank_not hk hr)
        | true =>
          rw [sinkL_one_go (by omega) ha hb hc hr]
          have : f - 1 < f := by omega
          exact ih (f - 1) this _ _ _ (by rw [swapL_length]; omega) (by rw [swapL_length]; omega) (sink_step h (by omega) (by omega) ha hb ((rank_iff hk b a).1 hr) (fun i r h0 h1 hi => by rw [only i r h0 h1 hi]; unfold LtM; omega))
      | some c =>
        have hcl := (List.getElem?_eq_some_iff.1 hc).1
        have both : ∀ (i : Nat) r, 0 < i → (i - 1) / 2 = p → R[i]? = some r → r = b ∨ r = c := fun i r h0 h1 hr => by
          rcases two_below h0 h1 with e | e
          · rw [e, hb] at hr; exact .inl (Option.some.inj hr).symm
          · rw [e, hc] at hr; exact .inr (Option.some.inj hr).symm
        cases hr1 : rankB lt c b with
        | false =>
          have hcb := rank_not hk hr1
          cases hr : rankB lt b a with
          | false =>
            rw [sinkL_b_no (by omega) ha hb hc hr1 hr]
            refine h.hp (fun i r x h0 h1 hi hx => ?_)
            rw [ha] at hx; cases hx
            rcases both i r h0 h1 hi with e | e
            · rw [e]; exact rank_not hk hr
            · rw [e]; exact not_L_trans hcb (rank_not hk hr)
          | true =>
            rw [sinkL_b_go (by omega) ha hb hc hr1 hr]
            have : f - 1 < f := by omega
            refine ih (f - 1) this _ _ _ (by rw [swapL_length]; omega) (by rw [swapL_length]; omega) (sink_step h (by omega) (by omega) ha hb ((rank_iff hk b a).1 hr) (fun i r h0 h1 hi => ?_))
            rcases both i r h0 h1 hi with e | e
            · rw [e]; unfold LtM; omega
            · rw [e]; exact hcb
        | true =>
          have hcb := (rank_iff hk c b).1 hr1
          cases hr : rankB lt c a with
          | false =>
            rw [sinkL_c_no (by omega) ha hb hc hr1 hr]
            refine h.hp (fun i r x h0 h1 hi hx => ?_)
            rw [ha] at hx; cases hx
            rcases both i r h0 h1 hi with e | e
            · rw [e]; exact not_L_trans hcb.asymm (rank_not hk hr)
            · rw [e]; exact rank_not hk hr
          | true =>
            rw [sinkL_c_go (by omega) ha hb hc hr1 hr]
            have : f - 1 < f := by omega
            refine ih (f - 1) this _ _ _ (by rw [swapL_length]; omega) (by rw [swapL_length]; omega) (sink_step h (by omega) (by omega) ha hc ((rank_iff hk c a).1 hr) (fun i r h0 h1 hi => ?_))
            rcases both i r h0 h1 hi with e | e
            · rw [e]; exact hcb.asymm
            · rw [e]; unfold LtM; omega

theorem settle_hp {k : Int} {lt : Mk → Mk → Bool} (hk : lt = ltK k) {R : List (Int × Mk)} {p : Nat} (n : Nat) (hl : p < R.length) (h : Loose k R p) : Hp k (settleL lt R p n).1 := by
  obtain ⟨h1, h2⟩ := rise_ok (f := p) hk n (Nat.le_refl _) hl h
  unfold settleL
  by_cases hm : (riseL lt p R p n).2.1 ≠ p
  · rw [if_pos hm]; exact h1 hm
  · rw [if_neg hm]
    obtain ⟨e1, e2⟩ := h2 (by omega)
    rw [e1]
    exact sinking_hp hk _ _ _ _ (by omega) hl e2

/-- What is laid in: a heap still. -/
theorem push_hp {k : Int} {lt : Mk → Mk → Bool} (hk : lt = ltK k) {R : List (Int × Mk)} (h : Hp k R) (r : Int × Mk) (n : Nat) : Hp k (riseL lt R.length (R ++ [r]) R.length n).1 := by
  have hlo : Loose k (R ++ [r]) R.length := by
    constructor
    · intro i x q h0 h1 h2 hx hq
      have hi := (List.getElem?_eq_some_iff.1 hx).1
      simp at hi
      rw [List.getElem?_append_left (by omega)] at hx hq
      exact h i x q h0 hx hq
    · intro i x q h0 h1 h2 hx hq
      have hi := (List.getElem?_eq_some_iff.1 hx).1
      simp at hi
      omega
  obtain ⟨h1, h2⟩ := rise_ok (f := R.length) hk n (Nat.le_refl _) (by simp) hlo
  by_cases hm : (riseL lt R.length (R ++ [r]) R.length n).2.1 = R.length
  · obtain ⟨e1, e2⟩ := h2 hm
    rw [e1]
    refine e2.hp (fun i x q h0 h3 hx _ => ?_)
    have hi := (List.getElem?_eq_some_iff.1 hx).1
    simp at hi
    omega
  · exact h1 hm

/-- What is taken out: a heap still. -/
theorem drop_hp {k : Int} {lt : Mk → Mk → Bool} (hk : lt = ltK k) {R : List (Int × Mk)} (h : Hp k R) {p : Nat} (hp : p < R.length) (n : Nat) : Hp k (dropL lt R p n).1 := by
  obtain ⟨a, ha⟩ : ∃ a, R[p]? = some a := ⟨_, List.getElem?_eq_getElem hp⟩
  obtain ⟨e, he⟩ : ∃ e, e = R.length - 1 := ⟨_, rfl⟩
  obtain ⟨z, hz⟩ : ∃ z, R[e]? = some z := ⟨_, List.getElem?_eq_getElem (by omega)⟩
  have G : ∀ (i : Nat), i < e → ((swapL R p e).take e)[i]? = if i = p then some z else R[i]? := fun i hi => by
    rw [List.getElem?_take_of_lt hi, swapL_get ha hz, if_neg (by omega)]
  have hlen : ((swapL R p e).take e).length = e := by rw [List.length_take, swapL_length]; omega
  unfold dropL
  rw [← he]
  by_cases hpe : p < e
  · rw [if_pos hpe]
    refine settle_hp hk n (by omega) ⟨fun i r q h0 h1 h2 hr hq => ?_, fun i r q h0 h1 h2 hr hq => ?_⟩
    · have hi := (List.getElem?_eq_some_iff.1 hr).1
      rw [hlen] at hi
      rw [G i hi, if_neg h1] at hr
      rw [G _ (by omega), if_neg h2] at hq
      exact h i r q h0 hr hq
    · have hi := (List.getElem?_eq_some_iff.1 hr).1
      rw [hlen] at hi
      rw [G i hi, if_neg (by omega)] at hr
      rw [G _ (by omega), if_neg (by omega)] at hq
      have h3 := h i r a h0 hr (by rw [h1]; exact ha)
      have h4 := h p a q h2 ha hq
      exact not_L_trans h3 h4
  · rw [if_neg hpe]
    intro i r q h0 hr hq
    have hi := (List.getElem?_eq_some_iff.1 hr).1
    simp only [hlen] at hi
    rw [G i hi, if_neg (by omega)] at hr
    rw [G _ (by omega), if_neg (by omega)] at hq
    exact h i r q h0 hr hq

/-- The first row is ahead of all others. -/
theorem hp_first {k : Int} {R : List (Int × Mk)} (h : Hp k R) {z : Int × Mk} (hz : R[0]? = some z) : ∀ (i : Nat) r, R[i]? = some r → ¬ LtM k r z := by
  intro i
  induction i using Nat.strongRecOn with
  | _ i ih =>
    intro r hr
    by_cases h0 : i = 0
    · subst h0; rw [hz] at hr; cases hr; unfold LtM; omega
    · have hi := (List.getElem?_eq_some_iff.1 hr).1
      obtain ⟨q, hq⟩ : ∃ q, R[(i - 1) / 2]? = some q := ⟨_, List.getElem?_eq_getElem (by omega)⟩
      have : (i - 1) / 2 < i := by omega
      exact not_L_trans (h i r q (by omega) hr hq) (ih _ this q hq)
end Go.Proofs.Ytonfdmbcbfpgdaa
