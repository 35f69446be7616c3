/-
  The walk of 'Push'.
-/
import Derived.Test.YtonfdmbcbfpgdaaRiseM
import Derived.Deep.AppendLies
import Derived.Deep.RegionLaw
namespace Go.Proofs.Ytonfdmbcbfpgdaa
open Go.RowKit

theorem info_rowM : (Try.prog.info? 105).map (fun i => (i.zero, i.size, i.bytes)) = some (some (.agg #[.int .i64 0, .int .i64 0, .int .i64 0, .int .i64 0, .int .i64 0]), 5, 40) := by kernel_rfl

theorem HeapAtM.setLast {w : World} {hb mb : Nat} {v : Value} {f : FuncId} {rk : Int} {last : Int} {R : List (Int × Mk)} (h : HeapAtM w hb v mb f rk last R) (x : Int) :
    HeapAtM (w.setCell ⟨hb, 3, none⟩ (.int .i64 x)) hb v mb f rk x R ∧ w.grownBy (w.setCell ⟨hb, 3, none⟩ (.int .i64 x)) (some hb) := by
  obtain ⟨c1, c2⟩ := set_cells h.box 3 (.int .i64 x)
  obtain ⟨box, row, ⟨g, ht, hs⟩, fit⟩ := h
  obtain ⟨es, clock, hmap⟩ := ht.map
  refine ⟨⟨by rw [c1]; simp, ⟨row.1, ?_⟩, ⟨g, ht.block (c2.block mb ht.lt (fun e => ?_)), hs⟩, fit⟩, c2⟩
  · rcases row.2 with h0 | ⟨rb, cap, cur, rfl, hB, hg, rest⟩
    · exact .inl h0
    · refine .inr ⟨rb, cap, cur, rfl, hB, (c2.block rb (Array.getElem?_eq_some_iff.1 hg).1 (fun e => ?_)).trans hg, rest⟩
      have e := Option.some.inj e; subst e; rw [box] at hg; simp at hg
  · have e := Option.some.inj e; subst e; rw [hmap] at box; simp at box

/-- The rows have grown by one, and stand in v'. -/
theorem HeapAtM.grow {w w' : World} {hb mb : Nat} {v v' : Value} {f : FuncId} {rk : Int} {last : Int} {R : List (Int × Mk)} {r : Int × Mk} (h : HeapAtM w hb v mb f rk last R) (hr : w'.ownsRow 0 105 5 v' (R.length + 1) (flatM R ++ cellsM r)) (hg : w.grownBy w' v.ownBlock) :
    (w'.setCell ⟨hb, 1, none⟩ v').heap[hb]? = some (.cells #[.func (.func f) #[.int .i64 rk] #[], v', .map (some mb), .int .i64 last] 102 (0, 0)) ∧ (w'.setCell ⟨hb, 1, none⟩ v').ownsRow 0 105 5 v' (R ++ [r]).length (flatM (R ++ [r])) ∧
    (∃ g, Tab (w'.setCell ⟨hb, 1, none⟩ v') mb R.length g ∧ Sits g R) ∧ Kept (Mine hb v mb) w (w'.setCell ⟨hb, 1, none⟩ v') ∧ w'.cell? ⟨hb, 1, none⟩ = some v ∧ w'.frozen? ⟨hb, 1, none⟩ = false := by
  obtain ⟨box, row, ⟨g, ht, hs⟩, fit⟩ := h
  obtain ⟨es, clock, hmap⟩ := ht.map
  have hne : v.ownBlock ≠ some hb := by
    intro e
    rcases row.2 with ⟨rfl, _⟩ | ⟨rb, cap, cur, rfl, hB, hgg, rest⟩
    · cases e
    · cases e; rw [box] at hgg; simp at hgg
  have hnm : v.ownBlock ≠ some mb := by
    intro e
    rcases row.2 with ⟨rfl, _⟩ | ⟨rb, cap, cur, rfl, hB, hgg, rest⟩
    · cases e
    · cases e; rw [hmap] at hgg; simp at hgg
  have hmh : mb ≠ hb := fun e => by subst e; rw [hmap] at box; simp at box
  have box' : w'.heap[hb]? = some (.cells #[.func (.func f) #[.int .i64 rk] #[], v, .map (some mb), .int .i64 last] 102 (0, 0)) := (hg.block hb (Array.getElem?_eq_some_iff.1 box).1 (fun e => hne e.symm)).trans box
  have ht' : Tab w' mb R.length g := ht.block (hg.block mb ht.lt (fun e => hnm e.symm))
  obtain ⟨c1, c2⟩ := set_cells box' 1 v'
  refine ⟨by rw [c1]; simp, ?_, ⟨g, ht'.block (c2.block mb ht'.lt (fun e => hmh (Option.some.inj e))), hs⟩, (Kept.ofGrown hg (fun k e => .inr (.inl e))).trans (Kept.ofGrown c2 (fun k e => .inl (Option.some.inj e).symm)), by simp [World.cell?, box'], by simp [World.frozen?, box']⟩
  have hr2 : w'.ownsRow 0 105 5 v' (R ++ [r]).length (flatM (R ++ [r])) := by
    rw [flatM_append, List.length_append]
    simpa [flatM] using hr
  refine hr2.kept c2 (.inr ?_)
  intro e
  rcases hr2.2 with ⟨rfl, _⟩ | ⟨rb, cap, cur, rfl, hB, hgg, rest⟩
  · cases e
  · cases e; rw [box'] at hgg; simp at hgg

theorem Sits.snoc {α : Type} {g : Int → Option Int} {R : List (Int × α)} (h : Sits g R) {t : Int} (x : α) (ht : ∀ r ∈ R, r.1 ≠ t) : Sits (putAt g t R.length) (R ++ [(t, x)]) ∧ (g t).isSome = false := by
  refine ⟨⟨fun i r hi => ?_, fun u v hv => ?_⟩, ?_⟩
  · unfold putAt
    by_cases hl : i < R.length
    · rw [List.getElem?_append_left hl] at hi
      rw [if_neg (ht r (List.mem_of_getElem? hi))]
      exact h.1 i r hi
    · rw [List.getElem?_append_right (by omega)] at hi
      have h0 : i - R.length = 0 := by have := (List.getElem?_eq_some_iff.1 hi).1; simp at this; omega
      rw [h0] at hi
      simp at hi
      subst hi
      rw [if_pos rfl, show i = R.length by omega]
  · unfold putAt at hv
    by_cases hu : u = t
    · rw [if_pos hu] at hv; cases hv
      exact ⟨R.length, (t, x), rfl, by simp, hu.symm⟩
    · rw [if_neg hu] at hv
      obtain ⟨i, r, rfl, hi, hr⟩ := h.2 u v hv
      exact ⟨i, r, rfl, by rw [List.getElem?_append_left (List.getElem?_eq_some_iff.1 hi).1]; exact hi, hr⟩
  · cases hg : g t with
    | none => rfl
    | some v =>
      obtain ⟨i, r, rfl, hi, hr⟩ := h.2 t v hg
      exact absurd hr (ht r (List.mem_of_getElem? hi))

theorem step_pushM {ops : Array Oper} {o : Oper} {a : Act} {K : Act → World → Prop} {Q : Exit → Act → World → Prop} {E : Prop} (hgd : o.guard = none) (s x : Operand)
    (ho : o.op = .call { callee := .builtin .append, args := #[s, x], argTypes := #[99, 99] })
    (w : World) (v : Value) (R : List (Int × Mk)) (r : Int × Mk) (hown : w.ownsRow 0 105 5 v R.length (flatM R)) (hR : R.length ≤ 1073741823) (hs : a.eval s = v) (hx : a.eval x = .slice (some ⟨w.heap.size, 0, none⟩) 1 1)
    (h : ∀ g cap w', w'.ownsRow 0 105 5 (.slice (some ⟨g, 0, none⟩) (R.length + 1) cap) (R.length + 1) (flatM R ++ cellsM r) → w.grownBy w' v.ownBlock → (v.ownBlock = some g ∨ w.heap.size ≤ g) → K (a.put o.dst (.slice (some ⟨g, 0, none⟩) (R.length + 1) cap)) w') :
    if Region.wanted o (yielded ops a.tmps) = true then Oper.wp Try.prog o a ((w.alloc (.cells (cellsM r).toArray 105)).drew) K Q else E := by
  obtain ⟨i0, hi, hz0, hz1, hz2⟩ := info_parts info_rowM
  refine step_append_lies ((w.alloc (.cells (cellsM r).toArray 105)).drew) hgd s x 99 ho 0 105 i0 (.agg #[.int .i64 0, .int .i64 0, .int .i64 0, .int .i64 0, .int .i64 0]) 5 40 Try.underlying99 hi hz0 hz1 hz2 rfl (by decide) v R.length (flatM R) hs (hown.alloc _) ⟨w.heap.size, 0, none⟩ 1 1 (cellsM r) hx rfl ?_ ?_ (by decide) (by unfold maxLen; omega) (by omega) (Nat.zero_le _) _ rfl ?_
  · exact World.news_of_block (w := (w.alloc (.cells (cellsM r).toArray 105)).drew) (cs := (cellsM r).toArray) (heap_alloc_new w _)
  · intro u hu
    simp [cellsM] at hu
    rcases hu with rfl | rfl | rfl | rfl | rfl <;> rfl
  · intro g cap w' h1 h2 h3 _
    refine h g cap w' h1 ⟨h2.os, h2.tape, h2.output, Nat.le_trans (by simp [World.drew]) h2.size, fun k hk hne => (h2.block k (Nat.lt_of_lt_of_le hk (by simp [World.drew])) hne).trans (heap_alloc_old w _ hk)⟩ (h3.imp id (fun e => by rw [e]; simp [World.drew]))

set_option maxHeartbeats 4000000 in
set_option maxRecDepth 1000000 in
theorem pushM {f : FuncId} {rk : Int} {lt : Mk → Mk → Bool} {ok : Mk → Prop} {Fr : Nat → Prop} {St : Nat → World → Prop} (A : AskerM f rk lt ok Fr St)
    (w : World) (hb mb : Nat) (v : Value) (last : Int) (R : List (Int × Mk)) (x : Mk) (n : Nat) (h : HeapAtM w hb v mb f rk last R) (hst : St n w) (hok : ∀ r ∈ R, ok r.2) (hx : ok x) (hfr : ∀ k, Mine hb v mb k → ¬ Fr k) (hR : R.length ≤ 1073741823)
    (hl0 : 0 ≤ last) (hl1 : last ≤ 4611686018427387904) (hlr : ∀ r ∈ R, r.1 ≤ last) :
    Calls Try.prog 48 #[.pointer (some ⟨hb, 0, none⟩), valM x] w fun e w' => e = .returned (.int .i64 (last + 1)) ∧
      ∃ v', HeapAtM w' hb v' mb f rk (last + 1) (riseL lt R.length (R ++ [(last + 1, x)]) R.length n).1 ∧ St (riseL lt R.length (R ++ [(last + 1, x)]) R.length n).2.2 w' ∧ Kept (fun k => Mine hb v mb k ∨ Fr k) w w' ∧
        ∀ k, Mine hb v' mb k → Mine hb v mb k ∨ w.heap.size ≤ k := by
  have k3 : w.cell? ⟨hb, 3, none⟩ = some (.int .i64 last) := by simp [World.cell?, h.box]
  have f3 : w.frozen? ⟨hb, 3, none⟩ = false := by simp [World.frozen?, h.box]
  have hltw : hb < w.heap.size := cell_lt k3
  obtain ⟨av, cv, hav⟩ : ∃ a c, v = .slice a R.length c := by
    rcases h.row.2 with ⟨rfl, h0⟩ | ⟨rb, cap, cur, rfl, _⟩
    · exact ⟨none, 0, by rw [h0]⟩
    · exact ⟨_, _, rfl⟩
  subst hav
  have k1 : w.cell? ⟨hb, 1, none⟩ = some (.slice av R.length cv) := by simp [World.cell?, h.box]
  obtain ⟨w0, hw0⟩ : ∃ w0, w0 = w.alloc (.cells #[.int .i64 x.id, .int .i64 x.pri, .int .i64 x.due, .int .i64 x.ord] 76) := ⟨_, rfl⟩
  have hB0 : Below w.heap.size w w0 := by rw [hw0]; exact (Below.refl _ w).alloc (Nat.le_refl _) _
  replace h : HeapAtM w0 hb (.slice av R.length cv) mb f rk last R := h.kept (Kept.ofBelow (P := fun _ => False) hB0) (fun _ _ h => h)
  replace hst : St n w0 := A.keep n w w0 hst hB0.size (fun k hk _ => hB0.block k hk)
  obtain ⟨h1, hg1⟩ := h.setLast (last + 1)
  have HA : Hid (AskerM f rk lt ok Fr St) := A
  obtain ⟨w1, hw1⟩ : ∃ w1, w1 = w0.setCell ⟨hb, 3, none⟩ (.int .i64 (last + 1)) := ⟨_, rfl⟩
  rw [← hw1] at h1 hg1
  have hlt1 : hb < w1.heap.size := (Array.getElem?_eq_some_iff.1 h1.box).1
  have j1 : w1.cell? ⟨hb, 1, none⟩ = some (.slice av R.length cv) := by simp [World.cell?, h1.box]
  have j3 : w1.cell? ⟨hb, 3, none⟩ = some (.int .i64 (last + 1)) := by simp [World.cell?, h1.box]
  have H0 : Hid (HeapAtM w0 hb (.slice av R.length cv) mb f rk last R) := h
  have H1 : Hid (HeapAtM w1 hb (.slice av R.length cv) mb f rk (last + 1) R) := h1
  have G1 : Hid (w0.grownBy w1 (some hb)) := hg1
  have HS : Hid (St n w0) := hst
  have HO : Hid ((∀ r ∈ R, ok r.2) ∧ ok x ∧ ∀ r ∈ R, r.1 ≤ last) := ⟨hok, hx, hlr⟩
  have HF : Hid (∀ k, Mine hb (.slice av R.length cv) mb k → ¬ Fr k) := hfr
  have HRO : Hid (w1.ownsRow 0 105 5 (.slice av R.length cv) R.length (flatM R)) := h1.row
  have xb : w1.heap[w.heap.size]? = some (.cells #[.int .i64 x.id, .int .i64 x.pri, .int .i64 x.due, .int .i64 x.ord] 76 (0, 0)) := (hg1.block w.heap.size (by rw [hw0]; simp) (fun e => by have := Option.some.inj e; omega)).trans (by rw [hw0]; exact heap_alloc_new w _)
  have xb0 : w1.cell? ⟨w.heap.size, 0, none⟩ = some (.int .i64 x.id) := by simp [World.cell?, xb]
  have xb1 : w1.cell? ⟨w.heap.size, 1, none⟩ = some (.int .i64 x.pri) := by simp [World.cell?, xb]
  have xb2 : w1.cell? ⟨w.heap.size, 2, none⟩ = some (.int .i64 x.due) := by simp [World.cell?, xb]
  have xb3 : w1.cell? ⟨w.heap.size, 3, none⟩ = some (.int .i64 x.ord) := by simp [World.cell?, xb]
  clear xb
  rw [hw0, World.setCell_alloc_past _ _ _ _ hltw] at hw1
  have HB0 : Hid (Below w.heap.size w w0) := hB0
  clear h h1 hg1 A hst hok hx hlr hfr hB0 hw0
  unfold valM
  go_enter Try.func48, Try.ntmps48
  go_wp2_with fail
  rw [← hw1]
  clear hw1 k3 f3 k1
  go_region_law (refine step_pushM rfl (.tmp 22) (.tmp 29) rfl w1 (.slice av R.length cv) R (last + 1, x) HRO.out hR (by simp [Act.eval]) (by simp [Act.eval]) ?_; intro g cap w2 hown hgrow hat; obtain ⟨hbx, hro, htb, hkp, c1, c2⟩ := H1.out.grow hown hgrow)
  all_goals (
    obtain ⟨w3, hw3⟩ : ∃ w3, w3 = w2.setCell ⟨hb, 1, none⟩ (.slice (some ⟨g, 0, none⟩) (R.length + 1) cap) := ⟨_, rfl⟩
    rw [← hw3] at hbx hro htb hkp ⊢
    have d2 : w3.cell? ⟨hb, 2, none⟩ = some (.map (some mb)) := by simp [World.cell?, hbx]
    have d3 : w3.cell? ⟨hb, 3, none⟩ = some (.int .i64 (last + 1)) := by simp [World.cell?, hbx]
    have BX : Hid (w3.heap[hb]? = some (.cells #[.func (.func f) #[.int .i64 rk] #[], .slice (some ⟨g, 0, none⟩) (R.length + 1) cap, .map (some mb), .int .i64 (last + 1)] 102 (0, 0))) := hbx
    have RO : Hid (w3.ownsRow 0 105 5 (.slice (some ⟨g, 0, none⟩) (R.length + 1) cap) (R ++ [(last + 1, x)]).length (flatM (R ++ [(last + 1, x)]))) := hro
    have KP : Hid (Kept (Mine hb (.slice av R.length cv) mb) w1 w3) := hkp
    have AT : Hid (Value.ownBlock (.slice av R.length cv) = some g ∨ w1.heap.size ≤ g) := hat
    obtain ⟨gg, ht, hsits⟩ := htb
    have HT : Hid (Tab w3 mb R.length gg) := ht
    have SI : Hid (Sits (putAt gg (last + 1) R.length) (R ++ [(last + 1, x)]) ∧ (gg (last + 1)).isSome = false) := hsits.snoc x (fun r hr e => by have := HO.out.2.2 r hr; omega)
    have hwt : (Lit.int .i64 (last + 1)).wf = true := WalkArith.wf_i64 (by omega)
    have hwl : (Lit.int .i64 (R.length : Int)).wf = true := WalkArith.wf_i64 (by omega)
    have hnm : R.length < maxLen := by unfold maxLen; omega
    clear hw3 hbx hro hkp hat ht hsits c1 c2 hown hgrow j1 j3 xb0 xb1 xb2 xb3
    go_wp2_with fail
    refine wp_tail 9 mixed (by kernel_rfl) ?_
    simp only [List.take_succ_cons, List.take_zero, List.drop_succ_cons, List.drop_zero]
    repeat still_step
    refine wpStill_nil ?_
    refine wpList_put rfl (.tmp 36) (.tmp 40) (.tmp 41) rfl mb R.length gg _ _ rfl rfl rfl HT.out hnm hwt hwl ?_
    intro w4 ht4 hg4
    rw [SI.out.2] at ht4
    have G4 : Hid (w3.grownBy w4 (some mb)) := grown_of_drew hg4
    obtain ⟨es, clock, hmap⟩ := HT.out.map
    have hmh : hb ≠ mb := fun e => by have := BX.out; rw [e, hmap] at this; simp at this
    have hmr : g ≠ mb := fun e => by
      rcases RO.out.2 with ⟨h, _⟩ | ⟨rb, cap, cur, h, hB, hgg, rest⟩
      · cases h
      · simp only [Value.slice.injEq, Option.some.injEq, Addr.mk.injEq] at h; rw [← h.1.1, e, hmap] at hgg; simp at hgg
    have H4 : Hid (HeapAtM w4 hb (.slice (some ⟨g, 0, none⟩) (R.length + 1) cap) mb f rk (last + 1) (R ++ [(last + 1, x)])) :=
      ⟨(G4.out.block hb (Array.getElem?_eq_some_iff.1 BX.out).1 (fun e => hmh (Option.some.inj e))).trans BX.out, RO.out.kept G4.out (.inr (fun e => hmr (Option.some.inj e))), ⟨_, by simpa using ht4, SI.out.1⟩,
        fun r hr => by
          rcases List.mem_append.1 hr with hr | hr
          · exact H0.out.fit r hr
          · simp at hr; subst hr; exact hwt⟩
    have K4 : Hid (Kept (Mine hb (.slice av R.length cv) mb) w0 w4) := ((Kept.ofGrown G1.out (fun k e => .inl (Option.some.inj e).symm)).trans KP.out).trans (Kept.ofGrown G4.out (fun k e => .inr (.inr (Option.some.inj e).symm)))
    have hsz := G1.out.size
    have NF : Hid (∀ k, Mine hb (.slice (some ⟨g, 0, none⟩) (R.length + 1) cap) mb k → Mine hb (.slice av R.length cv) mb k ∨ w0.heap.size ≤ k) := fun k hk => by
      rcases hk with rfl | hk | rfl
      · exact .inl (.inl rfl)
      · have e : g = k := Option.some.inj hk
        subst e
        rcases AT.out with h | h
        · exact .inl (.inr (.inl h))
        · exact .inr (by omega)
      · exact .inl (.inr (.inr rfl))
    clear hmap hmh hmr ht4 hg4
    go_wp2_with fail
    refine (riseM HA.out w4 hb mb _ (last + 1) (R ++ [(last + 1, x)]) R.length n H4.out (by simp) (HA.out.keep n w0 w4 HS.out K4.out.size (fun k hk hF => K4.out.block k hk (fun hM => HF.out k hM hF))) (fun r hr => by
      rcases List.mem_append.1 hr with hr | hr
      · exact HO.out.1 r hr
      · simp at hr; subst hr; exact HO.out.2.1) (fun k hk hF => by
      rcases NF.out k hk with h | h
      · exact HF.out k h hF
      · have := HA.out.old n w0 k HS.out hF; omega) (by simp; omega)).mono ?_
    rintro e w5 ⟨rfl, h5, s5, kk5⟩
    have e3 : w5.cell? ⟨hb, 3, none⟩ = some (.int .i64 (last + 1)) := by simp [World.cell?, h5.box]
    have H5 : Hid (HeapAtM w5 hb (.slice (some ⟨g, 0, none⟩) (R.length + 1) cap) mb f rk (last + 1) (riseL lt R.length (R ++ [(last + 1, x)]) R.length n).1 ∧ St (riseL lt R.length (R ++ [(last + 1, x)]) R.length n).2.2 w5) := ⟨h5, s5⟩
    have K5 : Hid (Kept (fun k => Mine hb (.slice av R.length cv) mb k ∨ Fr k) w0 w5) := (K4.out.mono (fun _ _ h => .inl h)).step kk5 (fun k hk h => by
      rcases h with h | h
      · rcases NF.out k h with h | h
        · exact .inl h
        · omega
      · exact .inr h)
    clear h5 s5 kk5 d2 d3
    go_wp2_with fail
    go_ret
    exact ⟨rfl, _, H5.out.1, H5.out.2, (Kept.ofBelow HB0.out).trans K5.out, fun k hk => (NF.out k hk).imp id (fun h => Nat.le_trans HB0.out.size h)⟩)
end Go.Proofs.Ytonfdmbcbfpgdaa
