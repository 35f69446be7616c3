/-
  The walk of the method keep.
-/
import Derived.Test.YthapbnlcodkalaaDoorBHeld
import Derived.Test.YthapbnlcodkalaaDoorBHolds
import Derived.Deep.Cut
namespace Go.Proofs.YthapbnlcodkalaaDoor
open Go.RowKit

variable {fv : Value}

theorem hideB {p : Prop} (h : p) : Hid p := h
theorem Own.lit0 (w : World) (B : Nat) (hB : B ≤ w.heap.size) : Own (w.alloc (.cells #[] 5)) B (.slice (some ⟨w.heap.size, 0, none⟩) 0 0) [] :=
  ⟨rfl, .inr ⟨w.heap.size, 0, #[], rfl, hB, heap_alloc_last _ _, Nat.le_refl _, by unfold maxLen; omega, rfl, rfl⟩⟩
theorem info_bytes : (Tryd.prog.info? 24).map (fun i => (i.zero, i.size, i.bytes)) = some (some (.slice none 0 0), 1, 24) := by kernel_rfl

theorem one_new (w : World) (v : Value) (t : TypeId) : ∃ p, (some (⟨w.heap.size, 0, none⟩ : Addr)) = some p ∧ ∀ j u, [v][j]? = some u → (w.alloc (.cells #[v] t)).cell? (p.add j) = some u := by
  refine ⟨_, rfl, fun j u hj => ?_⟩
  match j, hj with
  | 0, hj => simpa [Addr.add] using hj
  | (j + 1), hj => simp at hj

/-- 'append' of one slice onto a list of the call's own. -/
theorem wpList_push {w : World} {ops : Array Oper} {rest : List Oper} {o : Oper} {a : Act} {Q : Exit → Act → World → Prop} (hgd : o.guard = none) (s x : Operand)
    (ho : o.op = .call { callee := .builtin .append, args := #[s, x], argTypes := #[29, 29] })
    (B : Nat) (v : Value) (os : List Value) (hs : a.eval s = v) (hown : w.ownsRow B 24 1 v os.length os) (u : Value) (k : Nat) (hk : k = w.heap.size) (hx : a.eval x = .slice (some ⟨k, 0, none⟩) 1 1) (hu : u.oneCell' = true)
    (hb : os.length ≤ 1073741824) (hbase : B ≤ w.heap.size)
    (h : ∀ v' w', w'.ownsRow B 24 1 v' (os.length + 1) (os ++ [u]) → (w.alloc (.cells #[u] 24)).grownBy w' v.ownBlock → (v'.ownBlock = v.ownBlock ∨ v'.ownBlock = some (w.heap.size + 1)) →
      wpList Tryd.prog ops Q rest (a.put o.dst v') w') : wpList Tryd.prog ops Q (o :: rest) a (w.alloc (.cells #[u] 24)) := by
  subst hk
  obtain ⟨i, hi, hz0, hz1, hz2⟩ := info_parts info_bytes
  refine wpList_append_keeps hgd s x 29 ho B 24 i (.slice none 0 0) Tryd.underlying29 hi hz0 hz1 rfl v os.length os hs (hown.alloc _) (some ⟨w.heap.size, 0, none⟩) 1 1 [u] hx rfl (.inr (one_new w u _)) (by intro y hy; simp at hy; subst hy; exact hu) (by unfold maxLen; omega) (by rw [hz2]; omega) (by simp; omega) ?_
  intro v' w' h1 h2 _ h4 _
  exact h v' w' h1 h2 (by simpa using h4)

theorem one_of_ownB {w : World} {B : Nat} {v : Value} {l : List UInt8} (h : Own w B v l) : v.oneCell' = true := by
  obtain ⟨a, c, rfl, _⟩ := h.shape
  rfl

set_option maxHeartbeats 2000000 in
set_option maxRecDepth 1000000 in
theorem keep_any (w : World) (B : Nat) (lab : Nat → Tag) (Hb n : Nat) (es : List Ent) (a : Option Addr) (c : Nat) (l : List UInt8) (hh : Held fv w B lab Hb n es) (hB : B ≤ w.heap.size)
    (a' : Option Addr) (c' : Nat) (hw : ∀ W, Kept (Lists lab) w W → IsBytes W a' c' l) (hv : Own w B (.slice a l.length c) l) (ht : Tagged lab (.slice a l.length c) (.out es.length)) (hl : l.length ≤ 140737488355328) (he : es.length ≤ 1073741824) :
    Calls Tryd.prog 9 #[.pointer (some ⟨Hb, 0, none⟩), .slice a l.length c, .slice a' l.length c'] w fun e w' => e = .returned (.bool true) ∧
      ∃ lab' cw, Held fv w' B lab' Hb n (es ++ [⟨.slice a l.length c, cw, l⟩]) ∧ (∀ k, k < w.heap.size → lab' k = lab k) ∧ Kept (Lists lab) w w' := by
  have HH : Hid (Held fv w B lab Hb n es) := hh
  have HV : Hid (Own w B (.slice a l.length c) l) := hv
  have HT : Hid (Tagged lab (.slice a l.length c) (.out es.length)) := ht
  have IS : Hid (∀ W, Kept (Lists lab) w W → IsBytes W a' c' l) := hw
  clear hh hv ht hw
  go_enter Tryd.func9, Tryd.ntmps9
  go_upto_region 3 with (at_builtin; refine wpList_append8 rfl (.tmp 9) (.tmp 10) rfl w.heap.size (.slice (some ⟨w.heap.size, 0, none⟩) 0 0) [] (by rfl) (Own.lit0 w _ (Nat.le_refl _)) a' c' l (by rfl) (IS.out _ (Kept.ofBelow ((Below.refl _ w).alloc (Nat.le_refl _) _))) (by simpa using hl) (by simp) ?_; intro v1 w1 o1 g1 p1 l1 n1; have H1 := hideB (And.intro o1 g1); clear o1 g1 p1 l1 n1)
  have ownc : Own w1 w.heap.size v1 l := by have := H1.out.1; rwa [List.nil_append] at this
  have B1 : Below w.heap.size w w1 := ((Below.refl _ w).alloc (Nat.le_refl _) _).grown H1.out.2 (by simp) (fun g hg => by cases hg; exact Nat.le_refl _)
  clear H1
  obtain ⟨ac, cc, rfl, _⟩ := ownc.shape
  obtain ⟨lab1, hlab1⟩ : ∃ lab1 : Nat → Tag, lab1 = fun k => if k < w.heap.size then lab k else .want es.length := ⟨_, rfl⟩
  have hl1 : ∀ k, k < w.heap.size → lab1 k = lab k := fun k hk => by rw [hlab1]; simp [hk]
  have tc : Tagged lab1 (.slice ac l.length cc) (.want es.length) := fun g hg => by have := (ownc.lt g hg).1; rw [hlab1]; simp only []; rw [if_neg (by omega)]
  have tv : Tagged lab1 (.slice a l.length c) (.out es.length) := HT.out.congr HV.out hl1
  have hz1 := B1.size
  obtain ⟨vo, vw, hr, hes⟩ := (HH.out.relabel hl1).below B1
  obtain ⟨ao, co, rfl, _⟩ := row_shape hr.2.2.2.1.1
  obtain ⟨aw, cv, rfl, _⟩ := row_shape hr.2.2.2.2.1
  rw [List.length_map, List.length_map] at hr
  have k0 := hr.cell0
  have f0 := hr.frozen 0
  have hHb := hr.lt
  have HR : Hid (HRows fv w1 B lab1 Hb (.slice ao es.length co) (.slice aw es.length cv) (es.map (·.out)) (es.map (·.want))) := hr
  have HES : Hid (Ents w1 B lab1 n es) := hes
  have OV : Hid (Own w1 B (.slice a l.length c) l) := HV.out.below B1
  have OC : Hid (Own w1 B (.slice ac l.length cc) l) := (ownc.mono hB)
  have K1 : Hid (Kept (Lists lab) w w1) := Kept.ofBelow B1
  have TC : Hid (Tagged lab1 (.slice ac l.length cc) (.want es.length)) := tc
  have TV : Hid (Tagged lab1 (.slice a l.length c) (.out es.length)) := tv
  have HL1 : Hid (∀ k, k < w.heap.size → lab1 k = lab k) := hl1
  clear hr hes ownc B1 tc tv hl1 hlab1
  have hBw : B ≤ w1.heap.size := by omega
  have hlo : (es.map (·.out)).length ≤ 1073741824 := by simpa using he
  have hlw : (es.map (·.want)).length ≤ 1073741824 := by simpa using he
  go_upto_region 5 with (first
             | (refine wpList_push rfl (.tmp 16) (.tmp 18) rfl B (.slice ao es.length co) (es.map (·.out)) rfl HR.out.2.2.2.1.1 (.slice a l.length c) _ rfl rfl rfl hlo hBw ?_
                intro vo' w2 ho hgr hvb
                obtain ⟨ao', co', hvo', _⟩ := row_shape ho
                rw [List.length_map] at hvo'
                subst hvo'
                obtain ⟨c20, _, f20, _⟩ := box_cell ((HR.out.alloc (.cells #[.slice a l.length c] 24)).boxOut hgr)
                have hp := (HR.out.alloc (.cells #[.slice a l.length c] 24)).pushOut ho hgr (by simpa using hvb)
                have HR3 : Hid (HRows fv (w2.setCell ⟨Hb, 0, none⟩ (.slice ao' (es.length + 1) co')) B (fun k => if k = (w1.alloc (.cells #[.slice a l.length c] 24)).heap.size then .outs else lab1 k) Hb (.slice ao' (es.length + 1) co') (.slice aw es.length cv) (es.map (·.out) ++ [.slice a l.length c]) (es.map (·.want))) := hp.1
                have K3 : Hid (Kept (Lists lab1) (w1.alloc (.cells #[.slice a l.length c] 24)) (w2.setCell ⟨Hb, 0, none⟩ (.slice ao' (es.length + 1) co'))) := hp.2
                obtain ⟨_, c21, _, _⟩ := box_cell HR3.out.1
                have hz2 := hgr.size
                clear hp ho hgr hvb)
             | (refine wpList_push rfl (.tmp 26) (.tmp 28) rfl B (.slice aw es.length cv) (es.map (·.want)) rfl HR3.out.2.2.2.2.1 (.slice ac l.length cc) _ (by simp) rfl rfl hlw (by simp at hz2 ⊢; omega) ?_
                intro vw' w4 ho hgr hvb
                obtain ⟨aw', cv', hvw', _⟩ := row_shape ho
                rw [List.length_map] at hvw'
                subst hvw'
                obtain ⟨_, c41, _, f41⟩ := box_cell ((HR3.out.alloc (.cells #[.slice ac l.length cc] 24)).boxWant hgr)))
  obtain ⟨hr5, k5⟩ := (HR3.out.alloc (.cells #[.slice ac l.length cc] 24)).pushWant ho hgr (by simpa using hvb)
  have hal1 : Below w1.heap.size w1 (w1.alloc (.cells #[.slice a l.length c] 24)) := (Below.refl _ w1).alloc (Nat.le_refl _) _
  have chain : ∀ j e, EntAt w1 B lab1 n j e → EntAt (w4.setCell ⟨Hb, 1, none⟩ (.slice aw' (es.length + 1) cv')) B _ n j e := fun j e h => (((h.below hal1).push K3.out .outs (.inl rfl)).below ((Below.refl _ _).alloc (Nat.le_refl _) (.cells #[.slice ac l.length cc] 24))).push k5 .wants (.inr rfl)
  have FIN : Hid (∃ lab' cw, Held fv (w4.setCell ⟨Hb, 1, none⟩ (.slice aw' (es.length + 1) cv')) B lab' Hb n (es ++ [⟨.slice a l.length c, cw, l⟩]) ∧ (∀ k, k < w.heap.size → lab' k = lab k) ∧ Kept (Lists lab) w (w4.setCell ⟨Hb, 1, none⟩ (.slice aw' (es.length + 1) cv'))) := by
    refine ⟨_, .slice ac l.length cc, ⟨_, _, by rw [List.map_append, List.map_append]; exact hr5, ?_⟩, ?_, ?_⟩
    · intro j e hj
      refine chain j e ?_
      by_cases hjl : j < es.length
      · rw [List.getElem?_append_left hjl] at hj
        exact HES.out j e hj
      · rw [List.getElem?_append_right (by omega)] at hj
        have hj0 : j - es.length = 0 := by have := (List.getElem?_eq_some_iff.1 hj).1; simp at this; omega
        obtain rfl : j = es.length := by omega
        rw [hj0] at hj
        simp only [List.getElem?_cons_zero, Option.some.injEq] at hj
        subst hj
        exact ⟨⟨OV.out, fun g hg => .inl (TV.out g hg)⟩, ⟨OC.out, TC.out⟩⟩
    · intro k hk
      simp at hz2 ⊢
      rw [if_neg (by omega), if_neg (by omega)]
      exact HL1.out k hk
    · refine (((K1.out.trans (Kept.ofBelow hal1)).step K3.out ?_).trans (Kept.ofBelow ((Below.refl _ _).alloc (Nat.le_refl _) (.cells #[.slice ac l.length cc] 24)))).step k5 ?_
      · intro k hk h
        unfold Lists at h ⊢
        rwa [HL1.out k hk] at h
      · intro k hk h
        unfold Lists at h ⊢
        simp only [World.size_alloc] at h
        rw [if_neg (by omega), HL1.out k hk] at h
        exact h
  obtain ⟨w5, hw5⟩ : ∃ w5, w5 = w4.setCell ⟨Hb, 1, none⟩ (.slice aw' (es.length + 1) cv') := ⟨_, rfl⟩
  rw [← hw5] at FIN ⊢
  clear hw5 hr5 k5 chain hal1
  obtain ⟨T, hT⟩ : ∃ T : ByteArray, T = ⟨l.toArray⟩ := ⟨_, rfl⟩
  have V1 : (convert 24 9 (.slice a l.length c)).run Tryd.prog w5 = .ok (.string T) w5 := by
    rw [hT]
    obtain ⟨lab', cw, ⟨vo', vw', _, he'⟩, _, _⟩ := FIN.out
    have := (he' es.length ⟨.slice a l.length c, cw, l⟩ (by rw [List.getElem?_append_right (Nat.le_refl _)]; simp)).1.1
    obtain ⟨a1, c1, e1, i1⟩ := this.shape
    simp only [Value.slice.injEq] at e1
    obtain ⟨rfl, _, rfl⟩ := e1
    exact conv_is i1 rfl
  have V2 : (convert 24 9 (.slice a' l.length c')).run Tryd.prog w5 = .ok (.string T) w5 := by
    rw [hT]
    obtain ⟨lab', cw, _, _, hk'⟩ := FIN.out
    exact conv_is (IS.out _ hk') rfl
  clear hT
  go_wp2_with fail
  go_ret
  exact ⟨rfl, FIN.out⟩
end Go.Proofs.YthapbnlcodkalaaDoor
