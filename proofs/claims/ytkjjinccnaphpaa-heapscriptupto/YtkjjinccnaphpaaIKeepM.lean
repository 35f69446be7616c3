/-
  IKeep0, IKeep.
-/
import Derived.Test.YtkjjinccnaphpaaIHeldM
import Derived.Test.YtkjjinccnaphpaaIHolds
import Derived.Deep.Cut
import Derived.Deep.RegionLaw
namespace Go.Proofs.Ytkjjinccnaphpaa
open Go.RowKit Go.Lib

theorem Held.pushed2 {w w2 W3 w4 : World} {B : Nat} {lab : Nat → Tag} {Hb : Nat} {ok : Nat → Nat → Prop} {es : List Ent} {vo vw vo' vw' eo cw : Value} {fr : Fx} {l : List Int} (hr : HRows w B lab Hb vo vw fr (es.map (·.out)) (es.map (·.want))) (hes : Ents w B lab ok es) (hB : B ≤ w.heap.size) (hv : OwnI w B eo l) (ht : Tagged lab eo (.out es.length)) (hok : ok es.length es.length) (o1 o2 : Obj)
    (ho1 : w2.ownsRow B 63 1 vo' ((es.map (·.out)).length + 1) (es.map (·.out) ++ [eo])) (hg1 : (w.alloc o1).grownBy w2 vo.ownBlock) (hv1 : vo'.ownBlock = vo.ownBlock ∨ vo'.ownBlock = some (w.alloc o1).heap.size)
    (hb3 : Below (w2.setCell ⟨Hb, 2, none⟩ vo').heap.size (w2.setCell ⟨Hb, 2, none⟩ vo') W3) (hc : OwnI W3 (w2.setCell ⟨Hb, 2, none⟩ vo').heap.size cw l)
    (ho2 : w4.ownsRow B 63 1 vw' ((es.map (·.want)).length + 1) (es.map (·.want) ++ [cw])) (hg2 : (W3.alloc o2).grownBy w4 vw.ownBlock) (hv2 : vw'.ownBlock = vw.ownBlock ∨ vw'.ownBlock = some (W3.alloc o2).heap.size) :
    ∃ lab', Held (w4.setCell ⟨Hb, 3, none⟩ vw') B lab' Hb fr ok (es ++ [⟨eo, cw, l⟩]) ∧ (∀ k, k < w.heap.size → lab' k = lab k) ∧ Kept (Lists lab) w (w4.setCell ⟨Hb, 3, none⟩ vw') := by
  have hal1 : Below w.heap.size w (w.alloc o1) := (Below.refl _ w).alloc (Nat.le_refl _) _
  obtain ⟨hr3, k3⟩ := (hr.alloc o1).pushOut ho1 hg1 hv1
  obtain ⟨V3, hV3⟩ : ∃ V3, V3 = w2.setCell ⟨Hb, 2, none⟩ vo' := ⟨_, rfl⟩
  rw [← hV3] at hr3 k3 hb3 hc
  have hz1 : w.heap.size + 1 ≤ V3.heap.size := by have := k3.size; simpa using this
  have nL : ∀ g, lab g = .out es.length → ¬ Lists lab g := fun g e hL => by unfold Lists at hL; rw [e] at hL; simp at hL
  have e3 : ∀ j f, EntAt w B lab ok j f → EntAt V3 B _ ok j f := fun j f h => (h.below hal1).push k3 .outs (.inl rfl)
  have kw : Kept (Lists lab) w V3 := (Kept.ofBelow hal1).trans k3
  have ov : OwnI V3 B eo l := kw.ownI hv (fun g hg => nL g (ht g hg))
  obtain ⟨lab1, hl1⟩ : ∃ lab1 : Nat → Tag, lab1 = fun k => if k = (w.alloc o1).heap.size then .outs else lab k := ⟨_, rfl⟩
  rw [← hl1] at hr3
  have l1 : ∀ k, k < w.heap.size → lab1 k = lab k := fun k hk => by rw [hl1]; simp; omega
  obtain ⟨lab2, hl2⟩ : ∃ lab2 : Nat → Tag, lab2 = fun k => if k < V3.heap.size then lab1 k else .want es.length := ⟨_, rfl⟩
  have l2 : ∀ k, k < V3.heap.size → lab2 k = lab1 k := fun k hk => by rw [hl2]; simp [hk]
  have l2' : ∀ k, V3.heap.size ≤ k → lab2 k = .want es.length := fun k hk => by rw [hl2]; simp only []; rw [if_neg (by omega)]
  obtain ⟨hr5, k5⟩ := (((hr3.relabel l2).below hb3).alloc o2).pushWant ho2 hg2 hv2
  have hal2 : Below W3.heap.size W3 (W3.alloc o2) := (Below.refl _ W3).alloc (Nat.le_refl _) _
  have chain : ∀ j f, EntAt W3 B lab2 ok j f → EntAt (w4.setCell ⟨Hb, 3, none⟩ vw') B _ ok j f := fun j f h => (h.below hal2).push k5 .wants (.inr rfl)
  have hz3 := hb3.size
  refine ⟨_, ⟨_, _, by rw [List.map_append, List.map_append]; exact hr5, ?_⟩, ?_, ?_⟩
  · intro j f hj
    refine chain j f ?_
    by_cases hjl : j < es.length
    · rw [List.getElem?_append_left hjl] at hj
      have := e3 j f (hes j f hj)
      rw [← hl1] at this
      exact (this.relabel l2).below hb3
    · rw [List.getElem?_append_right (by omega)] at hj
      have hj0 : j - es.length = 0 := by have := (List.getElem?_eq_some_iff.1 hj).1; simp at this; omega
      obtain rfl : j = es.length := by omega
      rw [hj0] at hj
      simp only [List.getElem?_cons_zero, Option.some.injEq] at hj
      subst hj
      refine ⟨⟨ov.below hb3, fun g hg => ⟨es.length, ?_, hok⟩⟩, hc.mono (by omega), fun g hg => l2' g (hc.lt g hg).1⟩
      have hgl : g < w.heap.size := (hv.lt g hg).2
      rw [l2 g (by omega), l1 g hgl]
      exact ht g hg
  · intro k hk
    simp only [World.size_alloc]
    rw [if_neg (by omega), l2 k (by omega), l1 k hk]
  · refine (kw.trans (Kept.ofBelow (hb3.trans (hal2.mono hz3)))).step k5 ?_
    intro k hk h
    unfold Lists at h ⊢
    rw [l2 k (by omega), l1 k hk] at h
    exact h
end Go.Proofs.Ytkjjinccnaphpaa

namespace Go.Proofs.Ytkjjinccnaphpaa
open Go.RowKit Go.Lib

theorem one_new (w : World) (v : Value) (t : TypeId) : ∃ p, (some (⟨w.heap.size, 0, none⟩ : Addr)) = some p ∧ ∀ j u, [v][j]? = some u → (w.alloc (.cells #[v] t)).cell? (p.add j) = some u := by
  refine ⟨_, rfl, fun j u hj => ?_⟩
  match j, hj with
  | 0, hj => simpa [Addr.add] using hj
  | (j + 1), hj => simp at hj

/-- 'append' of one slice onto a list of the call's own. -/
theorem wpList_push {w : World} {ops : Array Oper} {rest : List Oper} {o : Oper} {a : Act} {Q : Exit → Act → World → Prop} (hgd : o.guard = none) (s x : Operand)
    (ho : o.op = .call { callee := .builtin .append, args := #[s, x], argTypes := #[31, 31] })
    (B : Nat) (v : Value) (os : List Value) (hs : a.eval s = v) (hown : w.ownsRow B 63 1 v os.length os) (u : Value) (k : Nat) (hk : k = w.heap.size) (hx : a.eval x = .slice (some ⟨k, 0, none⟩) 1 1) (hu : u.oneCell' = true)
    (hb : os.length ≤ 1073741824) (hbase : B ≤ w.heap.size)
    (h : ∀ v' w', w'.ownsRow B 63 1 v' (os.length + 1) (os ++ [u]) → (w.alloc (.cells #[u] 63)).grownBy w' v.ownBlock → (v'.ownBlock = v.ownBlock ∨ v'.ownBlock = some (w.heap.size + 1)) →
      wpList Try.prog ops Q rest (a.put o.dst v') w') : wpList Try.prog ops Q (o :: rest) a (w.alloc (.cells #[u] 63)) := by
  subst hk
  obtain ⟨i, hi, hz0, hz1, hz2⟩ := info_parts info_strs
  refine wpList_append_keeps hgd s x 31 ho B 63 i (.slice none 0 0) Try.underlying31 hi hz0 hz1 rfl v os.length os hs (hown.alloc _) (some ⟨w.heap.size, 0, none⟩) 1 1 [u] hx rfl (.inr (one_new w u _)) (by intro y hy; simp at hy; subst hy; exact hu) (by unfold maxLen; omega) (by rw [hz2]; omega) (by simp; omega) ?_
  intro v' w' h1 h2 _ h4 _
  exact h v' w' h1 h2 (by simpa using h4)


/-- 'append' in a region that draws its order, a row of cells. -/
theorem step_row {ops : Array Oper} {o : Oper} {a : Act} {K : Act → World → Prop} {Q : Exit → Act → World → Prop} {F : Prop} (hgd : o.guard = none) (s x : Operand) (t : TypeId)
    (ho : o.op = .call { callee := .builtin .append, args := #[s, x], argTypes := #[t, t] })
    (w : World) (base : Nat) (e : TypeId) (i : TypeInfo) (z : Value) (ht : Try.prog.underlying t = some (.slice e)) (hi : Try.prog.info? e = some i) (hz : i.zero = some z) (hsize : i.size = 1) (hzs : z.cells.size = 1)
    (v : Value) (n : Nat) (xs : List Value) (hs : a.eval s = v) (hown : w.ownsRow base e 1 v n xs)
    (ad : Option Addr) (m c : Nat) (news : List Value) (hx : a.eval x = .slice ad m c) (hl : news.length = m) (hnews : (ad = none ∧ m = 0) ∨ ∃ p, ad = some p ∧ ∀ j u, news[j]? = some u → w.cell? (p.add j) = some u) (h1 : ∀ u ∈ news, u.oneCell' = true)
    (h63 : n + m ≤ maxLen) (hbytes : (n + m) * i.bytes ≤ 140737488355328) (hbase : base ≤ w.heap.size)
    (h : ∀ v' w', w'.ownsRow base e 1 v' (n + m) (xs ++ news) → w.grownBy w' v.ownBlock → (v'.ownBlock = v.ownBlock ∨ v'.ownBlock = some w.heap.size) → K (a.put o.dst v') w') :
    if Region.wanted o (yielded ops a.tmps) = true then Oper.wp Try.prog o a w K Q else F := by
  have hw : Region.wanted o (yielded ops a.tmps) = true := by simp [Region.wanted, hgd]
  rw [if_pos hw]
  obtain ⟨v', w', hr, h2, h3, h4, h5, h6⟩ := run_append_keeps (P := Try.prog) w base t o.type e i z ht hi hz hsize hzs v n xs hown ad m c news hl hnews h1 h63 hbytes hbase
  unfold Oper.wp execOp
  simp only [ho, resolve, invoke, builtin, Sem.run_bind, Sem.run_pure, Result.andThen_ok, List.map_toArray, List.map_cons, List.map_nil, hs, hx, hr]
  exact h v' w' h2 h3 h5
set_option maxHeartbeats 4000000 in
set_option maxRecDepth 1000000 in
theorem keep_any (w : World) (B : Nat) (lab : Nat → Tag) (Hb : Nat) (fr : Fx) (ok : Nat → Nat → Prop) (es : List Ent) (a : Option Addr) (c : Nat) (l : List Int) (hh : Held w B lab Hb fr ok es) (hB : B ≤ w.heap.size)
    (hv : OwnI w B (.slice a l.length c) l) (ht : Tagged lab (.slice a l.length c) (.out es.length)) (hok : ok es.length es.length) (hl : l.length ≤ 8796093022208) (he : es.length ≤ 1073741824) :
    Calls Try.prog 45 #[.pointer (some ⟨Hb, 2, none⟩), .slice a l.length c] w fun e w' => e = .returned (.tuple #[]) ∧
      ∃ lab' cw, Held w' B lab' Hb fr ok (es ++ [⟨.slice a l.length c, cw, l⟩]) ∧ (∀ k, k < w.heap.size → lab' k = lab k) ∧ Kept (Lists lab) w w' := by
  obtain ⟨vo, vw, hr, hes⟩ := hh
  obtain ⟨ao, co, hvo, _⟩ := row_shape hr.2.2.2.1.1
  obtain ⟨aw, cv, hvw, _⟩ := row_shape hr.2.2.2.2.1
  rw [List.length_map] at hvo hvw
  subst hvo hvw
  have k0 := hr.cell0
  have hlh := hr.lt
  have HR : Hid (HRows w B lab Hb (.slice ao es.length co) (.slice aw es.length cv) fr (es.map (·.out)) (es.map (·.want))) := hr
  have HES : Hid (Ents w B lab ok es ∧ OwnI w B (.slice a l.length c) l ∧ Tagged lab (.slice a l.length c) (.out es.length) ∧ ok es.length es.length) := ⟨hes, hv, ht, hok⟩
  have hlo : (es.map (·.out)).length ≤ 1073741824 := by simpa using he
  obtain ⟨is1, hi1, hz10, hz11, hz12⟩ := info_parts info_str
  obtain ⟨is2, hi2, hz20, hz21, hz22⟩ := info_parts info_strs
  clear hr hes hv ht hok
  go_enter Try.func45, Try.ntmps45
  go_upto_region 1 with (first
    | (refine wpList_push rfl (.tmp 8) (.tmp 10) rfl B (.slice ao es.length co) (es.map (·.out)) rfl HR.out.2.2.2.1.1 (.slice a l.length c) _ rfl rfl rfl hlo hB ?_
       intro vo' w2 ho hgr hvb
       obtain ⟨ao', co', hvo', _⟩ := row_shape ho
       rw [List.length_map] at hvo'
       subst hvo'
       obtain ⟨c20, _, f20, _⟩ := box_cell ((HR.out.alloc (.cells #[.slice a l.length c] 63)).boxOut hgr)
       have P1 : Hid (w2.ownsRow B 63 1 (.slice ao' (es.length + 1) co') ((es.map (·.out)).length + 1) (es.map (·.out) ++ [.slice a l.length c]) ∧ (w.alloc (.cells #[.slice a l.length c] 63)).grownBy w2 (Value.slice ao es.length co).ownBlock ∧ ((Value.slice ao' (es.length + 1) co').ownBlock = (Value.slice ao es.length co).ownBlock ∨ (Value.slice ao' (es.length + 1) co').ownBlock = some (w.heap.size + 1))) := ⟨ho, hgr, hvb⟩
       have hl2 : Hb < w2.heap.size := (Array.getElem?_eq_some_iff.1 ((HR.out.alloc (.cells #[.slice a l.length c] 63)).boxOut hgr)).1
       clear ho hgr hvb))
  obtain ⟨hr3, k3⟩ := (HR.out.alloc (.cells #[.slice a l.length c] 63)).pushOut P1.out.1 P1.out.2.1 (by simpa using P1.out.2.2)
  obtain ⟨V3, hV3⟩ : ∃ V3, V3 = w2.setCell ⟨Hb, 2, none⟩ (.slice ao' (es.length + 1) co') := ⟨_, rfl⟩
  rw [← hV3] at hr3 k3 ⊢
  have hal1 : Below w.heap.size w (w.alloc (.cells #[.slice a l.length c] 63)) := (Below.refl _ w).alloc (Nat.le_refl _) _
  have ov : OwnI V3 B (.slice a l.length c) l := ((Kept.ofBelow hal1).trans k3 : Kept (Lists lab) w V3).ownI HES.out.2.1 (fun g hg hL => by unfold Lists at hL; rw [HES.out.2.2.1 g hg] at hL; simp at hL)
  have IS : Hid (IsInts V3 a c l) := by
    obtain ⟨a1, c1, h1, h2⟩ := ov.shape
    simp only [Value.slice.injEq] at h1
    obtain ⟨rfl, _, rfl⟩ := h1
    exact h2
  have j1 := hr3.cell1
  have jl := hr3.lt
  have hzV : B ≤ V3.heap.size := Nat.le_trans hB (Nat.le_trans hal1.size k3.size)
  have HR3 : Hid (HRows V3 B _ Hb (.slice ao' (es.length + 1) co') (.slice aw es.length cv) fr (es.map (·.out) ++ [.slice a l.length c]) (es.map (·.want))) := hr3
  have HV3 : Hid (V3 = w2.setCell ⟨Hb, 2, none⟩ (.slice ao' (es.length + 1) co')) := hV3
  clear hr3 k3 hV3 hal1 ov c20 f20 hl2 k0 hlh
  go_region_law (first
    | (refine step_row rfl (.const (.slice none 0 0)) (.tmp 19) 63 rfl _ V3.heap.size 3 is1 _ Try.underlying63 hi1 hz10 hz11 rfl (.slice none 0 0) 0 [] (by first | rfl | simp [Act.eval, Act.put]) (World.ownsRow_nil _ _ _ _) a l.length c (l.map (Value.int .i64)) (by first | rfl | simp [Act.eval, Act.put]) (by simp) IS.out.src (by intro u hu; obtain ⟨x, _, rfl⟩ := List.mem_map.1 hu; rfl) (by unfold maxLen; omega) (by rw [hz12]; omega) (Nat.le_refl _) ?_
       intro cw0 w3 ownc hgr3 hvb3
       rw [Nat.zero_add, List.nil_append] at ownc
       have B3 : Hid (Below V3.heap.size V3 w3) := ((Below.refl _ V3).drew).grown hgr3 (Nat.le_refl _) (fun k hk => by cases hk)
       have OC : Hid (OwnI w3 V3.heap.size cw0 l) := (show World.ownsRow _ _ _ _ _ _ _ by simpa using ownc)
       obtain ⟨ac, cc, hcw, _⟩ := OC.out.shape
       subst hcw
       have R3 : Hid (HRows w3 B _ Hb (.slice ao' (es.length + 1) co') (.slice aw es.length cv) fr (es.map (·.out) ++ [.slice a l.length c]) (es.map (·.want))) := HR3.out.below B3.out
       have jl3 := R3.out.lt
       have j13 := R3.out.cell1
       have hz3 := B3.out.size
       clear ownc hgr3 hvb3)
    | (refine step_row rfl (.tmp 18) (.tmp 21) 31 rfl _ B 63 is2 _ Try.underlying31 hi2 hz20 hz21 rfl (.slice aw es.length cv) (es.map (·.want)).length (es.map (·.want)) (by first | rfl | simp [Act.eval, Act.put]) (World.ownsRow.alloc R3.out.2.2.2.2.1 _) (some ⟨w3.heap.size, 0, none⟩) 1 1 [.slice ac l.length cc] (by first | rfl | simp [Act.eval, Act.put]) rfl (.inr (one_new w3 _ _)) (by intro y hy; simp at hy; subst hy; rfl) (by unfold maxLen; simp; omega) (by rw [hz22]; simp; omega) (by simp; omega) ?_
       intro vw' w4 ho4 hgr4 hvb4
       obtain ⟨aw', cv', hvw', _⟩ := row_shape ho4
       rw [List.length_map] at hvw'
       subst hvw'
       obtain ⟨_, c41, _, f41⟩ := box_cell ((R3.out.alloc (.cells #[.slice ac l.length cc] 63)).boxWant hgr4)
       have jl4 : Hb < w4.heap.size := (Array.getElem?_eq_some_iff.1 ((R3.out.alloc (.cells #[.slice ac l.length cc] 63)).boxWant hgr4)).1))
  all_goals (
    go_wp2_with fail
    go_end0
    obtain ⟨lab7, h7, l7, k7⟩ := Held.pushed2 HR.out HES.out.1 hB HES.out.2.1 HES.out.2.2.1 HES.out.2.2.2 (.cells #[.slice a l.length c] 63) (.cells #[.slice ac l.length cc] 63) P1.out.1 P1.out.2.1 (by simpa using P1.out.2.2) (by rw [← HV3.out]; exact B3.out) (by rw [← HV3.out]; exact OC.out) ho4 (by first | exact hgr4 | simpa using hgr4) (by first | exact hvb4 | simpa using hvb4)
    exact ⟨rfl, lab7, ⟨_, h7⟩, l7, k7⟩)
end Go.Proofs.Ytkjjinccnaphpaa
