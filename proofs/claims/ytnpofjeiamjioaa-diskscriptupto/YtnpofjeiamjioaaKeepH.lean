/-
  The walk of the method keep.
-/
import Derived.Test.YtnpofjeiamjioaaHeld
import Derived.Test.YtnpofjeiamjioaaLSm
import Derived.Test.YtnpofjeiamjioaaHolds
namespace Go.Proofs.Ytnpofjeiamjioaa
open Go.RowKit Go.Lib

theorem info_bytes : (Try.prog.info? 37).map (fun i => (i.zero, i.size, i.bytes)) = some (some (.slice none 0 0), 1, 24) := by kernel_rfl

theorem one_new (w : World) (v : Value) (t : TypeId) : ∃ p, (some (⟨w.heap.size, 0, none⟩ : Addr)) = some p ∧ ∀ j u, [v][j]? = some u → (w.alloc (.cells #[v] t)).cell? (p.add j) = some u := by
  refine ⟨_, rfl, fun j u hj => ?_⟩
  match j, hj with
  | 0, hj => simpa [Addr.add] using hj
  | (j + 1), hj => simp at hj

/-- 'append' of one slice onto a list of the call's own. -/
theorem wpList_push {w : World} {ops : Array Oper} {rest : List Oper} {o : Oper} {a : Act} {Q : Exit → Act → World → Prop} (hgd : o.guard = none) (s x : Operand)
    (ho : o.op = .call { callee := .builtin .append, args := #[s, x], argTypes := #[72, 72] })
    (B : Nat) (v : Value) (os : List Value) (hs : a.eval s = v) (hown : w.ownsRow B 37 1 v os.length os) (u : Value) (k : Nat) (hk : k = w.heap.size) (hx : a.eval x = .slice (some ⟨k, 0, none⟩) 1 1) (hu : u.oneCell' = true)
    (hb : os.length ≤ 1073741824) (hbase : B ≤ w.heap.size)
    (h : ∀ v' w', w'.ownsRow B 37 1 v' (os.length + 1) (os ++ [u]) → (w.alloc (.cells #[u] 37)).grownBy w' v.ownBlock → (v'.ownBlock = v.ownBlock ∨ v'.ownBlock = some (w.heap.size + 1)) →
      wpList Try.prog ops Q rest (a.put o.dst v') w') : wpList Try.prog ops Q (o :: rest) a (w.alloc (.cells #[u] 37)) := by
  subst hk
  obtain ⟨i, hi, hz0, hz1, hz2⟩ := info_parts info_bytes
  refine wpList_append_keeps hgd s x 72 ho B 37 i (.slice none 0 0) Try.underlying72 hi hz0 hz1 rfl v os.length os hs (hown.alloc _) (some ⟨w.heap.size, 0, none⟩) 1 1 [u] hx rfl (.inr (one_new w u _)) (by intro y hy; simp at hy; subst hy; exact hu) (by unfold maxLen; omega) (by rw [hz2]; omega) (by simp; omega) ?_
  intro v' w' h1 h2 _ h4 _
  exact h v' w' h1 h2 (by simpa using h4)

theorem one_of_own {w : World} {B : Nat} {v : Value} {l : List UInt8} (h : Own w B v l) : v.oneCell' = true := by
  obtain ⟨a, c, rfl, _⟩ := h.shape
  rfl

set_option maxHeartbeats 2000000 in
set_option maxRecDepth 1000000 in
theorem keep_any (w : World) (B : Nat) (lab : Nat → Tag) (Hb n : Nat) (es : List Ent) (a : Option Addr) (c : Nat) (l : List UInt8) (hh : Held w B lab Hb n es) (hB : B ≤ w.heap.size)
    (hv : Own w B (.slice a l.length c) l) (ht : Tagged lab (.slice a l.length c) (.out es.length)) (hl : l.length ≤ 140737488355328) (he : es.length ≤ 1073741824) :
    Calls Try.prog 31 #[.pointer (some ⟨Hb, 0, none⟩), .slice a l.length c] w fun e w' => e = .returned (.tuple #[]) ∧
      ∃ lab' cw, Held w' B lab' Hb n (es ++ [⟨.slice a l.length c, cw, l⟩]) ∧ (∀ k, k < w.heap.size → lab' k = lab k) ∧ Kept (Lists lab) w w' := by
  have HH : Hid (Held w B lab Hb n es) := hh
  have HV : Hid (Own w B (.slice a l.length c) l) := hv
  have HT : Hid (Tagged lab (.slice a l.length c) (.out es.length)) := ht
  have his : IsBytes w a c l := by
    obtain ⟨a1, c1, h1, h2⟩ := hv.shape
    simp only [Value.slice.injEq] at h1
    obtain ⟨rfl, _, rfl⟩ := h1
    exact h2
  have IS : Hid (IsBytes w a c l) := his
  clear hh hv ht his
  go_enter Try.func31, Try.ntmps31
  go_wp2_with fail
  refine (lcopied_any a c l w IS.out hl).mono ?_
  rintro e w1 ⟨cw, rfl, ownc, B1, _⟩
  obtain ⟨ac, cc, rfl, _⟩ := ownc.shape
  obtain ⟨lab1, hlab1⟩ : ∃ lab1 : Nat → Tag, lab1 = fun k => if k < w.heap.size then lab k else .want es.length := ⟨_, rfl⟩
  have hl1 : ∀ k, k < w.heap.size → lab1 k = lab k := fun k hk => by rw [hlab1]; simp [hk]
  have tc : Tagged lab1 (.slice ac l.length cc) (.want es.length) := fun g hg => by have := (ownc.lt g hg).1; rw [hlab1]; simp only []; rw [if_neg (by omega)]
  have tv : Tagged lab1 (.slice a l.length c) (.out es.length) := HT.out.congr HV.out hl1
  have hz1 := B1.size
  obtain ⟨vo, vw, hr, hes⟩ := (HH.out.relabel hl1).below B1
  obtain ⟨ao, co, rfl, _⟩ := row_shape hr.2.2.2.1.1
  obtain ⟨aw, cv, rfl, _⟩ := row_shape hr.2.2.2.2.1
  rw [List.length_map, List.length_map] at hr
  have k0 := hr.cell0
  have f0 := hr.frozen 0
  have hHb := hr.lt
  have HR : Hid (HRows w1 B lab1 Hb (.slice ao es.length co) (.slice aw es.length cv) (es.map (·.out)) (es.map (·.want))) := hr
  have HES : Hid (Ents w1 B lab1 n es) := hes
  have OV : Hid (Own w1 B (.slice a l.length c) l) := HV.out.below B1
  have OC : Hid (Own w1 B (.slice ac l.length cc) l) := (ownc.mono hB)
  have K1 : Hid (Kept (Lists lab) w w1) := Kept.ofBelow B1
  have TC : Hid (Tagged lab1 (.slice ac l.length cc) (.want es.length)) := tc
  have TV : Hid (Tagged lab1 (.slice a l.length c) (.out es.length)) := tv
  have HL1 : Hid (∀ k, k < w.heap.size → lab1 k = lab k) := hl1
  clear hr hes ownc B1 tc tv hl1 hlab1
  have hBw : B ≤ w1.heap.size := by omega
  have hlo : (es.map (·.out)).length ≤ 1073741824 := by simpa using he
  have hlw : (es.map (·.want)).length ≤ 1073741824 := by simpa using he
  go_wp2_with (first
             | (refine wpList_push rfl (.tmp 11) (.tmp 13) rfl B (.slice ao es.length co) (es.map (·.out)) rfl HR.out.2.2.2.1.1 (.slice a l.length c) _ rfl rfl rfl hlo hBw ?_
                intro vo' w2 ho hgr hvb
                obtain ⟨ao', co', hvo', _⟩ := row_shape ho
                rw [List.length_map] at hvo'
                subst hvo'
                obtain ⟨c20, _, f20, _⟩ := box_cell ((HR.out.alloc (.cells #[.slice a l.length c] 37)).boxOut hgr)
                have hp := (HR.out.alloc (.cells #[.slice a l.length c] 37)).pushOut ho hgr (by simpa using hvb)
                have HR3 : Hid (HRows (w2.setCell ⟨Hb, 0, none⟩ (.slice ao' (es.length + 1) co')) B (fun k => if k = (w1.alloc (.cells #[.slice a l.length c] 37)).heap.size then .outs else lab1 k) Hb (.slice ao' (es.length + 1) co') (.slice aw es.length cv) (es.map (·.out) ++ [.slice a l.length c]) (es.map (·.want))) := hp.1
                have K3 : Hid (Kept (Lists lab1) (w1.alloc (.cells #[.slice a l.length c] 37)) (w2.setCell ⟨Hb, 0, none⟩ (.slice ao' (es.length + 1) co'))) := hp.2
                obtain ⟨_, c21, _, _⟩ := box_cell HR3.out.1
                have hz2 := hgr.size
                clear hp ho hgr hvb)
             | (refine wpList_push rfl (.tmp 21) (.tmp 23) rfl B (.slice aw es.length cv) (es.map (·.want)) rfl HR3.out.2.2.2.2.1 (.slice ac l.length cc) _ (by simp) rfl rfl hlw (by simp at hz2 ⊢; omega) ?_
                intro vw' w4 ho hgr hvb
                obtain ⟨aw', cv', hvw', _⟩ := row_shape ho
                rw [List.length_map] at hvw'
                subst hvw'
                obtain ⟨_, c41, _, f41⟩ := box_cell ((HR3.out.alloc (.cells #[.slice ac l.length cc] 37)).boxWant hgr)))
  go_end0
  obtain ⟨hr5, k5⟩ := (HR3.out.alloc (.cells #[.slice ac l.length cc] 37)).pushWant ho hgr (by simpa using hvb)
  have hal1 : Below w1.heap.size w1 (w1.alloc (.cells #[.slice a l.length c] 37)) := (Below.refl _ w1).alloc (Nat.le_refl _) _
  have chain : ∀ j e, EntAt w1 B lab1 n j e → EntAt (w4.setCell ⟨Hb, 1, none⟩ (.slice aw' (es.length + 1) cv')) B _ n j e := fun j e h => (((h.below hal1).push K3.out .outs (.inl rfl)).below ((Below.refl _ _).alloc (Nat.le_refl _) (.cells #[.slice ac l.length cc] 37))).push k5 .wants (.inr rfl)
  refine ⟨rfl, _, .slice ac l.length cc, ⟨_, _, by rw [List.map_append, List.map_append]; exact hr5, ?_⟩, ?_, ?_⟩
  · intro j e hj
    refine chain j e ?_
    by_cases hjl : j < es.length
    · rw [List.getElem?_append_left hjl] at hj
      exact HES.out j e hj
    · rw [List.getElem?_append_right (by omega)] at hj
      have hj0 : j - es.length = 0 := by have := (List.getElem?_eq_some_iff.1 hj).1; simp at this; omega
      obtain rfl : j = es.length := by omega
      rw [hj0] at hj
      simp only [List.getElem?_cons_zero, Option.some.injEq] at hj
      subst hj
      exact ⟨⟨OV.out, fun g hg => .inl (TV.out g hg)⟩, ⟨OC.out, TC.out⟩⟩
  · intro k hk
    simp at hz2 ⊢
    rw [if_neg (by omega), if_neg (by omega)]
    exact HL1.out k hk
  · refine (((K1.out.trans (Kept.ofBelow hal1)).step K3.out ?_).trans (Kept.ofBelow ((Below.refl _ _).alloc (Nat.le_refl _) (.cells #[.slice ac l.length cc] 37)))).step k5 ?_
    · intro k hk h
      unfold Lists at h ⊢
      rwa [HL1.out k hk] at h
    · intro k hk h
      unfold Lists at h ⊢
      simp only [World.size_alloc] at h
      rw [if_neg (by omega), HL1.out k hk] at h
      exact h
end Go.Proofs.Ytnpofjeiamjioaa
