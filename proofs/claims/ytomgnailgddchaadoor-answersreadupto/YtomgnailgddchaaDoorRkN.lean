/-
  The walk of next. (Written by gennextr.py.)
-/
import Derived.Test.YtomgnailgddchaaDoorRkF
namespace Go.Proofs.YtomgnailgddchaaDoor
open Go.RowKit Go.Sort

def rpA (r : Rp) (b : Value) : Array Value := #[.int .i64 r.kind, .int .i64 r.id, .int .i64 r.num, .string ⟨r.tube.toArray⟩, b]
theorem Own.mono8 {w : World} {B B' : Nat} {v : Value} {l : List UInt8} (h : Own w B v l) (hB : B' ≤ B) : Own w B' v l := ⟨h.1, h.2.imp id (fun ⟨q, cap, cur, hv, hb, rest⟩ => ⟨q, cap, cur, hv, Nat.le_trans hB hb, rest⟩)⟩
/-- What the program's Next tells. -/
def NextR (w : World) (p : Pq) (R : Rp) (ok : Bool) (E : Int) (g' : Nat) (e : Ending) (w' : World) : Prop :=
  ∃ a c, e = .returned (.tuple #[.agg (rpA R (.slice a R.body.length c)), .bool ok, .int .i64 E]) ∧ Own w' w.heap.size (.slice a R.body.length c) R.body ∧ ∃ v', RdAt w' p.rb v' p.A g' ∧ Kept (Mine p.rb p.v) w w' ∧ (∀ k, Mine p.rb v' k → Mine p.rb p.v k ∨ w.heap.size ≤ k) ∧ ∀ k, (Value.slice a R.body.length c).ownBlock = some k → ¬ Mine p.rb v' k
theorem next_both {w0 w : World} {p : Pq} (h : p.Ok w0 w) (hz : Below w0.heap.size w0 w) (hT : Tabs w0) (hA : p.A.length ≤ 1073741823) :
    ∃ R ok E g' d', Calls Tryd.prog 18 #[.pointer (some ⟨p.rb, 0, none⟩)] w (NextR w p R ok E g') ∧
      (∀ w1, RcAt w1 p.db p.vl p.vn p.vb p.P p.d → Calls Tryd.prog 24 #[.pointer (some ⟨p.db, 0, none⟩)] w1 fun e w' => ∃ ab cb, e = .returned (.tuple #[.agg (rpA R (.slice ab R.body.length cb)), .bool ok, .int .i64 E]) ∧ IsBytes w' ab cb R.body ∧ WentD w1 p.db (MineD p.db p.vl p.vn p.vb p.P) d' w') ∧
      DRel p.A g' d' ∧ R.body.length ≤ 1073741824 ∧ d'.L.length = p.d.L.length - 1 ∧ SzD p.A d' := by
  have hn := next_any w p.rb p.v p.A p.g h.r (by omega) (hT.below hz)
  have hfew := h.rel.few
  by_cases hlt : p.g < (scan p.A).1
  · obtain ⟨L', hL, hrel, hle⟩ := h.rel.next hlt
    have hb := read_body (p.A.drop p.g)
    rw [List.length_drop] at hb
    have hg1 := h.rel.bd.1
    refine ⟨(readP (p.A.drop p.g)).1, true, 0, p.g + (readP (p.A.drop p.g)).2.1, _, hn.mono ?_, fun w1 hc => ?_, hrel, by omega, ?_, h.sz⟩
    · rintro e w' (⟨_, a', c', rfl, o, v', r', k', n', m'⟩ | ⟨e1, _⟩)
      · exact ⟨a', c', rfl, o, v', r', k', n', m'⟩
      · omega
    · have hli := h.c.list
      cases hP : p.P with
      | nil => rw [hP, hL] at hli; simp at hli
      | cons x Pr =>
        rw [hP] at hc hli
        rw [hL] at hli
        simp only [List.map_cons, List.cons.injEq, Prod.mk.injEq] at hli
        obtain ⟨⟨q1, q2⟩, q3⟩ := hli
        have hPl : Pr.length ≤ 1073741823 := by
          have := congrArg List.length hL
          have := congrArg List.length q3
          simp only [List.length_map, List.length_cons] at *
          omega
        refine (next_someD w1 p.db p.vl p.vn p.vb x Pr p.d hc hPl (by rw [← q1]; omega) (by omega) (by rw [← q2]; exact hle)).mono ?_
        rintro e w' ⟨ab, cb, rfl, hi, _, wd⟩
        rw [← q1] at hi ⊢
        rw [← q2, ← q3] at wd
        exact ⟨ab, cb, rfl, hi, wd⟩
    · rw [hL]
      simp
  · have hL := h.rel.none hlt
    have hle := h.rel.bd.le
    have hgs : p.g = (scan p.A).1 := by omega
    have hE : (if 0 < (scan p.A).2 then (82 : Int) else 0) = if p.d.bad = true then 82 else 0 := by
      have := h.rel.bad
      by_cases h0 : (scan p.A).2 = 0
      · rw [this, h0]; simp
      · rw [this, if_pos (by omega)]; simp [h0]
    refine ⟨rp0, false, if p.d.bad = true then 82 else 0, p.g, p.d, hn.mono ?_, fun w1 hc => ?_, h.rel, by decide, by rw [hL]; rfl, h.sz⟩
    · rintro e w' (⟨e1, _⟩ | ⟨_, rfl, v', r', k', n'⟩)
      · exact absurd e1 hlt
      · exact ⟨none, 0, by rw [hE]; rfl, Own.nil _ _, v', r', k', n', fun k e => by cases e⟩
    · refine (next_noneD w1 p.db p.vl p.vn p.vb p.P p.d hc hL).mono ?_
      rintro e w' ⟨rfl, b⟩
      exact ⟨none, 0, rfl, ⟨Nat.le_refl _, by unfold maxLen; omega, .inl rfl⟩, p.vl, p.vn, p.vb, p.P, hc.below b, Kept.ofBelow b, fun k hk => .inl hk⟩

set_option maxHeartbeats 8000000 in
set_option maxRecDepth 1000000 in
theorem nextR_any (w0 W : World) (lab : Nat → Tag) (Hb : Nat) (es : List Ent) (P Q : Pq) (i1 i2 : Nat) (h : BS w0 W lab Hb es P Q i1 i2) (hT : Tabs w0) (hA : P.A.length ≤ 1073741823) (he : es.length ≤ 1073741824) :
    Calls Tryd.prog 9 #[.agg #[.pointer (some ⟨P.rb, 0, none⟩), .pointer (some ⟨P.db, 0, none⟩)], .pointer (some ⟨Hb, 0, none⟩)] W fun e w' => e = .returned (.bool true) ∧ ∃ lab' es' P', BS w0 w' lab' Hb es' P' Q i1 i2 ∧ es'.length = es.length + 1 ∧ Mv lab W lab' w' ∧ P'.rb = P.rb ∧ P'.db = P.db ∧ P'.A = P.A ∧ P'.d.L.length = P.d.L.length - 1 := by
  have HB := hide h
  have HT := hide hT
  clear h hT
  go_enter Tryd.func9, Tryd.ntmps9
  go_upto_region 1 with fail
  obtain ⟨W1, hW1⟩ : ∃ W1, W1 = W.alloc (.cells #[.pointer (some ⟨P.rb, 0, none⟩), .pointer (some ⟨P.db, 0, none⟩)] 30) := ⟨_, rfl⟩
  obtain ⟨B3, hB3⟩ : ∃ B3, B3 = W.heap.size := ⟨_, rfl⟩
  rw [← hW1, ← hB3]
  have B1 : Hid (Below W.heap.size W W1) := by rw [hW1]; exact (Below.refl _ W).alloc (Nat.le_refl _) _
  have X1 : PairB W1 B3 P := by rw [hW1, hB3]; exact heap_alloc_new _ _
  have HB3 : Hid (B3 = W.heap.size) := hB3
  obtain ⟨x0, x1, xl⟩ := X1.cell
  have HX1 := hide X1
  have H1 := hide (HB.out.later B1.out)
  obtain ⟨R, ok, E, g', d', cn, cd, rel, hb, hL, hSz⟩ := next_both H1.out.pP H1.out.bel HT.out hA
  have CN := hide cn
  have CD := hide cd
  have HREL := hide (And.intro rel hL)
  clear hW1 hB3 X1 cn cd rel hL
  go_wp2_with fail
  refine CN.out.mono ?_
  rintro e w2 ⟨a, c, rfl, o2, v2, r2, k2, n2, m2⟩
  have hlow : ∀ j, P.mine j → j < W.heap.size := fun j hj => HB.out.pP.lt hj
  have HLOW := hide hlow
  have X2 := HX1.out.kept k2 (fun e => by have := hlow _ (.inl e); have := HB3.out; omega)
  obtain ⟨x0, x1, xl⟩ := X2.cell
  have HX2 := hide X2
  have R2 := hide (And.intro o2 (And.intro r2 (And.intro k2 (And.intro n2 m2))))
  have CA : Hid (rpA R (.slice a R.body.length c) = #[.int .i64 R.kind, .int .i64 R.id, .int .i64 R.num, .string ⟨R.tube.toArray⟩, .slice a R.body.length c]) := rfl
  obtain ⟨RA, hRAd⟩ : ∃ A5, A5 = rpA R (.slice a R.body.length c) := ⟨_, rfl⟩
  rw [← hRAd]
  have HRA := hide hRAd
  have RS : Hid ((Tryd.prog.info? 45).map (·.size) = some RA.size ∧ RA.all (·.oneCell') = true) := by
    show _ ∧ _
    rw [hRAd]
    exact ⟨by kernel_rfl, by simp [rpA, Value.oneCell']⟩
  clear x0 o2 r2 k2 n2 m2 X2 CN hlow hRAd
  go_upto_region 2 with (refine wpList_store_row rfl 45 (.tmp 5) (.tmp 15) rfl w2.heap.size RA rfl rfl 45 (rpC rp0) (heap_alloc_new w2 _) RS.out.1 (by rw [show RA.size = 5 by rw [HRA.out]; rfl]; rfl) RS.out.2 ?_)
  obtain ⟨b3, x3⟩ : Below w2.heap.size w2 ((w2.alloc (.cells #[.int .i64 0, .int .i64 0, .int .i64 0, .string ⟨#[]⟩, .slice none 0 0] 45)).setRow w2.heap.size RA) ∧ ((w2.alloc (.cells #[.int .i64 0, .int .i64 0, .int .i64 0, .string ⟨#[]⟩, .slice none 0 0] 45)).setRow w2.heap.size RA).heap[w2.heap.size]? = some (.cells RA 45 (0, 0)) :=
    ⟨below_setRow ((Below.refl _ w2).alloc (Nat.le_refl _) _) (Nat.le_refl _) _, setRow_heap _ _ _ _ _ _ (heap_alloc_new w2 _)⟩
  generalize (w2.alloc (.cells #[.int .i64 0, .int .i64 0, .int .i64 0, .string ⟨#[]⟩, .slice none 0 0] 45)).setRow w2.heap.size RA = w3 at b3 x3 ⊢
  obtain ⟨xb, hxb⟩ : ∃ x, x = w2.heap.size := ⟨_, rfl⟩
  rw [← hxb] at x3 ⊢
  have hc3 := (H1.out.pP.c.kept R2.out.2.2.1 (fun j hj e => H1.out.pP.ap j e hj)).below b3
  have CD3 := hide (CD.out w3 hc3)
  have X3 := HX2.out.below b3
  have HX3 := hide X3
  obtain ⟨_, x1, xl⟩ := X3.cell
  have B3w := hide b3
  have F3 := hide x3
  have HXB := hide hxb
  clear b3 x3 hxb hc3 CD X3 HX2
  go_wp2_with fail
  refine CD3.out.mono ?_
  rintro e w4 ⟨ab, cb, rfl, ib, wd⟩
  have WD := hide wd
  have HIB := hide ib
  obtain ⟨RB, hRB⟩ : ∃ A5, A5 = rpA R (.slice ab R.body.length cb) := ⟨_, rfl⟩
  rw [← hRB]
  have HRB := hide hRB
  have RS2 : Hid ((Tryd.prog.info? 45).map (·.size) = some RB.size ∧ RB.all (·.oneCell') = true) := by
    show _ ∧ _
    rw [hRB]
    exact ⟨by kernel_rfl, by simp [rpA, Value.oneCell']⟩
  clear hRB wd ib CD3 x1 xl
  go_upto_region 3 with (refine wpList_store_row rfl 45 (.tmp 8) (.tmp 22) rfl w4.heap.size RB rfl rfl 45 (rpC rp0) (heap_alloc_new w4 _) RS2.out.1 (by rw [show RB.size = 5 by rw [HRB.out]; rfl]; rfl) RS2.out.2 ?_)
  obtain ⟨b5, x5⟩ : Below w4.heap.size w4 ((w4.alloc (.cells #[.int .i64 0, .int .i64 0, .int .i64 0, .string ⟨#[]⟩, .slice none 0 0] 45)).setRow w4.heap.size RB) ∧ ((w4.alloc (.cells #[.int .i64 0, .int .i64 0, .int .i64 0, .string ⟨#[]⟩, .slice none 0 0] 45)).setRow w4.heap.size RB).heap[w4.heap.size]? = some (.cells RB 45 (0, 0)) :=
    ⟨below_setRow ((Below.refl _ w4).alloc (Nat.le_refl _) _) (Nat.le_refl _) _, setRow_heap _ _ _ _ _ _ (heap_alloc_new w4 _)⟩
  generalize (w4.alloc (.cells #[.int .i64 0, .int .i64 0, .int .i64 0, .string ⟨#[]⟩, .slice none 0 0] 45)).setRow w4.heap.size RB = w5 at b5 x5 ⊢
  obtain ⟨xc, hxc⟩ : ∃ x, x = w4.heap.size := ⟨_, rfl⟩
  rw [← hxc] at x5 ⊢
  -- both readers
  obtain ⟨o2, r2, k2, n2, m2⟩ := R2.out
  have hs2 := k2.size
  obtain ⟨P', e1, e2, e3, e4, e5, ok4, k4, n4, m4⟩ := H1.out.pP.both H1.out.bel.size (r2.below B3w.out) (k2.trans (Kept.ofBelow B3w.out)) n2 WD.out HREL.out.1 hSz
  obtain ⟨lab4, bs4, mv4, tg4⟩ := H1.out.turn P' (.slice a R.body.length c) ok4 n4 k4 (fun j hj => by
    have h1 := o2.old j hj
    refine ⟨h1.1, fun hm => ?_⟩
    rcases m4 j (Nat.lt_of_lt_of_le h1.2 B3w.out.size) hm with e | e
    · exact m2 j hj e
    · have := HLOW.out j e
      have := B1.out.size
      omega)
  obtain ⟨_, _, _, _, _, kd, _⟩ := WD.out
  have hxbl : ∀ j, MineD P.db P.vl P.vn P.vb P.P j → j < w2.heap.size := fun j hj => by
    have := HLOW.out j (.inr hj)
    have := B1.out.size
    omega
  have F5 : Hid (w5.heap[xb]? = some (.cells RA 45 (0, 0))) := by
    have hlt := (Array.getElem?_eq_some_iff.1 F3.out).1
    exact (b5.block xb (Nat.lt_of_lt_of_le hlt kd.size)).trans ((kd.block xb hlt (fun e => by have := hxbl xb e; have := HXB.out; omega)).trans F3.out)
  have PB5 : Hid (PairB w5 B3 P) := by
    refine (HX3.out.kept kd (fun e => ?_)).below b5
    have := HLOW.out _ (.inr e)
    have := HB3.out
    omega
  have OX : Own w3 W1.heap.size (.slice a R.body.length c) R.body := o2.below B3w.out
  have OX4 := OX.kept kd (fun j hj e => by
    have := (o2.old j hj).1
    have := HLOW.out j (.inr e)
    have := B1.out.size
    omega)
  have OX5 := OX4.below b5
  obtain ⟨ax, cx, ex, ix, _⟩ := OX5.slice
  simp only [Value.slice.injEq] at ex
  obtain ⟨rfl, _, rfl⟩ := ex
  have IA5 := hide ix
  have IB5 := hide (HIB.out.below b5)
  have F8 := hide x5
  have BS5 := hide (bs4.later b5)
  have TG := hide tg4
  have MV5 : Hid (Mv lab W lab4 w5) := ((Mv.later B1.out).trans mv4).trans (Mv.later b5)
  have OW5 := hide OX5
  have E12 := hide (And.intro e1 (And.intro e2 (And.intro e3 (by rw [e5]; exact HREL.out.2 : P'.d.L.length = P.d.L.length - 1))))
  have hA' : P'.A.length ≤ 1073741824 := by rw [e3]; omega
  have HPA := hide hA'
  clear b5 x5 hxc o2 r2 k2 n2 m2 hs2 e1 e2 e3 e4 e5 ok4 k4 n4 m4 bs4 mv4 tg4 kd hxbl OX OX4 OX5 ix hA' WD R2 HIB F3 HX3
  have CSM : Hid (∀ X, Below w5.heap.size w5 X → Calls Tryd.prog 25 #[.agg RA, .agg RB] X fun e w' => e = .returned (.bool true) ∧ Below X.heap.size X w') := fun X hX => by
    have := sameReply_any R R a ab c cb X (IA5.out.below hX) (IB5.out.below hX)
    rw [(alike_iff R R).2 rfl] at this
    rw [HRA.out, HRB.out]
    exact this
  have sq : Below w5.heap.size w5 w5.drew := (Below.refl _ _).drew
  refine wp_region_held_drew (S := Below w5.heap.size w5) (by kernel_rfl) sq (fun _ => ?_)
  refine H_take (i := 0) (v := .bool ok) (some 25) rfl rfl (by kernel_rfl) (by kernel_rfl) (by kernel_rfl) (fun _ _ _ h => h) rfl (fun X hX => ?_) sq ?_
  · simp [go_sem]
  simp only [Act.put, List.setIfInBounds_toArray, List.set_cons_zero, List.set_cons_succ]
  refine H_take (i := 1) (v := .bool ok) (some 26) rfl rfl (by kernel_rfl) (by kernel_rfl) (by kernel_rfl) (fun _ _ _ h => h) rfl (fun X hX => ?_) sq ?_
  · simp [go_sem]
  simp only [Act.put, List.setIfInBounds_toArray, List.set_cons_zero, List.set_cons_succ]
  refine H_take (i := 2) (v := .bool false) (some 27) rfl rfl (by kernel_rfl) (by kernel_rfl) (by kernel_rfl) (fun _ _ _ h => h) rfl (fun X hX => ?_) sq ?_
  · simp [go_sem]
  simp only [Act.put, List.setIfInBounds_toArray, List.set_cons_zero, List.set_cons_succ]
  refine H_take (i := 3) (v := .bool false) (some 28) rfl rfl (by kernel_rfl) (by kernel_rfl) (by kernel_rfl) (fun _ _ _ h => h) rfl (fun X hX => ?_) sq ?_
  · simp [go_sem]
  simp only [Act.put, List.setIfInBounds_toArray, List.set_cons_zero, List.set_cons_succ]
  refine H_take (i := 4) (v := .int .i64 E) (some 29) rfl rfl (by kernel_rfl) (by kernel_rfl) (by kernel_rfl) (fun _ _ _ h => h) rfl (fun X hX => ?_) sq ?_
  · simp [go_sem]
  simp only [Act.put, List.setIfInBounds_toArray, List.set_cons_zero, List.set_cons_succ]
  refine H_take (i := 5) (v := .int .i64 E) (some 30) rfl rfl (by kernel_rfl) (by kernel_rfl) (by kernel_rfl) (fun _ _ _ h => h) rfl (fun X hX => ?_) sq ?_
  · simp [go_sem]
  simp only [Act.put, List.setIfInBounds_toArray, List.set_cons_zero, List.set_cons_succ]
  refine H_take (i := 6) (v := .bool false) (some 31) rfl rfl (by kernel_rfl) (by kernel_rfl) (by kernel_rfl) (fun _ _ _ h => h) rfl (fun X hX => ?_) sq ?_
  · simp [go_sem]
  simp only [Act.put, List.setIfInBounds_toArray, List.set_cons_zero, List.set_cons_succ]
  refine H_take (i := 7) (v := .bool false) (some 32) rfl rfl (by kernel_rfl) (by kernel_rfl) (by kernel_rfl) (fun _ _ _ h => h) rfl (fun X hX => ?_) sq ?_
  · simp [go_sem]
  simp only [Act.put, List.setIfInBounds_toArray, List.set_cons_zero, List.set_cons_succ]
  refine H_take (i := 8) (v := .bool false) (some 33) rfl rfl (by kernel_rfl) (by kernel_rfl) (by kernel_rfl) (fun _ _ _ h => h) rfl (fun X hX => ?_) sq ?_
  · simp [go_sem]
  simp only [Act.put, List.setIfInBounds_toArray, List.set_cons_zero, List.set_cons_succ]
  refine H_take (i := 9) (v := .agg RA) (some 34) rfl rfl (by kernel_rfl) (by kernel_rfl) (by kernel_rfl) (fun _ _ _ h => h) rfl (fun X hX => ?_) sq ?_
  · exact run_loadRow rfl rfl ((hX.block xb (Array.getElem?_eq_some_iff.1 F5.out).1).trans F5.out) Tryd.underlying45 rfl RS.out.1
  simp only [Act.put, List.setIfInBounds_toArray, List.set_cons_zero, List.set_cons_succ]
  refine H_take (i := 10) (v := .agg RB) (some 35) rfl rfl (by kernel_rfl) (by kernel_rfl) (by kernel_rfl) (fun _ _ _ h => h) rfl (fun X hX => ?_) sq ?_
  · exact run_loadRow rfl rfl ((hX.block xc (Array.getElem?_eq_some_iff.1 F8.out).1).trans F8.out) Tryd.underlying45 rfl RS2.out.1
  simp only [Act.put, List.setIfInBounds_toArray, List.set_cons_zero, List.set_cons_succ]
  refine H_call (i := 11) (f := 25) (args := #[.agg RA, .agg RB]) (some 36) rfl rfl (by kernel_rfl) rfl (by simp [go_sem]) ((CSM.out _ sq).mono ?_)
  rintro e w6 ⟨rfl, b6⟩
  have sq6 : Below w5.heap.size w5 w6 := sq.trans (b6.mono sq.size)
  refine ⟨_, rfl, sq6, ?_⟩
  simp only [Act.put, List.setIfInBounds_toArray, List.set_cons_zero, List.set_cons_succ]
  refine H_take (i := 12) (v := .bool false) (some 37) rfl rfl (by kernel_rfl) (by kernel_rfl) (by kernel_rfl) (fun _ _ _ h => h) rfl (fun X hX => ?_) sq6 ?_
  · simp [go_sem]
  simp only [Act.put, List.setIfInBounds_toArray, List.set_cons_zero, List.set_cons_succ]
  refine H_take (i := 13) (v := .bool false) (some 38) rfl rfl (by kernel_rfl) (by kernel_rfl) (by kernel_rfl) (fun _ _ _ h => h) rfl (fun X hX => ?_) sq6 ?_
  · simp [go_sem]
  simp only [Act.put, List.setIfInBounds_toArray, List.set_cons_zero, List.set_cons_succ]
  refine H_take (i := 14) (v := .bool false) (some 39) rfl rfl (by kernel_rfl) (by kernel_rfl) (by kernel_rfl) (fun _ _ _ h => h) rfl (fun X hX => ?_) sq6 ?_
  · simp [go_sem]
  simp only [Act.put, List.setIfInBounds_toArray, List.set_cons_zero, List.set_cons_succ]
  refine H_take (i := 15) (v := .pointer (some ⟨B3, 0, none⟩)) (some 40) rfl rfl (by kernel_rfl) (by kernel_rfl) (by kernel_rfl) (fun _ _ _ h => h) rfl (fun X hX => ?_) sq6 ?_
  · simp [go_sem]
  simp only [Act.put, List.setIfInBounds_toArray, List.set_cons_zero, List.set_cons_succ]
  refine H_take (i := 16) (v := .pointer (some ⟨P.rb, 0, none⟩)) (some 41) rfl rfl (by kernel_rfl) (by kernel_rfl) (by kernel_rfl) (fun _ _ _ h => h) rfl (fun X hX => ?_) sq6 ?_
  · exact run_load1 rfl rfl Tryd.isAgg25 ((PB5.out.below hX).cell).1
  simp only [Act.put, List.setIfInBounds_toArray, List.set_cons_zero, List.set_cons_succ]
  refine H_take (i := 18) (v := .pointer (some ⟨B3, 1, none⟩)) (some 43) rfl rfl (by kernel_rfl) (by kernel_rfl) (by kernel_rfl) (fun _ _ _ h => h) rfl (fun X hX => ?_) sq6 ?_
  · simp [go_sem]
  simp only [Act.put, List.setIfInBounds_toArray, List.set_cons_zero, List.set_cons_succ]
  refine H_take (i := 19) (v := .pointer (some ⟨P.db, 0, none⟩)) (some 44) rfl rfl (by kernel_rfl) (by kernel_rfl) (by kernel_rfl) (fun _ _ _ h => h) rfl (fun X hX => ?_) sq6 ?_
  · exact run_load1 rfl rfl Tryd.isAgg27 ((PB5.out.below hX).cell).2.1
  simp only [Act.put, List.setIfInBounds_toArray, List.set_cons_zero, List.set_cons_succ]
  refine H_call (i := 17) (f := 19) (args := #[.pointer (some ⟨P.rb, 0, none⟩)]) (some 42) rfl rfl (by kernel_rfl) rfl (by simp [go_sem]) (((E12.out.1 ▸ (BS5.out.later sq6).pP.heldR HPA.out)).mono ?_)
  rintro e w7 ⟨rfl, q7, hq7⟩
  have sq7 : Below w5.heap.size w5 w7 := by rw [hq7]; exact below_drewN sq6 _
  clear hq7
  refine ⟨_, rfl, sq7, ?_⟩
  simp only [Act.put, List.setIfInBounds_toArray, List.set_cons_zero, List.set_cons_succ]
  refine H_call (i := 20) (f := 23) (args := #[.pointer (some ⟨P.db, 0, none⟩)]) (some 45) rfl rfl (by kernel_rfl) rfl (by simp [go_sem]) (((E12.out.2.1 ▸ (BS5.out.later sq7).pP.heldD)).mono ?_)
  rintro e w8 ⟨rfl, hq8⟩
  rw [hq8]
  clear hq8
  refine ⟨_, rfl, sq7, ?_⟩
  simp only [Act.put, List.setIfInBounds_toArray, List.set_cons_zero, List.set_cons_succ]
  refine H_take (i := 21) (v := .bool false) (some 46) rfl rfl (by kernel_rfl) (by kernel_rfl) (by kernel_rfl) (fun _ _ _ h => h) rfl (fun X hX => ?_) sq7 ?_
  · simp [go_sem]
  simp only [Act.put, List.setIfInBounds_toArray, List.set_cons_zero, List.set_cons_succ]
  refine H_take (i := 22) (v := .bool false) (some 47) rfl rfl (by kernel_rfl) (by kernel_rfl) (by kernel_rfl) (fun _ _ _ h => h) rfl (fun X hX => ?_) sq7 ?_
  · simp [go_sem]
  simp only [Act.put, List.setIfInBounds_toArray, List.set_cons_zero, List.set_cons_succ]
  refine wpAnyH_done (by kernel_rfl) ?_ _
  have BS7 := hide (BS5.out.later sq7)
  have y4 : w7.cell? ⟨xb, 4, none⟩ = some (.slice a R.body.length c) := by
    have h7 := (sq7.block xb (Array.getElem?_eq_some_iff.1 F5.out).1).trans F5.out
    rw [HRA.out] at h7
    exact cells_at h7 rfl
  have CK := hide (BS7.out.keep (OwnX.ofOwn ((OW5.out.below sq7).mono8 H1.out.bel.size)) TG.out hb he)
  have SQ7 := hide sq7
  clear sq sq6 sq7 b6
  go_wp2_with fail
  refine CK.out.mono ?_
  rintro e w9 ⟨rfl, lab9, es9, bs9, el9, mv9⟩
  have FIN := hide (And.intro bs9 (And.intro el9 mv9))
  clear bs9 el9 mv9
  go_wp2_with fail
  go_ret
  obtain ⟨bs9, el9, mv9⟩ := FIN.out
  exact ⟨rfl, lab9, es9, P', bs9, el9, (MV5.out.trans (Mv.later SQ7.out)).trans mv9, E12.out.1, E12.out.2.1, E12.out.2.2.1, E12.out.2.2.2⟩
end Go.Proofs.YtomgnailgddchaaDoor
