/-
  The walk of the document's Next, when a reply is told.
-/
import Derived.Test.YtomgnailgddchaaDoorJI
namespace Go.Proofs.YtomgnailgddchaaDoor
open Go.RowKit Go.Sort

theorem wpList_oapp {w : World} {ops : Array Oper} {rest : List Oper} {o : Oper} {a : Act} {Q : Exit → Act → World → Prop} (hgd : o.guard = none) (s x : Operand) (ho : o.op = .call { callee := .builtin .append, args := #[s, x], argTypes := #[52, 52] })
    (v : Value) (n : Nat) (xs : List Value) (hs : a.eval s = v) (hown : w.ownsRow 0 60 6 v n xs) (ad : Option Addr) (m c : Nat) (news : List Value) (hx : a.eval x = .slice ad m c) (hl : news.length = m * 6)
    (hsrc : (ad = none ∧ m = 0) ∨ ∃ p, ad = some p ∧ ∀ j u, news[j]? = some u → w.cell? (p.add j) = some u) (hone : ∀ u ∈ news, u.oneCell' = true) (hb : n + m ≤ 1099511627776)
    (h : ∀ v' w', w'.ownsRow 0 60 6 v' (n + m) (xs ++ news) → w.grownBy w' v.ownBlock → (v'.ownBlock = v.ownBlock ∨ v'.ownBlock = some w.heap.size) → wpList Tryd.prog ops Q rest (a.put o.dst v') w') : wpList Tryd.prog ops Q (o :: rest) a w := by
  obtain ⟨i, hi, hz0, hz1, hz2⟩ := info_parts info_oneD
  obtain ⟨v', w', hr, h2, h3, h4, h5, h6⟩ := run_append_keepsG (P := Tryd.prog) w 6 0 52 o.type 60 i _ Tryd.underlying52 hi hz0 hz1 rfl v n xs hown ad m c news hl hsrc hone (by unfold maxLen; omega) (by rw [hz2]; omega) (Nat.zero_le _)
  refine wpList_plain hgd fun K hK => ?_
  have hr2 : (execOp a.eval o).run Tryd.prog w = .ok (.value v') w' := by
    unfold execOp
    simp only [ho, resolve, invoke, builtin, Sem.run_bind, Sem.run_pure, Result.andThen_ok, List.map_toArray, List.map_cons, List.map_nil, hs, hx, hr]
  unfold Oper.wp
  rw [hr2]
  exact hK _ _ (h v' w' h2 h3 h5)
theorem oneC_len (P : List PO) : (flatO P).length = P.length * 6 := by
  unfold flatO
  induction P with
  | nil => rfl
  | cons p P ih => rw [List.flatMap_cons, List.length_append, ih, List.length_cons]; simp [oneC]; omega

theorem RcAt.cntN {w : World} {rb : Nat} {vl vn vb : Value} {P : List PO} {d : Dc} (h : RcAt w rb vl vn vb P d) (n : Int) (m : Nat) (hn : n = (m : Int)) : RcAt (w.setCell ⟨rb, 9, none⟩ (.int .i64 n)) rb vl vn vb P { d with cnt := m } := by
  refine h.turn (keptR w rb 9 _) ?_ rfl rfl rfl
  have b0 := h.box
  unfold RcBox at b0 ⊢
  rw [(set_cells b0 9 (.int .i64 n)).1, hn]
  simp
theorem keptRow (W : World) (x : Nat) (cs : Array Value) : Kept (fun k => k = x) W (W.setRow x cs) := ⟨rfl, rfl, rfl, by simp [World.setRow], fun k _ hne => setRow_other W x k cs hne⟩
theorem emptyOwn (w : World) : Own (w.alloc (.cells #[] 5)) 0 (.slice (some ⟨w.heap.size, 0, none⟩) 0 0) [] := ⟨rfl, .inr ⟨w.heap.size, 0, #[], rfl, Nat.zero_le _, heap_alloc_new _ _, Nat.le_refl _, Nat.zero_le _, rfl, rfl⟩⟩
theorem next_set {W2 w' : World} {rb : Nat} {vl vn vb v' : Value} {p : PO} {P : List PO} {d : Dc} {o : Obj} (h : RcAt W2 rb vl vn vb (p :: P) d) (q1 : w'.ownsRow 0 60 6 v' P.length (flatO P)) (q2 : (W2.alloc o).grownBy w' (some W2.heap.size)) (q3 : v'.ownBlock = some W2.heap.size ∨ v'.ownBlock = some (W2.alloc o).heap.size) :
    RcBox w' rb vl vn d.inB d.r vb d.left d.cnt d.bad ∧ RcAt (w'.setCell ⟨rb, 0, none⟩ v') rb v' vn vb P { d with L := P.map (fun p => (p.1, p.2.2)) } ∧ Kept (fun k => k = rb) W2 (w'.setCell ⟨rb, 0, none⟩ v') ∧ ∀ k, v'.ownBlock = some k → W2.heap.size ≤ k := by
  have B1 : Below W2.heap.size W2 (W2.alloc o) := (Below.refl _ W2).alloc (Nat.le_refl _) o
  have k2 : Kept (fun k => k = W2.heap.size) (W2.alloc o) w' := Kept.ofGrown q2 (fun k e => (Option.some.inj e).symm)
  have K0 : Kept (fun _ => False) W2 w' := (Kept.ofBelow (P := fun _ => False) B1).step k2 (fun q hq e => by omega)
  have b2 := h.box.kept K0 (fun e => e)
  have k3 := keptR w' rb 0 v'
  have KA : Kept (fun k => k = rb) W2 (w'.setCell ⟨rb, 0, none⟩ v') := (K0.mono (fun _ _ e => e.elim)).trans k3
  have bytes : ∀ {v : Value} {l : List UInt8}, Own W2 0 v l → Own (w'.setCell ⟨rb, 0, none⟩ v') 0 v l := fun ho => rowKept ho KA (fun k hk e => h.box.ne ho (by decide) (by rw [hk, e]))
  refine ⟨b2, ⟨?_, bytes h.line, bytes h.body, rowKept q1 k3 (fun k hk e => b2.ne q1 (by decide) (by rw [hk, e])), rfl, fun x hx => bytes (h.bodies x (List.mem_cons_of_mem _ hx)), fun k hk => ⟨(h.apL k hk).1, fun x hx => (h.apL k hk).2 x (List.mem_cons_of_mem _ hx)⟩, fun k hk x hx => h.apB k hk x (List.mem_cons_of_mem _ hx)⟩, KA, fun k hk => ?_⟩
  · unfold RcBox at b2 ⊢
    rw [(set_cells b2 0 v').1]
    simp
  · rcases q3 with e | e
    · rw [e] at hk; cases hk; exact Nat.le_refl _
    · rw [e] at hk; cases hk; exact B1.size

set_option maxHeartbeats 4000000 in
set_option maxRecDepth 1000000 in
theorem next_someD (w : World) (rb : Nat) (vl vn vb : Value) (p : PO) (P : List PO) (d : Dc) (h : RcAt w rb vl vn vb (p :: P) d) (hP : P.length ≤ 1073741823) (hb : p.1.body.length ≤ 1099511627776) (hc : d.cnt ≤ 1099511627776) (hn : p.2.2 ≤ d.cnt) :
    Calls Tryd.prog 24 #[.pointer (some ⟨rb, 0, none⟩)] w fun e w' => ∃ ab cb, e = .returned (.tuple #[rpV p.1 (.slice ab p.1.body.length cb), .bool true, .int .i64 0]) ∧ IsBytes w' ab cb p.1.body ∧ (∀ g o, ab = some ⟨g, o, none⟩ → w.heap.size ≤ g) ∧
      WentD w rb (MineD rb vl vn vb (p :: P)) { d with L := P.map (fun p => (p.1, p.2.2)), cnt := d.cnt - p.2.2 } w' := by
  have HR := hide h
  obtain ⟨c0, _, _, _, _, c9, _⟩ := h.box.cell
  have hlt := h.box.lt
  have f0 := h.box.free 0
  obtain ⟨gl, cap, cur, el, _, hg, hnc, hcm, hcs, hcur⟩ : ∃ gl cap cur, vl = .slice (some ⟨gl, 0, none⟩) (P.length + 1) cap ∧ 0 ≤ gl ∧ w.heap[gl]? = some (.cells cur 60 (0, 0)) ∧ P.length + 1 ≤ cap ∧ cap ≤ maxLen ∧ cur.size = cap * 6 ∧ cur.toList.take ((P.length + 1) * 6) = flatO (p :: P) := by
    rcases h.row.2 with ⟨_, h0⟩ | h0
    · cases h0
    · exact h0
  subst el
  obtain ⟨ao, co, eo, io⟩ := (h.bodies p (List.mem_cons_self ..)).shape
  have hcell : ∀ j u, (flatO (p :: P))[j]? = some u → w.cell? ⟨gl, j, none⟩ = some u := fun j u hj => by
    rw [← hcur] at hj
    refine cells_at hg ?_
    rw [List.getElem?_take] at hj
    split at hj
    · simpa using hj
    · cases hj
  have hglt := (Array.getElem?_eq_some_iff.1 hg).1
  have hrange : w.rangeAt gl 0 (oneC p) := fun j u hj => by
    rw [Nat.zero_add]
    refine hcell j u ?_
    show (oneC p ++ flatO P)[j]? = _
    rw [List.getElem?_append_left (List.getElem?_eq_some_iff.1 hj).1]
    exact hj
  have HCE : Hid (∀ j u, (flatO P)[j]? = some u → w.cell? ⟨gl, 6 + j, none⟩ = some u) := fun j u hj => by
    refine hcell (6 + j) u ?_
    show (oneC p ++ flatO P)[6 + j]? = _
    rw [List.getElem?_append_right (by simp [oneC])]
    simpa [oneC] using hj
  have HRG : Hid (∀ X, Below w.heap.size w X → X.rangeAt gl 0 (oneC p)) := fun X hX j u hj => by
    rw [hX.cell (p := ⟨gl, 0 + j, none⟩) hglt]
    exact hrange j u hj
  have hp0 : (0 : Int) < (P.length : Int) + 1 := by omega
  have hpl : P.length + 1 ≤ 9223372036854775807 := by omega
  have HIO := hide io
  clear h hcur hcell hrange hcs hg io
  unfold maxLen at hcm
  go_enter Tryd.func24, Tryd.ntmps24
  go_upto_region 1 with fail
  have B0 : Hid (Below w.heap.size w (w.alloc (.cells #[.int .i64 0, .int .i64 0, .int .i64 0, .string ⟨#[]⟩, .slice none 0 0] 45))) := (Below.refl _ w).alloc (Nat.le_refl _) _
  have R0 : Hid (RepB (w.alloc (.cells #[.int .i64 0, .int .i64 0, .int .i64 0, .string ⟨#[]⟩, .slice none 0 0] 45)) w.heap.size rp0) := heap_alloc_new _ _
  generalize w.alloc (.cells #[.int .i64 0, .int .i64 0, .int .i64 0, .string ⟨#[]⟩, .slice none 0 0] 45) = W0 at B0 R0 ⊢
  obtain ⟨xr, hxr⟩ : ∃ x, x = w.heap.size := ⟨_, rfl⟩
  have HXR := hide hxr
  rw [← hxr] at R0
  rw [← hxr]
  have k0 : W0.cell? ⟨rb, 0, none⟩ = some (.slice (some ⟨gl, 0, none⟩) (P.length + 1) cap) := (B0.out.cell (p := ⟨rb, 0, none⟩) hlt).trans c0
  have hlt0 : rb < W0.heap.size := Nat.lt_of_lt_of_le hlt B0.out.size
  have hone : (oneC p).toArray.all (·.oneCell') = true := by simp [oneC, eo, Value.oneCell']
  have HON := hide hone
  clear hxr c0 c9 f0 hone
  go_upto_region 3 with (first
    | (refine wpList_load_mid rfl 60 (.tmp 16) rfl gl 0 rfl (oneC p) _ (HRG.out _ B0.out) Tryd.underlying60 rfl rfl ?_)
    | (refine wpList_store_row rfl 60 (.tmp 5) (.tmp 17) rfl W0.heap.size (oneC p).toArray rfl rfl 60 #[.int .i64 0, .int .i64 0, .int .i64 0, .string ⟨#[]⟩, .slice none 0 0, .int .i64 0] (heap_alloc_new W0 _) (by kernel_rfl) rfl HON.out ?_))
  obtain ⟨bN, xN⟩ : Below W0.heap.size W0 ((W0.alloc (.cells #[.int .i64 0, .int .i64 0, .int .i64 0, .string ⟨#[]⟩, .slice none 0 0, .int .i64 0] 60)).setRow W0.heap.size (oneC p).toArray) ∧ ((W0.alloc (.cells #[.int .i64 0, .int .i64 0, .int .i64 0, .string ⟨#[]⟩, .slice none 0 0, .int .i64 0] 60)).setRow W0.heap.size (oneC p).toArray).heap[W0.heap.size]? = some (.cells (oneC p).toArray 60 (0, 0)) :=
    ⟨below_setRow ((Below.refl _ W0).alloc (Nat.le_refl _) _) (Nat.le_refl _) _, setRow_heap _ _ _ _ _ _ (heap_alloc_new W0 _)⟩
  have BN := hide (B0.out.trans (bN.mono B0.out.size))
  have RN := hide (R0.out.below bN)
  generalize (W0.alloc (.cells #[.int .i64 0, .int .i64 0, .int .i64 0, .string ⟨#[]⟩, .slice none 0 0, .int .i64 0] 60)).setRow W0.heap.size (oneC p).toArray = W2 at bN xN BN RN ⊢
  obtain ⟨xb, hxb⟩ : ∃ x, x = W0.heap.size := ⟨_, rfl⟩
  rw [← hxb] at xN ⊢
  have XN := hide xN
  have hxrb : xr ≠ xb := by have := (Array.getElem?_eq_some_iff.1 R0.out).1; omega
  have HXB : Hid (w.heap.size ≤ xb) := (by rw [hxb]; exact B0.out.size : w.heap.size ≤ xb)
  have H2 := hide (HR.out.below BN.out)
  have z0 := H2.out.box.cell.1
  have zf := H2.out.box.free 0
  have zl := H2.out.box.lt
  clear bN xN hxb k0 hlt0 hlt B0 R0
  have HC2 : Hid (∀ X, Below W2.heap.size W2 X → ∀ j u, (flatO P)[j]? = some u → X.cell? ⟨gl, 6 + j, none⟩ = some u) := fun X hX j u hj => by
    have g2 : gl < W2.heap.size := Nat.lt_of_lt_of_le hglt BN.out.size
    rw [hX.cell (p := ⟨gl, 6 + j, none⟩) g2, BN.out.cell (p := ⟨gl, 6 + j, none⟩) hglt]
    exact HCE.out j u hj
  simp only [Act.put]
  go_cut [] from 18 to 27 (fun wx => ∃ v', Hid (RcAt wx rb v' vn vb P { d with L := P.map (fun p => (p.1, p.2.2)) } ∧ Kept (fun k => k = rb) W2 wx ∧ ∀ k, v'.ownBlock = some k → W2.heap.size ≤ k))
  case first =>
    have hE : Hid ((W2.alloc (.cells #[] 60)).ownsRow 0 60 6 (.slice (some ⟨W2.heap.size, 0, none⟩) 0 0) 0 []) := ⟨rfl, .inr ⟨W2.heap.size, 0, #[], rfl, Nat.zero_le _, heap_alloc_new _ _, Nat.le_refl _, Nat.zero_le _, rfl, rfl⟩⟩
    have hNews : Hid (∀ ad : Addr, (P ≠ [] → ad = ⟨gl, 6, none⟩) → ∀ j u, (flatO P)[j]? = some u → (W2.alloc (.cells #[] 60)).cell? (ad.add j) = some u) := fun ad hD j u hj => by
      rw [hD (by rintro rfl; simp [flatO] at hj), Go.WideShapes.add_plain]
      exact HC2.out _ ((Below.refl _ W2).alloc (Nat.le_refl _) _) j u hj
    have hOnes : Hid (∀ u ∈ flatO P, u.oneCell' = true) := by
      intro u hu
      obtain ⟨x, hx, hux⟩ := List.mem_flatMap.1 hu
      obtain ⟨a8, c8, e8, _⟩ := (HR.out.bodies x (List.mem_cons_of_mem _ hx)).shape
      simp [oneC, e8] at hux
      rcases hux with rfl | rfl | rfl | rfl | rfl | rfl <;> rfl
    have j1 : (1 : Int) ≤ (P.length : Int) + 1 := by omega
    by_cases hc1 : cap = 1
    · subst hc1
      have hyp : Hid (P ≠ [] → (⟨gl, 0, none⟩ : Addr) = ⟨gl, 6, none⟩) := fun hne => absurd (List.eq_nil_of_length_eq_zero (by omega)) hne
      clear hnc
      go_wp2_with (refine wpList_oapp rfl (.tmp 19) (.tmp 24) rfl (.slice (some ⟨W2.heap.size, 0, none⟩) 0 0) 0 [] rfl hE.out (some ⟨gl, 0, none⟩) P.length 0 (flatO P) rfl (oneC_len P) (.inr ⟨_, rfl, hNews.out _ hyp.out⟩) hOnes.out (by omega) ?_; intro v' w' q1 q2 q3; rw [Nat.zero_add, List.nil_append] at q1; have N := hide (next_set H2.out q1 q2 q3); obtain ⟨ax, nx, cx, rfl⟩ := rowSlice q1; clear q1 q2 q3; have x0 := N.out.1.cell.1; have u0 := N.out.1.free 0; have l0 := N.out.1.lt)
      go_meet
      exact ⟨_, N.out.2⟩
    · have hyp : Hid (P ≠ [] → (⟨gl, 6, none⟩ : Addr) = ⟨gl, 6, none⟩) := fun _ => rfl
      have hnc2 : 1 ≤ cap := by omega
      go_wp2_with (refine wpList_oapp rfl (.tmp 19) (.tmp 24) rfl (.slice (some ⟨W2.heap.size, 0, none⟩) 0 0) 0 [] rfl hE.out (some ⟨gl, 6, none⟩) P.length (cap - 1) (flatO P) rfl (oneC_len P) (.inr ⟨_, rfl, hNews.out _ hyp.out⟩) hOnes.out (by omega) ?_; intro v' w' q1 q2 q3; rw [Nat.zero_add, List.nil_append] at q1; have N := hide (next_set H2.out q1 q2 q3); obtain ⟨ax, nx, cx, rfl⟩ := rowSlice q1; clear q1 q2 q3; have x0 := N.out.1.cell.1; have u0 := N.out.1.free 0; have l0 := N.out.1.lt)
      go_meet
      exact ⟨_, N.out.2⟩
  case rest =>
    obtain ⟨v', H3⟩ := hcut
    have hxrb2 : xb ≠ rb := by have := HR.out.box.lt; have := HXB.out; omega
    have hxrr : xr ≠ rb := by have := HR.out.box.lt; have := HXR.out; omega
    have X3 := hide ((H3.out.2.1.block xb (Array.getElem?_eq_some_iff.1 XN.out).1 (fun e => hxrb2 e)).trans XN.out)
    have R3 : Hid (RepB wc xr rp0) := (H3.out.2.1.block xr (Array.getElem?_eq_some_iff.1 RN.out).1 (fun e => hxrr e)).trans RN.out
    have H3r := hide H3.out.1
    have K3 := hide H3.out.2.1
    have N3 := hide H3.out.2.2
    have HI2 := hide (HIO.out.below BN.out)
    have HXL : Hid (xb < W2.heap.size ∧ xr < W2.heap.size) := ⟨(Array.getElem?_eq_some_iff.1 XN.out).1, (Array.getElem?_eq_some_iff.1 RN.out).1⟩
    have KW2 : Hid (Kept (fun k => k = rb) w W2) := Kept.ofBelow BN.out
    clear H3 H2 BN RN z0 zf zl HC2 HCE HRG
    have q9 : wc.cell? ⟨rb, 9, none⟩ = some (.int .i64 (d.cnt : Int)) := H3r.out.box.cell.2.2.2.2.2.1
    have p9 := H3r.out.box.free 9
    have l9 := H3r.out.box.lt
    have q5 : wc.cell? ⟨xb, 5, none⟩ = some (.int .i64 (p.2.2 : Int)) := cells_at X3.out rfl
    go_upto_region 4 with fail
    go_cut [] from 28 to 37 (fun wx => wx = wc.drew.setCell ⟨rb, 9, none⟩ (.int .i64 ((d.cnt : Int) - (p.2.2 : Int))))
    case first =>
      go_region
      all_goals go_wp2_with fail
      all_goals go_meet
      all_goals rfl
    case rest =>
      subst hcut
      have H4 := (H3r.out.below (Below.refl _ wc).drew).cntN ((d.cnt : Int) - (p.2.2 : Int)) (d.cnt - p.2.2) (by omega)
      have K4 : Kept (fun k => k = rb) W2 (wc.drew.setCell ⟨rb, 9, none⟩ (.int .i64 ((d.cnt : Int) - (p.2.2 : Int)))) := (K3.out.trans (Kept.ofBelow (P := fun k => k = rb) (Below.refl _ wc).drew)).trans (keptR _ rb 9 _)
      have X4 : (wc.drew.setCell ⟨rb, 9, none⟩ (.int .i64 ((d.cnt : Int) - (p.2.2 : Int)))).heap[xb]? = some (.cells (oneC p).toArray 60 (0, 0)) := (Below.heap_setCell wc.drew ⟨rb, 9, none⟩ _ xb hxrb2).trans X3.out
      have R4 : RepB (wc.drew.setCell ⟨rb, 9, none⟩ (.int .i64 ((d.cnt : Int) - (p.2.2 : Int)))) xr rp0 := (Below.heap_setCell wc.drew ⟨rb, 9, none⟩ _ xr hxrr).trans R3.out
      clear H3r K3 X3 R3 q9 p9 l9 q5
      generalize wc.drew.setCell ⟨rb, 9, none⟩ (.int .i64 ((d.cnt : Int) - (p.2.2 : Int))) = V at H4 K4 X4 R4 ⊢
      have hbn : p.2.1.ownBlock ≠ some rb := HR.out.box.ne (HR.out.bodies p (List.mem_cons_self ..)) (by decide)
      rw [eo] at hbn
      have IV := hide ((HI2.out.kept K4 (fun b o e _ e2 => hbn (by rw [e, e2]; rfl))).below ((Below.refl _ V).alloc (Nat.le_refl _) (.cells #[] 5)))
      have OE := hide (emptyOwn V)
      have HH4 := hide H4
      have KK4 := hide K4
      have XX4 := hide X4
      have RR4 := hide R4
      have y4 : V.cell? ⟨xb, 4, none⟩ = some (.slice ao p.1.body.length co) := by
        rw [← eo]
        exact cells_at X4 rfl
      have yl := (Array.getElem?_eq_some_iff.1 X4).1
      have EO := hide eo
      clear H4 K4 X4 R4 hbn eo
      go_upto_region 6 with (refine wpList_append8 rfl (.tmp 38) (.tmp 41) rfl 0 (.slice (some ⟨V.heap.size, 0, none⟩) 0 0) [] rfl OE.out ao co p.1.body rfl IV.out (by simp only [List.length_nil]; omega) (Nat.zero_le _) ?_; intro v6 w6 o6 g6 _ hv6 _; have HV6 := hide hv6; clear hv6; rw [List.nil_append] at o6; have K6 : Hid (Kept (fun _ => False) V w6) := (Kept.ofBelow (P := fun _ => False) ((Below.refl _ V).alloc (Nat.le_refl _) (.cells #[] 5))).step (Kept.ofGrown (P := fun k => k = V.heap.size) g6 (fun k e => (Option.some.inj e).symm)) (fun q hq e => by omega); have X6 := hide ((K6.out.block xb yl (fun e => e)).trans XX4.out); obtain ⟨a6, c6, e6, _⟩ := o6.shape; subst e6; have O6 := hide o6; clear o6 g6; have t4 : (w6.cell? ⟨xb, 4, none⟩).isSome = true := (by rw [cells_at X6.out (i := 4) rfl]; rfl); have t5 := cells_at X6.out (i := 4) rfl; have tf : w6.frozen? ⟨xb, 4, none⟩ = false := (by have := X6.out; simp [World.frozen?, this]); have tl := (Array.getElem?_eq_some_iff.1 X6.out).1)
      have X7 := hide ((set_cells X6.out 4 (.slice a6 p.1.body.length c6)).1)
      have K7 : Hid (Kept (fun k => k = xb) w6 (w6.setCell ⟨xb, 4, none⟩ (.slice a6 p.1.body.length c6))) := keptR w6 xb 4 _
      generalize w6.setCell ⟨xb, 4, none⟩ (.slice a6 p.1.body.length c6) = w7 at X7 K7 ⊢
      have R7 := hide ((K7.out.block xr (Nat.lt_of_lt_of_le (Array.getElem?_eq_some_iff.1 RR4.out).1 K6.out.size) (fun e => hxrb e)).trans ((K6.out.block xr (Array.getElem?_eq_some_iff.1 RR4.out).1 (fun e => e)).trans RR4.out))
      have hr7 : Hid (w7.rangeAt xb 0 [.int .i64 p.1.kind, .int .i64 p.1.id, .int .i64 p.1.num, .string ⟨p.1.tube.toArray⟩, .slice a6 p.1.body.length c6]) := by
        intro j u hj
        rw [Nat.zero_add]
        match j, hj with
        | 0, hj => cases hj; exact cells_at X7.out rfl
        | 1, hj => cases hj; exact cells_at X7.out rfl
        | 2, hj => cases hj; exact cells_at X7.out rfl
        | 3, hj => cases hj; exact cells_at X7.out rfl
        | 4, hj => cases hj; exact cells_at X7.out rfl
      clear t4 t5 tf tl y4 yl
      go_wp2_with (first
        | (refine wpList_load_mid rfl 45 (.tmp 45) rfl xb 0 rfl [.int .i64 p.1.kind, .int .i64 p.1.id, .int .i64 p.1.num, .string ⟨p.1.tube.toArray⟩, .slice a6 p.1.body.length c6] _ hr7.out Tryd.underlying45 rfl rfl ?_)
        | (refine wpList_store_row rfl 45 (.tmp 2) (.tmp 46) rfl xr #[.int .i64 p.1.kind, .int .i64 p.1.id, .int .i64 p.1.num, .string ⟨p.1.tube.toArray⟩, .slice a6 p.1.body.length c6] rfl rfl 45 (rpC rp0) R7.out (by kernel_rfl) rfl (by simp [Value.oneCell']) ?_))
      refine bodyPost_ret (results_ctt_row rfl _ _ xr 45 _ (0, 0) _ rfl (setRow_heap _ _ _ _ _ _ R7.out) Tryd.underlying45 rfl (by kernel_rfl)) rfl ?_
      have K8 := keptRow w7 xr #[.int .i64 p.1.kind, .int .i64 p.1.id, .int .i64 p.1.num, .string ⟨p.1.tube.toArray⟩, .slice a6 p.1.body.length c6]
      have KV : Kept (fun k => k = xb ∨ k = xr) V (w7.setRow xr #[.int .i64 p.1.kind, .int .i64 p.1.id, .int .i64 p.1.num, .string ⟨p.1.tube.toArray⟩, .slice a6 p.1.body.length c6]) := ((K6.out.mono (fun _ _ e => e.elim)).step K7.out (fun q _ e => .inl e)).step K8 (fun q _ e => .inr e)
      have hmine : ∀ k, MineD rb v' vn vb P k → MineD rb (.slice (some ⟨gl, 0, none⟩) (P.length + 1) cap) vn vb (p :: P) k ∨ W2.heap.size ≤ k := by
        rintro k (e | e | e | e | ⟨x, hx, e⟩)
        · exact .inl (.inl e)
        · exact .inr (N3.out k e)
        · exact .inl (.inr (.inr (.inl e)))
        · exact .inl (.inr (.inr (.inr (.inl e))))
        · exact .inl (.inr (.inr (.inr (.inr ⟨x, List.mem_cons_of_mem _ hx, e⟩))))
      have byte : ∀ {v : Value} {l : List UInt8}, Own V 0 v l → ∀ k, v.ownBlock = some k → ¬ (k = xb ∨ k = xr) := by
        intro v l ho k hk e
        obtain ⟨cur, hg⟩ := rowLt ho k hk
        have h1 := XX4.out
        have h2 := RR4.out
        unfold RepB at h2
        rcases e with rfl | rfl
        · rw [h1] at hg; simp at hg
        · rw [h2] at hg; simp at hg
      have hap : ∀ k, MineD rb v' vn vb P k → ¬ (k = xb ∨ k = xr) := by
        rintro k (e | e | e | e | ⟨x, hx, e⟩) e2
        · rcases e2 with e2 | e2
          · exact hxrb2 (by rw [← e2, e])
          · exact hxrr (by rw [← e2, e])
        · have := N3.out k e
          have := HXL.out.1
          have := HXL.out.2
          omega
        · exact byte HH4.out.line k e e2
        · exact byte HH4.out.body k e e2
        · exact byte (HH4.out.bodies x hx) k e e2
      refine ⟨a6, c6, rfl, ?_, ?_, v', vn, vb, P, ?_, ?_, fun k hk => (hmine k hk).elim .inl (fun q => .inr (Nat.le_trans KW2.out.size q))⟩
      · have K78 : Kept (fun k => k = xb ∨ k = xr) w6 (w7.setRow xr #[.int .i64 p.1.kind, .int .i64 p.1.id, .int .i64 p.1.num, .string ⟨p.1.tube.toArray⟩, .slice a6 p.1.body.length c6]) := (K7.out.mono (fun _ _ e => .inl e)).step K8 (fun q _ e => .inr e)
        have o8 := rowKept O6.out K78 (fun k hk e => by
          obtain ⟨cur, hg⟩ := rowLt O6.out k hk
          have h1 := X6.out
          have h2 := (K6.out.block xr (Array.getElem?_eq_some_iff.1 RR4.out).1 (fun e => e)).trans RR4.out
          rcases e with rfl | rfl
          · rw [h1] at hg; simp at hg
          · rw [h2] at hg; simp at hg)
        obtain ⟨a8, c8, e8, i8⟩ := Own.shape o8
        simp only [Value.slice.injEq] at e8
        obtain ⟨rfl, _, rfl⟩ := e8
        exact i8
      · rintro g o rfl
        have h1 := KW2.out.size
        have h2 := KK4.out.size
        have hV : (V.alloc (.cells #[] 5)).heap.size = V.heap.size + 1 := by simp
        rcases HV6.out with e | e
        · simp only [Value.ownBlock, Option.some.injEq] at e
          omega
        · simp only [Value.ownBlock, Option.some.injEq] at e
          omega
      · exact HH4.out.kept KV hap
      · exact (((KW2.out.mono (fun _ _ e => .inl e)).step KK4.out (fun q _ e => .inl e)).step KV (fun q hq e => by have := HXB.out; have := HXR.out; omega))
end Go.Proofs.YtomgnailgddchaaDoor
