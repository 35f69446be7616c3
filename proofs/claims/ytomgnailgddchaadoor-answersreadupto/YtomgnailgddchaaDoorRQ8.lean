/-
  The walk of the document's done.
-/
import Derived.Test.YtomgnailgddchaaDoorRQ7
import Derived.Test.YtomgnailgddchaaDoorHand
import Derived.Great.BuildSlice
namespace Go.Proofs.YtomgnailgddchaaDoor
open Go.RowKit Go.Sort

theorem run_loadMid8 {P : Program} {o : Oper} {a : Act} {w : World} {ty : TypeId} {x : Operand} {b k : Nat} {cs : List Value} {d : TypeDesc} (ho : o.op = .load ty x) (hx : a.eval x = .pointer (some ⟨b, k, none⟩)) (hc : w.rangeAt b k cs) (hu : P.underlying ty = some d) (hd : d.isRow = true) (hi : (P.info? ty).map (·.size) = some cs.length) :
    (execOp a.eval o).run P w = .ok (.value (.agg cs.toArray)) w := by
  unfold execOp
  simp only [ho, hx, Instr.loadAt, Instr.sureAddr, Sem.run_bind, Sem.run_pure, Result.andThen_ok, run_loadVar_mid w b k ty cs d hc hu hd hi]
/-- A slice of one thing that came is made. -/
theorem run_made6 {o : Oper} {a : Act} {w : World} {u : Operand} (ho : o.op = .buildSlice 52 1 #[(0, u)]) {x0 x1 x2 x5 : Int} {x3 : ByteArray} {ab : Option Addr} {nb cb : Nat} (hx : a.eval u = .agg #[.int .i64 x0, .int .i64 x1, .int .i64 x2, .string x3, .slice ab nb cb, .int .i64 x5]) :
    (execOp a.eval o).run Tryd.prog w = .ok (.value (.slice (some ⟨w.heap.size, 0, none⟩) 1 1)) (w.alloc (.cells #[.int .i64 x0, .int .i64 x1, .int .i64 x2, .string x3, .slice ab nb cb, .int .i64 x5] 60)) := by
  obtain ⟨i0, h0, h1, h2, h3⟩ := info_parts info_oneD
  have := run_buildSlice (P := Tryd.prog) w 52 60 1 #[(0, .agg #[.int .i64 x0, .int .i64 x1, .int .i64 x2, .string x3, .slice ab nb cb, .int .i64 x5])] #[.int .i64 x0, .int .i64 x1, .int .i64 x2, .string x3, .slice ab nb cb, .int .i64 x5] i0 _ Tryd.underlying52 h0 h1 (by rw [h2]; decide) (by rw [h2]; decide) (by rw [h2]; kernel_rfl)
  unfold execOp
  simp only [ho, Sem.run_bind, Sem.run_pure, Result.andThen_ok, List.map_toArray, List.map_cons, List.map_nil, hx, this]
theorem run_storeO {o : Oper} {a : Act} {w : World} {x y : Operand} {b i : Nat} {ad : Option Addr} {n c : Nat} {u : Value} (ho : o.op = .store 52 x y) (hx : a.eval x = .pointer (some ⟨b, i, none⟩)) (hy : a.eval y = .slice ad n c) (hc : w.cell? ⟨b, i, none⟩ = some u) (hf : w.frozen? ⟨b, i, none⟩ = false) :
    (execOp a.eval o).run Tryd.prog w = .ok .skip (w.setCell ⟨b, i, none⟩ (.slice ad n c)) := by
  simp only [execOp, ho, hx, hy]
  go_simp

/-- 'append' of one that came. -/
theorem push_one (w : World) (v : Value) (P : List PO) (p : PO) (g : Nat) (hown : w.ownsRow 0 60 6 v P.length (flatO P)) (hP : P.length ≤ 1073741823) (hg : w.heap[g]? = some (.cells (oneC p).toArray 60 (0, 0))) (h1 : p.2.1.oneCell' = true) :
    ∃ v' w', (∀ (o : Oper) (a : Act) (s x : Operand), o.op = .call { callee := .builtin .append, args := #[s, x], argTypes := #[52, 52] } → a.eval s = v → a.eval x = .slice (some ⟨g, 0, none⟩) 1 1 → (execOp a.eval o).run Tryd.prog w = .ok (.value v') w') ∧
      w'.ownsRow 0 60 6 v' (P.length + 1) (flatO (P ++ [p])) ∧ w.grownBy w' v.ownBlock ∧ (v'.ownBlock = v.ownBlock ∨ v'.ownBlock = some w.heap.size) := by
  obtain ⟨i0, h0, hz0, hz1, hz2⟩ := info_parts info_oneD
  have hnews : ∀ j u, (oneC p)[j]? = some u → w.cell? ((⟨g, 0, none⟩ : Addr).add j) = some u := fun j u hj => by
    rw [Go.WideShapes.add_plain, Nat.zero_add]
    exact cells_at hg (by simpa using hj)
  obtain ⟨v', w', hr, q1, q2, q3, q4, q5⟩ := run_append_keepsG (P := Tryd.prog) w 6 0 52 52 60 i0 _ Tryd.underlying52 h0 hz0 hz1 rfl v P.length (flatO P) hown (some ⟨g, 0, none⟩) 1 1 (oneC p) rfl (.inr ⟨_, rfl, hnews⟩)
    (by
      intro u hu
      simp [oneC] at hu
      rcases hu with rfl | rfl | rfl | rfl | rfl | rfl
      · rfl
      · rfl
      · rfl
      · rfl
      · exact h1
      · rfl) (by unfold maxLen; omega) (by rw [hz2]; omega) (Nat.zero_le _)
  refine ⟨v', w', fun o a s x ho hs hx => ?_, by rw [flatO_snoc]; exact q1, q2, q4⟩
  have hr2 : (Builtin.append_ #[52, 52] o.type #[v, .slice (some ⟨g, 0, none⟩) 1 1]).run Tryd.prog w = .ok v' w' := hr
  unfold execOp
  simp only [ho, resolve, invoke, builtin, Sem.run_bind, Sem.run_pure, Result.andThen_ok, List.map_toArray, List.map_cons, List.map_nil, hs, hx, hr2]
theorem rowSlice {w : World} {e sz n : Nat} {v : Value} {xs : List Value} (h : w.ownsRow 0 e sz v n xs) : ∃ a k c, v = .slice a k c := by
  rcases h.2 with ⟨rfl, _⟩ | ⟨g, cap, cur, rfl, _⟩
  · exact ⟨_, _, _, rfl⟩
  · exact ⟨_, _, _, rfl⟩
/-- Behind the append and the store. -/
structure D3 (w W : World) (rb : Nat) (vl vn vb v' : Value) (P : List PO) (d : Dc) (z : Nat) : Prop where
  box : RcBox W rb v' vn d.inB d.r vb d.left d.cnt d.bad
  row : W.ownsRow 0 60 6 v' (P.length + 1) (flatO (P ++ [(d.r, vb, z)]))
  kept : Kept (fun k => k = rb ∨ vl.ownBlock = some k) w W
  new : v'.ownBlock = vl.ownBlock ∨ ∃ k, v'.ownBlock = some k ∧ w.heap.size ≤ k
theorem done_set {w W2 w' : World} {rb : Nat} {vl vn vb v' : Value} {P : List PO} {d : Dc} {z : Nat} (h : RcAt w rb vl vn vb P d) (hW : Below w.heap.size w W2) (q1 : w'.ownsRow 0 60 6 v' (P.length + 1) (flatO (P ++ [(d.r, vb, z)]))) (q2 : W2.grownBy w' vl.ownBlock) (q3 : v'.ownBlock = vl.ownBlock ∨ v'.ownBlock = some W2.heap.size) :
    (w'.cell? ⟨rb, 0, none⟩ = some vl ∧ w'.frozen? ⟨rb, 0, none⟩ = false) ∧ D3 w (w'.setCell ⟨rb, 0, none⟩ v') rb vl vn vb v' P d z := by
  have k1 : Kept (fun k => k = rb ∨ vl.ownBlock = some k) w W2 := Kept.ofBelow hW
  have k2 : Kept (fun k => vl.ownBlock = some k) W2 w' := Kept.ofGrown q2 (fun _ e => e)
  have b1 := (h.below hW).box
  have b2 := b1.kept k2 (fun e => (h.below hW).box.ne (h.below hW).row (by decide) e)
  refine ⟨⟨b2.cell.1, b2.free 0⟩, ?_, ?_, (k1.step k2 (fun k _ e => .inr e)).step (Kept.setCell (fun k => k = rb) _ rb 0 v' rfl) (fun k _ e => .inl e), ?_⟩
  · unfold RcBox
    rw [(set_cells b2 0 v').1]
    simp
  · exact rowKept q1 (Kept.setCell (fun k => k = rb) _ rb 0 v' rfl) (fun k hk e => b2.ne q1 (by decide) (by rw [hk, e]))
  · rcases q3 with e | e
    · exact .inl e
    · exact .inr ⟨_, e, hW.size⟩
def zR : List Value := [.int .i64 0, .int .i64 0, .int .i64 0, .string ⟨#[]⟩, .slice none 0 0]
theorem D3.done {w W : World} {rb : Nat} {vl vn vb v' : Value} {P : List PO} {d : Dc} {z : Nat} (h0 : RcAt w rb vl vn vb P d) (hz : z = d.line.length + (if d.inB = true then d.r.body.length + 2 else 0)) (h : D3 w W rb vl vn vb v' P d z) :
    WentD w rb (MineD rb vl vn vb P) (doneR d) (((W.setCell ⟨rb, 1, none⟩ (.slice none 0 0)).setCell ⟨rb, 2, none⟩ (.bool false)).setCells rb 3 zR) := by
  have KR : ∀ (X : World) (j : Nat) (v : Value), Kept (fun k => k = rb) X (X.setCell ⟨rb, j, none⟩ v) := fun X j v => Kept.setCell _ X rb j v rfl
  have K : Kept (fun k => k = rb) W (((W.setCell ⟨rb, 1, none⟩ (.slice none 0 0)).setCell ⟨rb, 2, none⟩ (.bool false)).setCells rb 3 zR) := by
    unfold zR
    simp only [World.setCells]
    exact ((((((KR _ _ _).trans (KR _ _ _)).trans (KR _ _ _)).trans (KR _ _ _)).trans (KR _ _ _)).trans (KR _ _ _)).trans (KR _ _ _)
  have B : RcBox (((W.setCell ⟨rb, 1, none⟩ (.slice none 0 0)).setCell ⟨rb, 2, none⟩ (.bool false)).setCells rb 3 zR) rb v' (.slice none 0 0) false rp0 (.slice none 0 0) d.left d.cnt d.bad := by
    have b0 := h.box
    unfold RcBox at b0 ⊢
    unfold zR
    simp only [World.setCells]
    have b1 := (set_cells b0 1 (.slice none 0 0)).1
    have b2 := (set_cells b1 2 (.bool false)).1
    have b3 := (set_cells b2 3 (.int .i64 0)).1
    have b4 := (set_cells b3 (3 + 1) (.int .i64 0)).1
    have b5 := (set_cells b4 (3 + 1 + 1) (.int .i64 0)).1
    have b6 := (set_cells b5 (3 + 1 + 1 + 1) (.string ⟨#[]⟩)).1
    have b7 := (set_cells b6 (3 + 1 + 1 + 1 + 1) (.slice none 0 0)).1
    rw [b7]
    simp [rp0]
  have KA : Kept (fun k => k = rb ∨ vl.ownBlock = some k) w (((W.setCell ⟨rb, 1, none⟩ (.slice none 0 0)).setCell ⟨rb, 2, none⟩ (.bool false)).setCells rb 3 zR) := h.kept.step K (fun k _ e => .inl e)
  have bytes : ∀ {v : Value} {l : List UInt8}, Own w 0 v l → Own (((W.setCell ⟨rb, 1, none⟩ (.slice none 0 0)).setCell ⟨rb, 2, none⟩ (.bool false)).setCells rb 3 zR) 0 v l := fun ho => rowKept ho KA (fun k hk e => by
    rcases e with rfl | e
    · exact h0.box.ne ho (by decide) hk
    · exact rowNe ho h0.row (by decide) k hk e)
  generalize ((W.setCell ⟨rb, 1, none⟩ (.slice none 0 0)).setCell ⟨rb, 2, none⟩ (.bool false)).setCells rb 3 zR = W4 at *
  refine ⟨v', .slice none 0 0, .slice none 0 0, P ++ [(d.r, vb, z)], ⟨B, Own.nil _ _, Own.nil _ _, ?_, ?_, ?_, fun k e => (by cases e), fun k e => (by cases e)⟩, KA.mono (fun k _ e => ?_), ?_⟩
  · have := rowKept h.row K (fun k hk e => h.box.ne h.row (by decide) (by rw [hk, e]))
    rw [List.length_append]
    exact this
  · show d.L ++ _ = _
    rw [h0.list, List.map_append, hz]
    rfl
  · intro p hp
    rcases List.mem_append.1 hp with hp | hp
    · exact bytes (h0.bodies p hp)
    · rw [List.mem_singleton.1 hp]
      exact bytes h0.body
  · rcases e with rfl | e
    · exact .inl rfl
    · exact .inr (.inl e)
  · rintro k (rfl | hk | hk | hk | ⟨p, hp, hk⟩)
    · exact .inl (.inl rfl)
    · rcases h.new with e | ⟨j, e, hj⟩
      · exact .inl (.inr (.inl (e.symm.trans hk)))
      · rw [e] at hk
        cases hk
        exact .inr hj
    · cases hk
    · cases hk
    · rcases List.mem_append.1 hp with hp | hp
      · exact .inl (.inr (.inr (.inr (.inr ⟨p, hp, hk⟩))))
      · rw [List.mem_singleton.1 hp] at hk
        exact .inl (.inr (.inr (.inr (.inl hk))))

set_option maxHeartbeats 4000000 in
set_option maxRecDepth 1000000 in
theorem done_any (w : World) (rb : Nat) (vl vn vb : Value) (P : List PO) (d : Dc) (h : RcAt w rb vl vn vb P d) (hP : P.length ≤ 1073741823) (hl : d.line.length ≤ 1099511627776) (hb : d.r.body.length ≤ 1099511627776) :
    Calls Tryd.prog 42 #[.pointer (some ⟨rb, 0, none⟩)] w fun e w' => e = .returned (.tuple #[]) ∧ WentD w rb (MineD rb vl vn vb P) (doneR d) w' := by
  have HR := hide h
  obtain ⟨c0, c1, c2, c7, c8, c9, c10⟩ := h.box.cell
  have hlt := h.box.lt
  obtain ⟨an, cn, en, _⟩ := h.line.shape
  obtain ⟨ab, cb, eb, _⟩ := h.body.shape
  have HEN := hide en
  have HEB := hide eb
  rw [en] at c1
  rw [eb] at c7
  obtain ⟨z, hz⟩ : ∃ z, z = d.line.length + (if d.inB = true then d.r.body.length + 2 else 0) := ⟨_, rfl⟩
  have HZ := hide hz
  have HM : Hid (∀ X, Below w.heap.size w X → X.rangeAt rb 3 [.int .i64 d.r.kind, .int .i64 d.r.id, .int .i64 d.r.num, .string ⟨d.r.tube.toArray⟩, vb]) := fun X hX => (h.below hX).box.mid
  have HV : Hid (w.drew.cell? ⟨rb, 0, none⟩ = some vl) := c0
  clear h en eb
  go_enter Tryd.func42, Tryd.ntmps42
  go_upto_if 11 with fail
  go_cut [2] from 11 to 20 (fun s wx => s = .int .i64 (z : Int) ∧ wx = w)
  case first =>
    cases hi : d.inB with
    | true =>
      rw [hi] at c2 hz
      go_wp2_with fail
      go_meet
      have hz2 : (z : Int) = (d.line.length : Int) + d.r.body.length + 2 := by rw [hz]; simp; omega
      exact ⟨by rw [hz2], rfl⟩
    | false =>
      rw [hi] at c2 hz
      go_wp2_with fail
      go_meet
      have hz2 : (z : Int) = (d.line.length : Int) := by rw [hz]; simp
      exact ⟨by rw [hz2], rfl⟩
  case rest =>
    obtain ⟨rfl, hw⟩ := hcut
    have hw := hw.symm
    subst hw
    clear hz
    go_upto_region 3 with fail
    go_cut [] from 21 to 35 (fun wx => ∃ v', Hid (D3 w wx rb vl vn vb v' P d z))
    case first =>
      have eb := HEB.out
      subst eb
      have W2b : Below w.heap.size w (w.drew.alloc (.cells #[.int .i64 d.r.kind, .int .i64 d.r.id, .int .i64 d.r.num, .string ⟨d.r.tube.toArray⟩, .slice ab d.r.body.length cb, .int .i64 (z : Int)] 60)) := ((Below.refl _ w).drew.alloc (Nat.le_refl _) _)
      have HV2 : Hid ((w.drew.alloc (.cells #[.int .i64 d.r.kind, .int .i64 d.r.id, .int .i64 d.r.num, .string ⟨d.r.tube.toArray⟩, .slice ab d.r.body.length cb, .int .i64 (z : Int)] 60)).cell? ⟨rb, 0, none⟩ = some vl) := (HR.out.below W2b).box.cell.1
      have HPU := hide (push_one _ vl P (d.r, .slice ab d.r.body.length cb, z) w.drew.heap.size (HR.out.below W2b).row hP (heap_alloc_new _ _) rfl)
      have HW2 := hide W2b
      clear W2b c0 c1 c2 c7 c8 c9 c10
      refine wp_region_any mixed ?_
      refine A_take (i := 0) (v := .pointer (some ⟨rb, 0, none⟩)) (some 21) rfl rfl (by kernel_rfl) (by kernel_rfl) (by kernel_rfl) (fun _ _ _ h => h) (.inl ⟨rfl, fun w => ?_⟩) ?_
      · simp [go_sem]
      simp only [Act.put, List.setIfInBounds_toArray, List.set_cons_zero, List.set_cons_succ]
      refine A_take (i := 1) (v := .pointer (some ⟨rb, 0, none⟩)) (some 22) rfl rfl (by kernel_rfl) (by kernel_rfl) (by kernel_rfl) (fun _ _ _ h => h) (.inl ⟨rfl, fun w => ?_⟩) ?_
      · simp [go_sem]
      simp only [Act.put, List.setIfInBounds_toArray, List.set_cons_zero, List.set_cons_succ]
      refine A_take (i := 2) (v := .pointer (some ⟨rb, 0, none⟩)) (some 23) rfl rfl (by kernel_rfl) (by kernel_rfl) (by kernel_rfl) (fun _ _ _ h => h) (.inl ⟨rfl, fun w => ?_⟩) ?_
      · simp [go_sem]
      simp only [Act.put, List.setIfInBounds_toArray, List.set_cons_zero, List.set_cons_succ]
      refine A_take (i := 3) (v := .pointer (some ⟨rb, 0, none⟩)) (some 24) rfl rfl (by kernel_rfl) (by kernel_rfl) (by kernel_rfl) (fun _ _ _ h => h) (.inl ⟨rfl, fun w => ?_⟩) ?_
      · simp [go_sem]
      simp only [Act.put, List.setIfInBounds_toArray, List.set_cons_zero, List.set_cons_succ]
      refine A_take (i := 5) (v := .pointer (some ⟨rb, 0, none⟩)) (some 26) rfl rfl (by kernel_rfl) (by kernel_rfl) (by kernel_rfl) (fun _ _ _ h => h) (.inl ⟨rfl, fun w => ?_⟩) ?_
      · simp [go_sem]
      simp only [Act.put, List.setIfInBounds_toArray, List.set_cons_zero, List.set_cons_succ]
      refine A_take (i := 6) (v := .pointer (some ⟨rb, 0, none⟩)) (some 27) rfl rfl (by kernel_rfl) (by kernel_rfl) (by kernel_rfl) (fun _ _ _ h => h) (.inl ⟨rfl, fun w => ?_⟩) ?_
      · simp [go_sem]
      simp only [Act.put, List.setIfInBounds_toArray, List.set_cons_zero, List.set_cons_succ]
      refine A_take (i := 7) (v := .pointer (some ⟨rb, 3, none⟩)) (some 28) rfl rfl (by kernel_rfl) (by kernel_rfl) (by kernel_rfl) (fun _ _ _ h => h) (.inl ⟨rfl, fun w => ?_⟩) ?_
      · simp [go_sem]
      simp only [Act.put, List.setIfInBounds_toArray, List.set_cons_zero, List.set_cons_succ]
      refine A_take (i := 9) (v := .int .i64 (z : Int)) (some 30) rfl rfl (by kernel_rfl) (by kernel_rfl) (by kernel_rfl) (fun _ _ _ h => h) (.inl ⟨rfl, fun w => ?_⟩) ?_
      · simp [go_sem]
      simp only [Act.put, List.setIfInBounds_toArray, List.set_cons_zero, List.set_cons_succ]
      have HC : Below w.heap.size w w.drew := (Below.refl _ w).drew
      refine C_take (i := 8) (v := (.agg #[.int .i64 d.r.kind, .int .i64 d.r.id, .int .i64 d.r.num, .string ⟨d.r.tube.toArray⟩, .slice ab d.r.body.length cb])) (Cl := Below w.heap.size w) (D := [10, 11, 12, 13, 14, 15]) (E := [4]) (some 29) rfl rfl (by kernel_rfl) (fun j hj oj ho => ?_) (fun _ _ _ h => h) HC ⟨rfl, fun X hX => ?_⟩ ?_
      · obtain rfl : j = 4 := by simpa using hj
        cases ho
        exact stays_loadC rfl Tryd.isAgg52
      · exact run_loadMid8 rfl rfl (HM.out X hX) Tryd.underlying45 rfl rfl
      simp only [Act.put, List.setIfInBounds_toArray, List.set_cons_zero, List.set_cons_succ]
      refine A_take (i := 10) (v := (.agg #[.int .i64 d.r.kind, .int .i64 d.r.id, .int .i64 d.r.num, .string ⟨d.r.tube.toArray⟩, .slice ab d.r.body.length cb, .int .i64 (z : Int)])) (some 31) rfl rfl (by kernel_rfl) (by kernel_rfl) (by kernel_rfl) (fun _ _ _ h => h) (.inl ⟨rfl, fun w => ?_⟩) ?_
      · simp [go_sem]
      simp only [Act.put, List.setIfInBounds_toArray, List.set_cons_zero, List.set_cons_succ]
      refine wpAny_all (rs := [4, 11]) (by kernel_rfl) (by decide) (fun i hi => ?_)
      have hi2 : i = 4 ∨ i = 11 := by simpa using hi
      rcases hi2 with rfl | rfl
      · refine op_value (v := vl) (w' := w.drew) rfl rfl (run_load1 rfl rfl Tryd.isAgg52 HV.out) ?_
        try dsimp only
        simp only [Act.put, List.setIfInBounds_toArray]
        refine wpAny_all (rs := [11]) (by kernel_rfl) (by decide) (fun i hi => ?_)
        obtain rfl : i = 11 := by simpa using hi
        refine op_value (v := .slice (some ⟨w.drew.heap.size, 0, none⟩) 1 1) rfl rfl (run_made6 rfl rfl) ?_
        try dsimp only
        simp only [Act.put]
        obtain ⟨v', w', hr, q1, q2, q4⟩ := HPU.out
        refine wpAny_all (rs := [12]) (by kernel_rfl) (by decide) (fun i hi => ?_)
        obtain rfl : i = 12 := by simpa using hi
        refine op_value (v := v') (w' := w') rfl rfl (hr _ _ _ _ rfl rfl rfl) ?_
        try dsimp only
        simp only [Act.put]
        refine A_take (i := 13) (v := .pointer (some ⟨rb, 0, none⟩)) (some 34) rfl rfl (by kernel_rfl) (by kernel_rfl) (by kernel_rfl) (fun _ _ _ h => h) (.inl ⟨rfl, fun w => ?_⟩) ?_
        · simp [go_sem]
        simp only [Act.put]
        refine A_take (i := 14) (v := .pointer (some ⟨rb, 0, none⟩)) (some 35) rfl rfl (by kernel_rfl) (by kernel_rfl) (by kernel_rfl) (fun _ _ _ h => h) (.inl ⟨rfl, fun w => ?_⟩) ?_
        · simp [go_sem]
        simp only [Act.put]
        obtain ⟨s1, s2⟩ := done_set HR.out HW2.out q1 q2 q4
        obtain ⟨ax, nx, cx, rfl⟩ := rowSlice q1
        refine wpAny_all (rs := [15]) (by kernel_rfl) (by decide) (fun i hi => ?_)
        obtain rfl : i = 15 := by simpa using hi
        refine D_skip rfl rfl rfl (run_storeO rfl rfl rfl s1.1 s1.2) ?_
        refine wpAny_done (by kernel_rfl) ?_ _
        have S2 := hide s2
        clear s1 s2 q1 q2 q4 hr
        go_wp2_with fail
        go_meet
        exact ⟨_, S2.out⟩
      · refine op_value (v := .slice (some ⟨w.drew.heap.size, 0, none⟩) 1 1) rfl rfl (run_made6 rfl rfl) ?_
        try dsimp only
        simp only [Act.put, List.setIfInBounds_toArray]
        refine wpAny_all (rs := [4]) (by kernel_rfl) (by decide) (fun i hi => ?_)
        obtain rfl : i = 4 := by simpa using hi
        refine op_value (v := vl) rfl rfl (run_load1 rfl rfl Tryd.isAgg52 HV2.out) ?_
        try dsimp only
        simp only [Act.put]
        obtain ⟨v', w', hr, q1, q2, q4⟩ := HPU.out
        refine wpAny_all (rs := [12]) (by kernel_rfl) (by decide) (fun i hi => ?_)
        obtain rfl : i = 12 := by simpa using hi
        refine op_value (v := v') (w' := w') rfl rfl (hr _ _ _ _ rfl rfl rfl) ?_
        try dsimp only
        simp only [Act.put]
        refine A_take (i := 13) (v := .pointer (some ⟨rb, 0, none⟩)) (some 34) rfl rfl (by kernel_rfl) (by kernel_rfl) (by kernel_rfl) (fun _ _ _ h => h) (.inl ⟨rfl, fun w => ?_⟩) ?_
        · simp [go_sem]
        simp only [Act.put]
        refine A_take (i := 14) (v := .pointer (some ⟨rb, 0, none⟩)) (some 35) rfl rfl (by kernel_rfl) (by kernel_rfl) (by kernel_rfl) (fun _ _ _ h => h) (.inl ⟨rfl, fun w => ?_⟩) ?_
        · simp [go_sem]
        simp only [Act.put]
        obtain ⟨s1, s2⟩ := done_set HR.out HW2.out q1 q2 q4
        obtain ⟨ax, nx, cx, rfl⟩ := rowSlice q1
        refine wpAny_all (rs := [15]) (by kernel_rfl) (by decide) (fun i hi => ?_)
        obtain rfl : i = 15 := by simpa using hi
        refine D_skip rfl rfl rfl (run_storeO rfl rfl rfl s1.1 s1.2) ?_
        refine wpAny_done (by kernel_rfl) ?_ _
        have S2 := hide s2
        clear s1 s2 q1 q2 q4 hr
        go_wp2_with fail
        go_meet
        exact ⟨_, S2.out⟩
    case rest =>
      obtain ⟨v', H3⟩ := hcut
      have f1 := H3.out.box.free 1
      have f2 := H3.out.box.free 2
      obtain ⟨k0, k1, k2, k7, k8, k9, k10⟩ := H3.out.box.cell
      have hltW := H3.out.box.lt
      have HT : Hid (World.there ((wc.setCell ⟨rb, 1, none⟩ (.slice none 0 0)).setCell ⟨rb, 2, none⟩ (.bool false)) rb 3 5) := by
        have b0 := H3.out.box
        unfold RcBox at b0
        have b1 := (set_cells b0 1 (.slice none 0 0)).1
        have b2 := (set_cells b1 2 (.bool false)).1
        intro j hj
        refine ⟨?_, by simp [World.frozen?, b2]⟩
        have hj5 : j = 0 ∨ j = 1 ∨ j = 2 ∨ j = 3 ∨ j = 4 := by omega
        rcases hj5 with rfl | rfl | rfl | rfl | rfl <;> simp [World.cell?, b2]
      clear k0 k7 k8 k9 k10
      go_wp2_with (refine wpList_store_mid rfl 45 (.tmp 45) (.tmp 43) rfl rb 3 zR.toArray rfl rfl HT.out (by kernel_rfl) (by simp [zR, Value.oneCell']) ?_)
      go_end0
      refine ⟨rfl, ?_⟩
      exact H3.out.done HR.out HZ.out
end Go.Proofs.YtomgnailgddchaaDoor
