/-
  The walk of the document's Clone. (Written by genrcl.py.)
-/
import Derived.Test.YtomgnailgddchaaDoorRQE
namespace Go.Proofs.YtomgnailgddchaaDoor
open Go.RowKit Go.Sort

/-- 'append' of bytes, in a region that draws. -/
theorem run_app8 {w : World} {B : Nat} {v : Value} {l : List UInt8} (hown : Own w B v l) (ad : Option Addr) (c : Nat) (m : List UInt8) (hm : IsBytes w ad c m) (hb : l.length + m.length ≤ 140737488355328) (hbase : B ≤ w.heap.size) :
    ∃ v' w', (∀ (o : Oper) (a : Act) (s x : Operand), o.op = .call { callee := .builtin .append, args := #[s, x], argTypes := #[34, 34] } → a.eval s = v → a.eval x = .slice ad m.length c → (execOp a.eval o).run Tryd.prog w = .ok (.value v') w') ∧
      Own w' B v' (l ++ m) ∧ w.grownBy w' v.ownBlock ∧ (v'.ownBlock = v.ownBlock ∨ v'.ownBlock = some w.heap.size) := by
  obtain ⟨i, hi, hz0, hz1, hz2⟩ := info_parts info_u8
  obtain ⟨v', w', hr, q1, q2, q3, q4, q5⟩ := run_append_keepsG (P := Tryd.prog) w 1 B 34 34 5 i (.int .u8 0) Tryd.underlying34 hi hz0 hz1 rfl v l.length (u8s l) hown ad m.length c (u8s m) (by rw [u8s_length, Nat.mul_one]) hm.src (u8s_one m) (by unfold maxLen; omega) (by rw [hz2]; omega) hbase
  refine ⟨v', w', fun o a s x ho hs hx => ?_, ?_, q2, q4⟩
  · have hr2 : (Builtin.append_ #[34, 34] o.type #[v, .slice ad m.length c]).run Tryd.prog w = .ok v' w' := hr
    unfold execOp
    simp only [ho, resolve, invoke, builtin, Sem.run_bind, Sem.run_pure, Result.andThen_ok, List.map_toArray, List.map_cons, List.map_nil, hs, hx, hr2]
  · unfold Own
    rw [List.length_append, show u8s (l ++ m) = u8s l ++ u8s m by simp [u8s]]
    exact q1
/-- Behind the append of one and the store. -/
structure D4 (w W : World) (rb : Nat) (vl vn vb v' : Value) (P : List PO) (d : Dc) (p : PO) : Prop where
  box : RcBox W rb v' vn d.inB d.r vb d.left d.cnt d.bad
  row : W.ownsRow 0 60 6 v' (P.length + 1) (flatO (P ++ [p]))
  kept : Kept (fun k => k = rb ∨ vl.ownBlock = some k) w W
  new : v'.ownBlock = vl.ownBlock ∨ ∃ k, v'.ownBlock = some k ∧ w.heap.size ≤ k
theorem push_set {w W2 w' : World} {rb : Nat} {vl vn vb v' : Value} {P : List PO} {d : Dc} {p : PO} (h : RcAt w rb vl vn vb P d) (hW : Below w.heap.size w W2) (q1 : w'.ownsRow 0 60 6 v' (P.length + 1) (flatO (P ++ [p]))) (q2 : W2.grownBy w' vl.ownBlock) (q3 : v'.ownBlock = vl.ownBlock ∨ v'.ownBlock = some W2.heap.size) :
    (w'.cell? ⟨rb, 0, none⟩ = some vl ∧ w'.frozen? ⟨rb, 0, none⟩ = false) ∧ D4 w (w'.setCell ⟨rb, 0, none⟩ v') rb vl vn vb v' P d p := by
  have k1 : Kept (fun k => k = rb ∨ vl.ownBlock = some k) w W2 := Kept.ofBelow hW
  have k2 : Kept (fun k => vl.ownBlock = some k) W2 w' := Kept.ofGrown q2 (fun _ e => e)
  have b1 := (h.below hW).box
  have b2 := b1.kept k2 (fun e => (h.below hW).box.ne (h.below hW).row (by decide) e)
  refine ⟨⟨b2.cell.1, b2.free 0⟩, ?_, ?_, (k1.step k2 (fun k _ e => .inr e)).step (Kept.setCell (fun k => k = rb) _ rb 0 v' rfl) (fun k _ e => .inl e), ?_⟩
  · unfold RcBox
    rw [(set_cells b2 0 v').1]
    simp
  · exact rowKept q1 (Kept.setCell (fun k => k = rb) _ rb 0 v' rfl) (fun k hk e => b2.ne q1 (by decide) (by rw [hk, e]))
  · rcases q3 with e | e
    · exact .inl e
    · exact .inr ⟨_, e, hW.size⟩
/-- One more. -/
theorem D4.pushed {w W : World} {rb : Nat} {vl vn vb v' : Value} {P : List PO} {d : Dc} {p : PO} (h0 : RcAt w rb vl vn vb P d) (h : D4 w W rb vl vn vb v' P d p) (hp : Own w 0 p.2.1 p.1.body) (hap : ∀ k, p.2.1.ownBlock = some k → vn.ownBlock ≠ some k ∧ vb.ownBlock ≠ some k) :
    RcAt W rb v' vn vb (P ++ [p]) { d with L := d.L ++ [(p.1, p.2.2)] } ∧ ∀ k, MineD rb v' vn vb (P ++ [p]) k → MineD rb vl vn vb P k ∨ p.2.1.ownBlock = some k ∨ w.heap.size ≤ k := by
  have bytes : ∀ {v : Value} {l : List UInt8}, Own w 0 v l → Own W 0 v l := fun ho => rowKept ho h.kept (fun k hk e => by
    rcases e with rfl | e
    · exact h0.box.ne ho (by decide) hk
    · exact rowNe ho h0.row (by decide) k hk e)
  refine ⟨⟨h.box, bytes h0.line, bytes h0.body, ?_, ?_, ?_, fun k hk => ⟨(h0.apL k hk).1, fun q hq => ?_⟩, fun k hk q hq => ?_⟩, ?_⟩
  · have := h.row
    rw [List.length_append]
    exact this
  · show d.L ++ _ = _
    rw [h0.list, List.map_append]
    rfl
  · intro q hq
    rcases List.mem_append.1 hq with hq | hq
    · exact bytes (h0.bodies q hq)
    · rw [List.mem_singleton.1 hq]
      exact bytes hp
  · rcases List.mem_append.1 hq with hq | hq
    · exact (h0.apL k hk).2 q hq
    · rw [List.mem_singleton.1 hq]
      exact fun e => (hap k e).1 hk
  · rcases List.mem_append.1 hq with hq | hq
    · exact h0.apB k hk q hq
    · rw [List.mem_singleton.1 hq]
      exact fun e => (hap k e).2 hk
  · rintro k (rfl | hk | hk | hk | ⟨q, hq, hk⟩)
    · exact .inl (.inl rfl)
    · rcases h.new with e | ⟨j, e, hj⟩
      · exact .inl (.inr (.inl (e.symm.trans hk)))
      · rw [e] at hk
        cases hk
        exact .inr (.inr hj)
    · exact .inl (.inr (.inr (.inl hk)))
    · exact .inl (.inr (.inr (.inr (.inl hk))))
    · rcases List.mem_append.1 hq with hq | hq
      · exact .inl (.inr (.inr (.inr (.inr ⟨q, hq, hk⟩))))
      · rw [List.mem_singleton.1 hq] at hk
        exact .inr (.inl hk)
theorem run_empty8 {o : Oper} {a : Act} {w : World} (ho : o.op = .buildSlice 34 0 #[]) : (execOp a.eval o).run Tryd.prog w = .ok (.value (.slice (some ⟨w.heap.size, 0, none⟩) 0 0)) (w.alloc (.cells #[] 5)) := by
  unfold execOp
  simp only [ho]
  simp [go_sem]
theorem run_build1 {P : Program} {o : Oper} {a : Act} {w : World} {t : TypeId} {parts : Array (Nat × Operand)} {cells : Array Value} (ho : o.op = .build t parts) (hf : P.built t (parts.map fun (i, x) => (i, a.eval x)).toList = some cells) : (execOp a.eval o).run P w = .ok (.value (.agg cells)) w := by
  unfold execOp
  simp only [ho, Sem.run_bind, Sem.run_pure, Result.andThen_ok, run_build w t _ cells hf]
theorem flatO_get (P : List PO) (i : Nat) (p : PO) (hp : P[i]? = some p) (j : Nat) (hj : j < 6) : (flatO P)[i * 6 + j]? = (oneC p)[j]? := by
  induction P generalizing i with
  | nil => simp at hp
  | cons x r ih =>
    cases i with
    | zero =>
      simp only [List.getElem?_cons_zero, Option.some.injEq] at hp
      subst hp
      simp only [flatO, List.flatMap_cons]
      rw [List.getElem?_append_left (by simp [oneC]; omega)]
      congr 1
      omega
    | succ i =>
      simp only [List.getElem?_cons_succ] at hp
      simp only [flatO, List.flatMap_cons]
      rw [List.getElem?_append_right (by simp [oneC]; omega), show (i + 1) * 6 + j - (oneC x).length = i * 6 + j by simp [oneC]; omega]
      exact ih i hp
/-- The body is a copy now. -/
theorem RcBox.putBody {w : World} {rb : Nat} {vl vn vb v' : Value} {d : Dc} (h : RcBox w rb vl vn d.inB d.r vb d.left d.cnt d.bad) : RcBox (w.setCell ⟨rb, 7, none⟩ v') rb vl vn d.inB d.r v' d.left d.cnt d.bad := by
  have b0 := h
  unfold RcBox at b0 ⊢
  rw [(set_cells b0 7 v').1]
  simp

/-- How far the clone is. -/
def CL (w wr : World) (xb : Nat) (d : Dc) (k : Nat) : Prop := Below w.heap.size w wr ∧ ∃ vl vn vb P, RcAt wr xb vl vn vb P { d with L := d.L.take k } ∧ ∀ j, MineD xb vl vn vb P j → w.heap.size ≤ j
theorem CL.start {w W3 w6 : World} {xb : Nat} {v1 vb v6 : Value} {d : Dc} {o : Obj} (hx : w.heap.size ≤ xb) (hxl : xb < W3.heap.size) (hb : Below w.heap.size w W3) (h3 : RcBox W3 xb (.slice none 0 0) v1 d.inB d.r vb d.left d.cnt d.bad) (o1 : Own W3 w.heap.size v1 d.line)
    (o6 : Own w6 W3.heap.size v6 d.r.body) (g6 : (W3.alloc o).grownBy w6 (some W3.heap.size)) : RcBox w6 xb (.slice none 0 0) v1 d.inB d.r vb d.left d.cnt d.bad ∧ CL w (w6.setCell ⟨xb, 7, none⟩ v6) xb d 0 := by
  have K6 : Kept (fun _ => False) W3 w6 := (Kept.ofBelow (P := fun _ => False) ((Below.refl _ W3).alloc (Nat.le_refl _) o)).step (Kept.ofGrown (P := fun k => k = W3.heap.size) g6 (fun k e => (Option.some.inj e).symm)) (fun q hq e => by omega)
  have b6 := h3.kept K6 (fun e => e)
  have k7 := keptR w6 xb 7 v6
  have K7 : Kept (fun k => k = xb) W3 (w6.setCell ⟨xb, 7, none⟩ v6) := (K6.mono (fun _ _ e => e.elim)).trans k7
  have low : ∀ {v : Value} {l : List UInt8} {X : World} {B : Nat}, Own X B v l → Own X 0 v l := fun ho => ⟨ho.1, ho.2.imp id (fun ⟨q, cap, cur, hv, _, rest⟩ => ⟨q, cap, cur, hv, Nat.zero_le _, rest⟩)⟩
  have hs := hb.size
  refine ⟨b6, hb.trans (K7.below hs (fun k hk e => by omega)), .slice none 0 0, v1, v6, [], ⟨b6.putBody, low (o1.kept K7 (fun k hk e => h3.ne (low o1) (by decide) (by rw [hk, e]))), low (o6.kept k7 (fun k hk e => b6.ne (low o6) (by decide) (by rw [hk, e]))), ownsNil _ _ _, by simp, fun p hp => by simp at hp, fun k e => ⟨fun e2 => ?_, fun p hp => by simp at hp⟩, fun k e p hp => by simp at hp⟩, ?_⟩
  · have h1 := (o1.old k e).2
    have h2 := (o6.old k e2).1
    omega
  · rintro k (rfl | hk | hk | hk | ⟨p, hp, hk⟩)
    · exact hx
    · cases hk
    · exact (o1.old k hk).1
    · have := (o6.old k hk).1
      omega
    · simp at hp
theorem CL.next {w w7 W : World} {xb k : Nat} {vl vn vb v' : Value} {P' : List PO} {d : Dc} {p : PO} (hc : RcAt w7 xb vl vn vb P' { d with L := d.L.take k }) (hlow : ∀ j, MineD xb vl vn vb P' j → w.heap.size ≤ j) (hbel : Below w.heap.size w w7) (hp : d.L[k]? = some (p.1, p.2.2))
    (ho : Own w7 0 p.2.1 p.1.body) (hap : ∀ j, p.2.1.ownBlock = some j → w.heap.size ≤ j ∧ ¬ MineD xb vl vn vb P' j) (h4 : D4 w7 W xb vl vn vb v' P' { d with L := d.L.take k } p) : CL w W xb d (k + 1) := by
  have hs := hbel.size
  obtain ⟨q1, q2⟩ := h4.pushed hc ho (fun j hj => ⟨fun e => (hap j hj).2 (.inr (.inr (.inl e))), fun e => (hap j hj).2 (.inr (.inr (.inr (.inl e))))⟩)
  refine ⟨hbel.trans (h4.kept.below hs (fun j hj e => ?_)), v', vn, vb, P' ++ [p], ?_, fun j hj => ?_⟩
  · rcases e with e | e
    · have := hlow j (.inl e)
      omega
    · have := hlow j (.inr (.inl e))
      omega
  · have e : d.L.take (k + 1) = d.L.take k ++ [(p.1, p.2.2)] := by rw [List.take_add_one, hp]; rfl
    rw [e]
    exact q1
  · rcases q2 j hj with e | e | e
    · exact hlow j e
    · exact (hap j e).1
    · omega

set_option maxHeartbeats 8000000 in
set_option maxRecDepth 1000000 in
theorem refClone8_any (w : World) (rb : Nat) (vl vn vb : Value) (P : List PO) (d : Dc) (h : RcAt w rb vl vn vb P d) (hP : P.length ≤ 1073741823) (hl : d.line.length ≤ 1099511627776) (hb : d.r.body.length ≤ 1099511627776) (hbs : ∀ p ∈ P, p.1.body.length ≤ 1099511627776) :
    Calls Tryd.prog 11 #[.pointer (some ⟨rb, 0, none⟩)] w fun e w' => ∃ xb, e = .returned (.pointer (some ⟨xb, 0, none⟩)) ∧ Below w.heap.size w w' ∧ ∃ vl' vn' vb' P', RcAt w' xb vl' vn' vb' P' d ∧ ∀ k, MineD xb vl' vn' vb' P' k → w.heap.size ≤ k := by
  have HR := hide h
  obtain ⟨an, cn, rfl, in_⟩ := h.line.shape
  obtain ⟨ab, cb, rfl, ib_⟩ := h.body.shape
  obtain ⟨al, cl, rfl, hal⟩ : ∃ al cl, vl = .slice al P.length cl ∧ (0 < P.length → ∃ gl, al = some ⟨gl, 0, none⟩ ∧ ∀ j u, (flatO P)[j]? = some u → w.cell? ⟨gl, j, none⟩ = some u) := by
    rcases h.row.2 with ⟨e, h0⟩ | ⟨gl, cap, cur, e, _, hg, _, _, _, hcur⟩
    · refine ⟨none, 0, by rw [e, h0], fun h1 => by omega⟩
    · refine ⟨_, _, e, fun _ => ⟨gl, rfl, fun j u hj => ?_⟩⟩
      rw [← hcur] at hj
      refine cells_at hg ?_
      rw [List.getElem?_take] at hj
      split at hj
      · simpa using hj
      · cases hj
  have HIN := hide in_
  have HIB := hide ib_
  have HAL := hide hal
  have HBS := hide hbs
  have sq : (fun X : World => RcBox X rb (.slice al P.length cl) (.slice an d.line.length cn) d.inB d.r (.slice ab d.r.body.length cb) d.left d.cnt d.bad) w.drew := h.box
  have hlt := h.box.lt
  have B0 : Below w.heap.size w w.drew := (Below.refl _ w).drew
  have B1 : Hid (Below w.heap.size w (w.drew.alloc (.cells #[] 5))) := B0.alloc (Nat.le_refl _) _
  have OE : Own (w.drew.alloc (.cells #[] 5)) w.heap.size (.slice (some ⟨w.drew.heap.size, 0, none⟩) 0 0) [] := ⟨rfl, .inr ⟨w.heap.size, 0, #[], rfl, Nat.le_refl _, heap_alloc_new _ _, Nat.le_refl _, Nat.zero_le _, rfl, rfl⟩⟩
  have HAP := hide (run_app8 OE an cn d.line (in_.below B1.out) (by simp only [List.length_nil]; omega) (by simp))
  have SQ : Hid (∀ X, Below w.heap.size w X → RcBox X rb (.slice al P.length cl) (.slice an d.line.length cn) d.inB d.r (.slice ab d.r.body.length cb) d.left d.cnt d.bad) := fun X hX => (h.below hX).box
  clear h in_ ib_ hal OE hbs
  go_enter Tryd.func11, Tryd.ntmps11
  go_upto_region 1 with fail
  refine wp_region_held_drew (S := fun X => RcBox X rb (.slice al P.length cl) (.slice an d.line.length cn) d.inB d.r (.slice ab d.r.body.length cb) d.left d.cnt d.bad) (by kernel_rfl) sq (fun _ => ?_)
  refine H_take (i := 1) (v := .pointer (some ⟨rb, 0, none⟩)) (some 7) rfl rfl (by kernel_rfl) (by kernel_rfl) (by kernel_rfl) (fun _ _ _ h => h) rfl (fun X hX => ?_) sq ?_
  · simp [go_sem]
  simp only [Act.put, List.setIfInBounds_toArray, List.set_cons_zero, List.set_cons_succ]
  refine H_take (i := 2) (v := .pointer (some ⟨rb, 0, none⟩)) (some 8) rfl rfl (by kernel_rfl) (by kernel_rfl) (by kernel_rfl) (fun _ _ _ h => h) rfl (fun X hX => ?_) sq ?_
  · simp [go_sem]
  simp only [Act.put, List.setIfInBounds_toArray, List.set_cons_zero, List.set_cons_succ]
  refine H_take (i := 3) (v := .pointer (some ⟨rb, 1, none⟩)) (some 9) rfl rfl (by kernel_rfl) (by kernel_rfl) (by kernel_rfl) (fun _ _ _ h => h) rfl (fun X hX => ?_) sq ?_
  · simp [go_sem]
  simp only [Act.put, List.setIfInBounds_toArray, List.set_cons_zero, List.set_cons_succ]
  refine H_take (i := 4) (v := .slice an d.line.length cn) (some 10) rfl rfl (by kernel_rfl) (by kernel_rfl) (by kernel_rfl) (fun _ _ _ h => h) rfl (fun X hX => ?_) sq ?_
  · exact run_load1 rfl rfl Tryd.isAgg34 (cells_at hX rfl)
  simp only [Act.put, List.setIfInBounds_toArray, List.set_cons_zero, List.set_cons_succ]
  refine H_take (i := 6) (v := .pointer (some ⟨rb, 0, none⟩)) (some 12) rfl rfl (by kernel_rfl) (by kernel_rfl) (by kernel_rfl) (fun _ _ _ h => h) rfl (fun X hX => ?_) sq ?_
  · simp [go_sem]
  simp only [Act.put, List.setIfInBounds_toArray, List.set_cons_zero, List.set_cons_succ]
  refine H_take (i := 7) (v := .pointer (some ⟨rb, 0, none⟩)) (some 13) rfl rfl (by kernel_rfl) (by kernel_rfl) (by kernel_rfl) (fun _ _ _ h => h) rfl (fun X hX => ?_) sq ?_
  · simp [go_sem]
  simp only [Act.put, List.setIfInBounds_toArray, List.set_cons_zero, List.set_cons_succ]
  refine H_take (i := 8) (v := .pointer (some ⟨rb, 2, none⟩)) (some 14) rfl rfl (by kernel_rfl) (by kernel_rfl) (by kernel_rfl) (fun _ _ _ h => h) rfl (fun X hX => ?_) sq ?_
  · simp [go_sem]
  simp only [Act.put, List.setIfInBounds_toArray, List.set_cons_zero, List.set_cons_succ]
  refine H_take (i := 9) (v := .bool d.inB) (some 15) rfl rfl (by kernel_rfl) (by kernel_rfl) (by kernel_rfl) (fun _ _ _ h => h) rfl (fun X hX => ?_) sq ?_
  · exact run_load1 rfl rfl Tryd.isAgg4 (cells_at hX rfl)
  simp only [Act.put, List.setIfInBounds_toArray, List.set_cons_zero, List.set_cons_succ]
  refine H_take (i := 10) (v := .pointer (some ⟨rb, 0, none⟩)) (some 16) rfl rfl (by kernel_rfl) (by kernel_rfl) (by kernel_rfl) (fun _ _ _ h => h) rfl (fun X hX => ?_) sq ?_
  · simp [go_sem]
  simp only [Act.put, List.setIfInBounds_toArray, List.set_cons_zero, List.set_cons_succ]
  refine H_take (i := 11) (v := .pointer (some ⟨rb, 0, none⟩)) (some 17) rfl rfl (by kernel_rfl) (by kernel_rfl) (by kernel_rfl) (fun _ _ _ h => h) rfl (fun X hX => ?_) sq ?_
  · simp [go_sem]
  simp only [Act.put, List.setIfInBounds_toArray, List.set_cons_zero, List.set_cons_succ]
  refine H_take (i := 12) (v := .pointer (some ⟨rb, 3, none⟩)) (some 18) rfl rfl (by kernel_rfl) (by kernel_rfl) (by kernel_rfl) (fun _ _ _ h => h) rfl (fun X hX => ?_) sq ?_
  · simp [go_sem]
  simp only [Act.put, List.setIfInBounds_toArray, List.set_cons_zero, List.set_cons_succ]
  refine H_take (i := 13) (v := .agg #[.int .i64 d.r.kind, .int .i64 d.r.id, .int .i64 d.r.num, .string ⟨d.r.tube.toArray⟩, .slice ab d.r.body.length cb]) (some 19) rfl rfl (by kernel_rfl) (by kernel_rfl) (by kernel_rfl) (fun _ _ _ h => h) rfl (fun X hX => ?_) sq ?_
  · exact run_loadMid8 rfl rfl (RcBox.mid hX) Tryd.underlying45 rfl rfl
  simp only [Act.put, List.setIfInBounds_toArray, List.set_cons_zero, List.set_cons_succ]
  refine H_take (i := 14) (v := .pointer (some ⟨rb, 0, none⟩)) (some 20) rfl rfl (by kernel_rfl) (by kernel_rfl) (by kernel_rfl) (fun _ _ _ h => h) rfl (fun X hX => ?_) sq ?_
  · simp [go_sem]
  simp only [Act.put, List.setIfInBounds_toArray, List.set_cons_zero, List.set_cons_succ]
  refine H_take (i := 15) (v := .pointer (some ⟨rb, 0, none⟩)) (some 21) rfl rfl (by kernel_rfl) (by kernel_rfl) (by kernel_rfl) (fun _ _ _ h => h) rfl (fun X hX => ?_) sq ?_
  · simp [go_sem]
  simp only [Act.put, List.setIfInBounds_toArray, List.set_cons_zero, List.set_cons_succ]
  refine H_take (i := 16) (v := .pointer (some ⟨rb, 8, none⟩)) (some 22) rfl rfl (by kernel_rfl) (by kernel_rfl) (by kernel_rfl) (fun _ _ _ h => h) rfl (fun X hX => ?_) sq ?_
  · simp [go_sem]
  simp only [Act.put, List.setIfInBounds_toArray, List.set_cons_zero, List.set_cons_succ]
  refine H_take (i := 17) (v := .int .i64 d.left) (some 23) rfl rfl (by kernel_rfl) (by kernel_rfl) (by kernel_rfl) (fun _ _ _ h => h) rfl (fun X hX => ?_) sq ?_
  · exact run_load1 rfl rfl Tryd.isAgg3 (cells_at hX rfl)
  simp only [Act.put, List.setIfInBounds_toArray, List.set_cons_zero, List.set_cons_succ]
  refine H_take (i := 18) (v := .pointer (some ⟨rb, 0, none⟩)) (some 24) rfl rfl (by kernel_rfl) (by kernel_rfl) (by kernel_rfl) (fun _ _ _ h => h) rfl (fun X hX => ?_) sq ?_
  · simp [go_sem]
  simp only [Act.put, List.setIfInBounds_toArray, List.set_cons_zero, List.set_cons_succ]
  refine H_take (i := 19) (v := .pointer (some ⟨rb, 0, none⟩)) (some 25) rfl rfl (by kernel_rfl) (by kernel_rfl) (by kernel_rfl) (fun _ _ _ h => h) rfl (fun X hX => ?_) sq ?_
  · simp [go_sem]
  simp only [Act.put, List.setIfInBounds_toArray, List.set_cons_zero, List.set_cons_succ]
  refine H_take (i := 20) (v := .pointer (some ⟨rb, 9, none⟩)) (some 26) rfl rfl (by kernel_rfl) (by kernel_rfl) (by kernel_rfl) (fun _ _ _ h => h) rfl (fun X hX => ?_) sq ?_
  · simp [go_sem]
  simp only [Act.put, List.setIfInBounds_toArray, List.set_cons_zero, List.set_cons_succ]
  refine H_take (i := 21) (v := .int .i64 (d.cnt : Int)) (some 27) rfl rfl (by kernel_rfl) (by kernel_rfl) (by kernel_rfl) (fun _ _ _ h => h) rfl (fun X hX => ?_) sq ?_
  · exact run_load1 rfl rfl Tryd.isAgg3 (cells_at hX rfl)
  simp only [Act.put, List.setIfInBounds_toArray, List.set_cons_zero, List.set_cons_succ]
  refine H_take (i := 22) (v := .pointer (some ⟨rb, 0, none⟩)) (some 28) rfl rfl (by kernel_rfl) (by kernel_rfl) (by kernel_rfl) (fun _ _ _ h => h) rfl (fun X hX => ?_) sq ?_
  · simp [go_sem]
  simp only [Act.put, List.setIfInBounds_toArray, List.set_cons_zero, List.set_cons_succ]
  refine H_take (i := 23) (v := .pointer (some ⟨rb, 0, none⟩)) (some 29) rfl rfl (by kernel_rfl) (by kernel_rfl) (by kernel_rfl) (fun _ _ _ h => h) rfl (fun X hX => ?_) sq ?_
  · simp [go_sem]
  simp only [Act.put, List.setIfInBounds_toArray, List.set_cons_zero, List.set_cons_succ]
  refine H_take (i := 24) (v := .pointer (some ⟨rb, 10, none⟩)) (some 30) rfl rfl (by kernel_rfl) (by kernel_rfl) (by kernel_rfl) (fun _ _ _ h => h) rfl (fun X hX => ?_) sq ?_
  · simp [go_sem]
  simp only [Act.put, List.setIfInBounds_toArray, List.set_cons_zero, List.set_cons_succ]
  refine H_take (i := 25) (v := .bool d.bad) (some 31) rfl rfl (by kernel_rfl) (by kernel_rfl) (by kernel_rfl) (fun _ _ _ h => h) rfl (fun X hX => ?_) sq ?_
  · exact run_load1 rfl rfl Tryd.isAgg4 (cells_at hX rfl)
  simp only [Act.put, List.setIfInBounds_toArray, List.set_cons_zero, List.set_cons_succ]
  refine H_value (i := 0) (v := .slice (some ⟨w.drew.heap.size, 0, none⟩) 0 0) (w' := w.drew.alloc (.cells #[] 5)) (some 6) rfl rfl (by kernel_rfl) rfl (run_empty8 rfl) (SQ.out _ B1.out) ?_
  simp only [Act.put, List.setIfInBounds_toArray, List.set_cons_zero, List.set_cons_succ]
  obtain ⟨v1, w2, hr, o1, g1, hv1⟩ := HAP.out
  rw [List.nil_append] at o1
  obtain ⟨a1, c1, rfl, _⟩ := o1.shape
  have K2 : Kept (fun k => k = w.heap.size) (w.drew.alloc (.cells #[] 5)) w2 := Kept.ofGrown g1 (fun k e => (Option.some.inj e).symm)
  have B2 : Below w.heap.size w w2 := ⟨K2.os.trans B1.out.os, K2.tape.trans B1.out.tape, K2.output.trans B1.out.output, Nat.le_trans B1.out.size K2.size, fun k hk => (K2.block k (Nat.lt_of_lt_of_le hk B1.out.size) (by omega)).trans (B1.out.block k hk)⟩
  refine H_value (i := 5) (v := .slice a1 d.line.length c1) (w' := w2) (some 11) rfl rfl (by kernel_rfl) rfl (hr _ _ _ _ rfl rfl rfl) (SQ.out _ B2) ?_
  simp only [Act.put, List.setIfInBounds_toArray, List.set_cons_zero, List.set_cons_succ]
  refine H_take (i := 26) (v := .agg #[.slice none 0 0, .slice a1 d.line.length c1, .bool d.inB, .int .i64 d.r.kind, .int .i64 d.r.id, .int .i64 d.r.num, .string ⟨d.r.tube.toArray⟩, .slice ab d.r.body.length cb, .int .i64 d.left, .int .i64 (d.cnt : Int), .bool d.bad]) (some 32) rfl rfl (by kernel_rfl) (by kernel_rfl) (by kernel_rfl) (fun _ _ _ h => h) rfl (fun X hX => ?_) (SQ.out _ B2) ?_
  · exact run_build1 rfl (by kernel_rfl)
  simp only [Act.put, List.setIfInBounds_toArray, List.set_cons_zero, List.set_cons_succ]
  have B3 : Below w.heap.size w (w2.alloc (.cells #[.slice none 0 0, .slice a1 d.line.length c1, .bool d.inB, .int .i64 d.r.kind, .int .i64 d.r.id, .int .i64 d.r.num, .string ⟨d.r.tube.toArray⟩, .slice ab d.r.body.length cb, .int .i64 d.left, .int .i64 (d.cnt : Int), .bool d.bad] 54)) := B2.alloc B2.size _
  refine H_value (i := 27) (v := .pointer (some ⟨w2.heap.size, 0, none⟩)) (w' := w2.alloc (.cells #[.slice none 0 0, .slice a1 d.line.length c1, .bool d.inB, .int .i64 d.r.kind, .int .i64 d.r.id, .int .i64 d.r.num, .string ⟨d.r.tube.toArray⟩, .slice ab d.r.body.length cb, .int .i64 d.left, .int .i64 (d.cnt : Int), .bool d.bad] 54)) (some 33) rfl rfl (by kernel_rfl) rfl (by simp [go_sem]) (SQ.out _ B3) ?_
  simp only [Act.put, List.setIfInBounds_toArray, List.set_cons_zero, List.set_cons_succ]
  refine H_take (i := 28) (v := .pointer (some ⟨w2.heap.size, 0, none⟩)) (some 3) rfl rfl (by kernel_rfl) (by kernel_rfl) (by kernel_rfl) (fun _ _ _ h => h) rfl (fun X hX => ?_) (SQ.out _ B3) ?_
  · simp [go_sem]
  simp only [Act.put, List.setIfInBounds_toArray, List.set_cons_zero, List.set_cons_succ]
  refine wpAnyH_done (by kernel_rfl) ?_ _
  have X3 : RcBox (w2.alloc (.cells #[.slice none 0 0, .slice a1 d.line.length c1, .bool d.inB, .int .i64 d.r.kind, .int .i64 d.r.id, .int .i64 d.r.num, .string ⟨d.r.tube.toArray⟩, .slice ab d.r.body.length cb, .int .i64 d.left, .int .i64 (d.cnt : Int), .bool d.bad] 54)) w2.heap.size (.slice none 0 0) (.slice a1 d.line.length c1) d.inB d.r (.slice ab d.r.body.length cb) d.left d.cnt d.bad := heap_alloc_new _ _
  have O3 : Own (w2.alloc (.cells #[.slice none 0 0, .slice a1 d.line.length c1, .bool d.inB, .int .i64 d.r.kind, .int .i64 d.r.id, .int .i64 d.r.num, .string ⟨d.r.tube.toArray⟩, .slice ab d.r.body.length cb, .int .i64 d.left, .int .i64 (d.cnt : Int), .bool d.bad] 54)) w.heap.size (.slice a1 d.line.length c1) d.line := o1.below ((Below.refl _ w2).alloc (Nat.le_refl _) _)
  obtain ⟨xb, hxb⟩ : ∃ x, x = w2.heap.size := ⟨_, rfl⟩
  have hxlo : w.heap.size ≤ xb := by rw [hxb]; exact B2.size
  rw [← hxb] at X3 ⊢
  generalize w2.alloc (.cells #[.slice none 0 0, .slice a1 d.line.length c1, .bool d.inB, .int .i64 d.r.kind, .int .i64 d.r.id, .int .i64 d.r.num, .string ⟨d.r.tube.toArray⟩, .slice ab d.r.body.length cb, .int .i64 d.left, .int .i64 (d.cnt : Int), .bool d.bad] 54) = W3 at B3 X3 O3 ⊢
  have HB3 := hide B3
  have HX3 := hide X3
  have HO3 := hide O3
  have hxl3 := X3.lt
  have HXL : Hid (w.heap.size ≤ xb ∧ xb < W3.heap.size) := And.intro hxlo hxl3
  clear hr o1 g1 hv1 K2 B2 B3 X3 O3 HAP B1 sq hxb hxlo hxl3 B0
  have y7 : W3.cell? ⟨rb, 7, none⟩ = some (.slice ab d.r.body.length cb) := (SQ.out _ HB3.out).cell.2.2.2.1
  have yl : rb < W3.heap.size := Nat.lt_of_lt_of_le hlt HB3.out.size
  have OE : Hid (Own (W3.alloc (.cells #[] 5)) W3.heap.size (.slice (some ⟨W3.heap.size, 0, none⟩) 0 0) []) := ⟨rfl, .inr ⟨W3.heap.size, 0, #[], rfl, Nat.le_refl _, heap_alloc_new _ _, Nat.le_refl _, Nat.zero_le _, rfl, rfl⟩⟩
  have IV : Hid (IsBytes (W3.alloc (.cells #[] 5)) ab cb d.r.body) := (HIB.out.below HB3.out).below ((Below.refl _ W3).alloc (Nat.le_refl _) _)
  go_upto_region 3 with (refine wpList_append8 rfl (.tmp 35) (.tmp 40) rfl W3.heap.size (.slice (some ⟨W3.heap.size, 0, none⟩) 0 0) [] rfl OE.out ab cb d.r.body rfl IV.out (by simp only [List.length_nil]; omega) (by simp) ?_; intro v6 w6 o6 g6 _ _ _; rw [List.nil_append] at o6; obtain ⟨b6, s6⟩ := CL.start HXL.out.1 HXL.out.2 HB3.out HX3.out HO3.out o6 g6; have S6 := hide s6; obtain ⟨a6, c6, e6, _⟩ := o6.shape; subst e6; have t5 := b6.cell.2.2.2.1; have tf := b6.free 7; have tl := b6.lt; clear o6 g6 b6 s6)
  generalize w6.setCell ⟨xb, 7, none⟩ (.slice a6 d.r.body.length c6) = W6 at S6 ⊢
  clear y7 yl OE IV HB3 HX3 HO3 t5 tf tl
  go_wp2_with fail
  go_loopw [4] (fun i wr => ∃ k : Nat, i = .int .i64 k ∧ k ≤ P.length ∧ Hid (CL w wr xb d k)) (fun i _ => P.length - (intOf i).toNat)
  case atStart => exact ⟨0, rfl, Nat.zero_le _, S6.out⟩
  case round =>
    clear S6
    obtain ⟨k, rfl, hk, HC⟩ := hrel
    have hbw := HC.out.1
    have y0 : wr.cell? ⟨rb, 0, none⟩ = some (.slice al P.length cl) := (SQ.out _ hbw).cell.1
    have yl : rb < wr.heap.size := Nat.lt_of_lt_of_le hlt hbw.size
    have HBW := hide hbw
    clear hbw
    by_cases hkl : k < P.length
    · obtain ⟨p, hp⟩ : ∃ p, P[k]? = some p := ⟨_, List.getElem?_eq_getElem hkl⟩
      have hmem := List.mem_of_getElem? hp
      obtain ⟨gl, rfl, hcell⟩ := HAL.out (by omega)
      have hrange : w.rangeAt gl (k * 6) (oneC p) := fun j u hj => by
        have hj6 : j < 6 := by have := (List.getElem?_eq_some_iff.1 hj).1; simpa [oneC] using this
        exact hcell _ u ((flatO_get P k p hp j hj6).trans hj)
      have hglt : gl < w.heap.size := by
        have := hrange 0 _ (rfl : (oneC p)[0]? = some _)
        exact cell_lt this
      have HRG : Hid (∀ X, Below w.heap.size w X → X.rangeAt gl (k * 6) (oneC p)) := fun X hX j u hj => by
        rw [hX.cell (p := ⟨gl, k * 6 + j, none⟩) hglt]
        exact hrange j u hj
      obtain ⟨ao, co, eo, io⟩ := (HR.out.bodies p hmem).shape
      have hbp := HBS.out p hmem
      have HIO := hide io
      have HEO := hide eo
      have hone : (oneC p).toArray.all (·.oneCell') = true := by simp [oneC, eo, Value.oneCell']
      have HON := hide hone
      have HP2 := hide (And.intro hp hmem)
      clear hcell hrange io eo hone hp hmem
      go_upto_region 7 with (first
        | (refine wpList_load_mid rfl 60 (.tmp 59) rfl gl (k * 6) rfl (oneC p) _ (HRG.out _ HBW.out) Tryd.underlying60 rfl rfl ?_)
        | (refine wpList_store_row rfl 60 (.tmp 5) (.tmp 60) rfl wr.heap.size (oneC p).toArray rfl rfl 60 #[.int .i64 0, .int .i64 0, .int .i64 0, .string ⟨#[]⟩, .slice none 0 0, .int .i64 0] (heap_alloc_new wr _) (by kernel_rfl) rfl HON.out ?_))
      obtain ⟨bN, xN⟩ : Below wr.heap.size wr ((wr.alloc (.cells #[.int .i64 0, .int .i64 0, .int .i64 0, .string ⟨#[]⟩, .slice none 0 0, .int .i64 0] 60)).setRow wr.heap.size (oneC p).toArray) ∧ ((wr.alloc (.cells #[.int .i64 0, .int .i64 0, .int .i64 0, .string ⟨#[]⟩, .slice none 0 0, .int .i64 0] 60)).setRow wr.heap.size (oneC p).toArray).heap[wr.heap.size]? = some (.cells (oneC p).toArray 60 (0, 0)) :=
        ⟨below_setRow ((Below.refl _ wr).alloc (Nat.le_refl _) _) (Nat.le_refl _) _, setRow_heap _ _ _ _ _ _ (heap_alloc_new wr _)⟩
      generalize (wr.alloc (.cells #[.int .i64 0, .int .i64 0, .int .i64 0, .string ⟨#[]⟩, .slice none 0 0, .int .i64 0] 60)).setRow wr.heap.size (oneC p).toArray = V at bN xN ⊢
      obtain ⟨ob, hob⟩ : ∃ x, x = wr.heap.size := ⟨_, rfl⟩
      rw [← hob] at xN ⊢
      have XN := hide xN
      have BN := hide bN
      have HOB := hide hob
      have y4 : V.cell? ⟨ob, 4, none⟩ = some (.slice ao p.1.body.length co) := by
        rw [← HEO.out]
        exact cells_at xN rfl
      have yl2 := (Array.getElem?_eq_some_iff.1 xN).1
      clear bN xN hob y0 yl
      have OE : Hid (Own (V.alloc (.cells #[] 5)) V.heap.size (.slice (some ⟨V.heap.size, 0, none⟩) 0 0) []) := ⟨rfl, .inr ⟨V.heap.size, 0, #[], rfl, Nat.le_refl _, heap_alloc_new _ _, Nat.le_refl _, Nat.zero_le _, rfl, rfl⟩⟩
      have IV : Hid (IsBytes (V.alloc (.cells #[] 5)) ao co p.1.body) := ((HIO.out.below HBW.out).below BN.out).below ((Below.refl _ V).alloc (Nat.le_refl _) _)
      go_upto_region 8 with (refine wpList_append8 rfl (.tmp 61) (.tmp 64) rfl V.heap.size (.slice (some ⟨V.heap.size, 0, none⟩) 0 0) [] rfl OE.out ao co p.1.body rfl IV.out (by simp only [List.length_nil]; omega) (by simp) ?_; intro v6 w6 o6 g6 _ _ _; rw [List.nil_append] at o6; have K6 : Hid (Kept (fun _ => False) V w6) := (Kept.ofBelow (P := fun _ => False) ((Below.refl _ V).alloc (Nat.le_refl _) (.cells #[] 5))).step (Kept.ofGrown (P := fun k => k = V.heap.size) g6 (fun k e => (Option.some.inj e).symm)) (fun q hq e => by omega); have X6 := hide ((K6.out.block ob yl2 (fun e => e)).trans XN.out); obtain ⟨a6, c6, e6, _⟩ := o6.shape; subst e6; have O6 := hide o6; clear o6 g6; have t4 : (w6.cell? ⟨ob, 4, none⟩).isSome = true := (by rw [cells_at X6.out (i := 4) rfl]; rfl); have t5 := cells_at X6.out (i := 4) rfl; have tf : w6.frozen? ⟨ob, 4, none⟩ = false := (by have := X6.out; simp [World.frozen?, this]); have tl := (Array.getElem?_eq_some_iff.1 X6.out).1)
      have X7 := hide ((set_cells X6.out 4 (.slice a6 p.1.body.length c6)).1)
      have K7 : Hid (Kept (fun k => k = ob) w6 (w6.setCell ⟨ob, 4, none⟩ (.slice a6 p.1.body.length c6))) := keptR w6 ob 4 _
      generalize w6.setCell ⟨ob, 4, none⟩ (.slice a6 p.1.body.length c6) = w7 at X7 K7 ⊢
      have KV : Hid (Kept (fun k => k = ob) wr w7) := ((Kept.ofBelow (P := fun k => k = ob) BN.out).trans (K6.out.mono (fun _ _ e => e.elim))).trans K7.out
      obtain ⟨vl7, vn7, vb7, P7, c0, m7⟩ := HC.out.2
      have n7 : ∀ j, MineD xb vl7 vn7 vb7 P7 j → j ≠ ob := fun j hj e => by
        have := c0.lt j hj
        have := HOB.out
        omega
      have c7 := c0.kept KV.out n7
      have B7 : Below w.heap.size w w7 := HBW.out.trans (KV.out.below HBW.out.size (fun j hj e => by have := HOB.out; have := HBW.out.size; omega))
      have O7 : Hid (Own w7 0 (.slice a6 p.1.body.length c6) p.1.body) := by
        have lo : Own w6 0 (.slice a6 p.1.body.length c6) p.1.body := ⟨O6.out.1, O6.out.2.imp id (fun ⟨q, cap, cur, hv, _, rest⟩ => ⟨q, cap, cur, hv, Nat.zero_le _, rest⟩)⟩
        exact lo.kept K7.out (fun j hj e => by have := (O6.out.old j hj).1; omega)
      have AP7 : Hid (∀ j, (Value.slice a6 p.1.body.length c6).ownBlock = some j → w.heap.size ≤ j ∧ ¬ MineD xb vl7 vn7 vb7 P7 j) := fun j hj => by
        have h1 := (O6.out.old j hj).1
        have h2 := HBW.out.size
        have h3 := BN.out.size
        exact ⟨by omega, fun hm => by have := c0.lt j hm; omega⟩
      clear c0 n7 t4 t5 tf tl y4 yl2 OE IV HC HRG HEO HIO
      have HC7 := hide (And.intro c7 (And.intro m7 B7))
      have HPD : Hid (d.L[k]? = some (p.1, p.2.2)) := by
        show d.L[k]? = _
        rw [HR.out.list, List.getElem?_map, HP2.out.1]
        rfl
      have HV : Hid (w7.drew.cell? ⟨xb, 0, none⟩ = some vl7) := c7.box.cell.1
      have W8b : Below w7.heap.size w7 (w7.drew.alloc (.cells #[.int .i64 p.1.kind, .int .i64 p.1.id, .int .i64 p.1.num, .string ⟨p.1.tube.toArray⟩, .slice a6 p.1.body.length c6, .int .i64 (p.2.2 : Int)] 60)) := ((Below.refl _ w7).drew.alloc (Nat.le_refl _) _)
      have HV2 : Hid ((w7.drew.alloc (.cells #[.int .i64 p.1.kind, .int .i64 p.1.id, .int .i64 p.1.num, .string ⟨p.1.tube.toArray⟩, .slice a6 p.1.body.length c6, .int .i64 (p.2.2 : Int)] 60)).cell? ⟨xb, 0, none⟩ = some vl7) := (c7.below W8b).box.cell.1
      have HPL : P7.length ≤ 1073741823 := by
        have := congrArg List.length c7.list
        simp only [List.length_take, List.length_map] at this
        omega
      have HPU := hide (push_one _ vl7 P7 (p.1, .slice a6 p.1.body.length c6, p.2.2) w7.drew.heap.size (c7.below W8b).row HPL (heap_alloc_new _ _) rfl)
      have HW8 := hide W8b
      clear W8b c7 m7 B7 HPL
      refine wp_region_any mixed ?_
      refine A_take (i := 0) (v := .pointer (some ⟨xb, 0, none⟩)) (some 68) rfl rfl (by kernel_rfl) (by kernel_rfl) (by kernel_rfl) (fun _ _ _ h => h) (.inl ⟨rfl, fun w => ?_⟩) ?_
      · simp [go_sem]
      simp only [Act.put, List.setIfInBounds_toArray, List.set_cons_zero, List.set_cons_succ]
      refine A_take (i := 1) (v := .pointer (some ⟨xb, 0, none⟩)) (some 69) rfl rfl (by kernel_rfl) (by kernel_rfl) (by kernel_rfl) (fun _ _ _ h => h) (.inl ⟨rfl, fun w => ?_⟩) ?_
      · simp [go_sem]
      simp only [Act.put, List.setIfInBounds_toArray, List.set_cons_zero, List.set_cons_succ]
      refine A_take (i := 2) (v := .pointer (some ⟨xb, 0, none⟩)) (some 70) rfl rfl (by kernel_rfl) (by kernel_rfl) (by kernel_rfl) (fun _ _ _ h => h) (.inl ⟨rfl, fun w => ?_⟩) ?_
      · simp [go_sem]
      simp only [Act.put, List.setIfInBounds_toArray, List.set_cons_zero, List.set_cons_succ]
      refine A_take (i := 3) (v := .pointer (some ⟨xb, 0, none⟩)) (some 71) rfl rfl (by kernel_rfl) (by kernel_rfl) (by kernel_rfl) (fun _ _ _ h => h) (.inl ⟨rfl, fun w => ?_⟩) ?_
      · simp [go_sem]
      simp only [Act.put, List.setIfInBounds_toArray, List.set_cons_zero, List.set_cons_succ]
      have HCC : Below w7.heap.size w7 w7.drew := (Below.refl _ w7).drew
      refine C_take (i := 5) (v := (.agg #[.int .i64 p.1.kind, .int .i64 p.1.id, .int .i64 p.1.num, .string ⟨p.1.tube.toArray⟩, .slice a6 p.1.body.length c6, .int .i64 (p.2.2 : Int)])) (Cl := Below w7.heap.size w7) (D := [6, 7, 8, 9, 10]) (E := [4]) (some 73) rfl rfl (by kernel_rfl) (fun j hj oj ho => ?_) (fun _ _ _ h => h) HCC ⟨rfl, fun X hX => ?_⟩ ?_
      · obtain rfl : j = 4 := by simpa using hj
        cases ho
        exact stays_loadC rfl Tryd.isAgg52
      · exact run_loadRow rfl rfl ((hX.block ob (Array.getElem?_eq_some_iff.1 X7.out).1).trans X7.out) Tryd.underlying60 rfl (by kernel_rfl)
      simp only [Act.put, List.setIfInBounds_toArray, List.set_cons_zero, List.set_cons_succ]
      refine wpAny_all (rs := [4, 6]) (by kernel_rfl) (by decide) (fun i hi => ?_)
      have hi2 : i = 4 ∨ i = 6 := by simpa using hi
      rcases hi2 with rfl | rfl
      · refine op_value (v := vl7) (w' := _) rfl rfl (run_load1 rfl rfl Tryd.isAgg52 HV.out) ?_
        try dsimp only
        simp only [Act.put, List.setIfInBounds_toArray]
        refine wpAny_all (rs := [6]) (by kernel_rfl) (by decide) (fun i hi => ?_)
        obtain rfl : i = 6 := by simpa using hi
        refine op_value (v := .slice (some ⟨w7.drew.heap.size, 0, none⟩) 1 1) rfl rfl (run_made6 rfl rfl) ?_
        try dsimp only
        simp only [Act.put]
        obtain ⟨v', w', hr, q1, q2, q4⟩ := HPU.out
        refine wpAny_all (rs := [7]) (by kernel_rfl) (by decide) (fun i hi => ?_)
        obtain rfl : i = 7 := by simpa using hi
        refine op_value (v := v') (w' := w') rfl rfl (hr _ _ _ _ rfl rfl rfl) ?_
        try dsimp only
        simp only [Act.put]
        refine A_take (i := 8) (v := .pointer (some ⟨xb, 0, none⟩)) (some 76) rfl rfl (by kernel_rfl) (by kernel_rfl) (by kernel_rfl) (fun _ _ _ h => h) (.inl ⟨rfl, fun w => ?_⟩) ?_
        · simp [go_sem]
        simp only [Act.put]
        refine A_take (i := 9) (v := .pointer (some ⟨xb, 0, none⟩)) (some 77) rfl rfl (by kernel_rfl) (by kernel_rfl) (by kernel_rfl) (fun _ _ _ h => h) (.inl ⟨rfl, fun w => ?_⟩) ?_
        · simp [go_sem]
        simp only [Act.put]
        obtain ⟨s1, s2⟩ := push_set HC7.out.1 HW8.out q1 q2 q4
        obtain ⟨ax, nx, cx, rfl⟩ := rowSlice q1
        refine wpAny_all (rs := [10]) (by kernel_rfl) (by decide) (fun i hi => ?_)
        obtain rfl : i = 10 := by simpa using hi
        refine D_skip rfl rfl rfl (run_storeO rfl rfl rfl s1.1 s1.2) ?_
        refine wpAny_done (by kernel_rfl) ?_ _
        have S2 := hide (CL.next (p := (p.1, .slice a6 p.1.body.length c6, p.2.2)) HC7.out.1 HC7.out.2.1 HC7.out.2.2 HPD.out O7.out AP7.out s2)
        clear s1 s2 q1 q2 q4 hr
        go_wp2_with fail
        go_roundw
        case rel => exact ⟨k + 1, by go_num, hkl, S2.out⟩
        case measure => simp [intOf]; omega
      · refine op_value (v := .slice (some ⟨w7.drew.heap.size, 0, none⟩) 1 1) rfl rfl (run_made6 rfl rfl) ?_
        try dsimp only
        simp only [Act.put, List.setIfInBounds_toArray]
        refine wpAny_all (rs := [4]) (by kernel_rfl) (by decide) (fun i hi => ?_)
        obtain rfl : i = 4 := by simpa using hi
        refine op_value (v := vl7) (w' := _) rfl rfl (run_load1 rfl rfl Tryd.isAgg52 HV2.out) ?_
        try dsimp only
        simp only [Act.put]
        obtain ⟨v', w', hr, q1, q2, q4⟩ := HPU.out
        refine wpAny_all (rs := [7]) (by kernel_rfl) (by decide) (fun i hi => ?_)
        obtain rfl : i = 7 := by simpa using hi
        refine op_value (v := v') (w' := w') rfl rfl (hr _ _ _ _ rfl rfl rfl) ?_
        try dsimp only
        simp only [Act.put]
        refine A_take (i := 8) (v := .pointer (some ⟨xb, 0, none⟩)) (some 76) rfl rfl (by kernel_rfl) (by kernel_rfl) (by kernel_rfl) (fun _ _ _ h => h) (.inl ⟨rfl, fun w => ?_⟩) ?_
        · simp [go_sem]
        simp only [Act.put]
        refine A_take (i := 9) (v := .pointer (some ⟨xb, 0, none⟩)) (some 77) rfl rfl (by kernel_rfl) (by kernel_rfl) (by kernel_rfl) (fun _ _ _ h => h) (.inl ⟨rfl, fun w => ?_⟩) ?_
        · simp [go_sem]
        simp only [Act.put]
        obtain ⟨s1, s2⟩ := push_set HC7.out.1 HW8.out q1 q2 q4
        obtain ⟨ax, nx, cx, rfl⟩ := rowSlice q1
        refine wpAny_all (rs := [10]) (by kernel_rfl) (by decide) (fun i hi => ?_)
        obtain rfl : i = 10 := by simpa using hi
        refine D_skip rfl rfl rfl (run_storeO rfl rfl rfl s1.1 s1.2) ?_
        refine wpAny_done (by kernel_rfl) ?_ _
        have S2 := hide (CL.next (p := (p.1, .slice a6 p.1.body.length c6, p.2.2)) HC7.out.1 HC7.out.2.1 HC7.out.2.2 HPD.out O7.out AP7.out s2)
        clear s1 s2 q1 q2 q4 hr
        go_wp2_with fail
        go_roundw
        case rel => exact ⟨k + 1, by go_num, hkl, S2.out⟩
        case measure => simp [intOf]; omega
    · obtain rfl : k = P.length := by omega
      have HE : Hid (∃ vl vn vb P', RcAt wr xb vl vn vb P' d ∧ ∀ j, MineD xb vl vn vb P' j → w.heap.size ≤ j) := by
        obtain ⟨vl7, vn7, vb7, P7, c0, m7⟩ := HC.out.2
        refine ⟨vl7, vn7, vb7, P7, ?_, m7⟩
        have e : d.L.take P.length = d.L := by
          rw [HR.out.list]
          exact List.take_of_length_le (by simp)
        rw [e] at c0
        exact c0
      go_wp2_with fail
      go_ret
      exact ⟨xb, rfl, HBW.out, HE.out⟩
end Go.Proofs.YtomgnailgddchaaDoor
