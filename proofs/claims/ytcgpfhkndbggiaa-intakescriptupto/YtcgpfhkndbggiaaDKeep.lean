/-
  The walk of the method keep: the walk itself.
-/
import Derived.Test.YtcgpfhkndbggiaaDKeepL
import Derived.Test.YtcgpfhkndbggiaaDraw
namespace Go.Proofs.Ytcgpfhkndbggiaa
open Go.RowKit

variable {fv bx : Bx}

theorem D_value {P : Program} {ops : Array Oper} {Q : Exit → Act → World → Prop} {i : Nat} {o : Oper} {a : Act} {w w' : World} {v : Value} {K : Act → World → Prop} (d : Option Tmp) (hi : ops[i]? = some o) (hd : o.dst = d) (hg : Region.wanted o (yielded ops a.tmps) = true) (hr : (execOp a.eval o).run P w = .ok (.value v) w') (h : K (a.put d v) w') : wpOp P ops Q i K a w := by
  subst hd
  exact op_value hi hg hr h
theorem D_append8 {w : World} {ops : Array Oper} {i : Nat} {o : Oper} {a : Act} {K : Act → World → Prop} {Q : Exit → Act → World → Prop} (d : Option Tmp) (hi : ops[i]? = some o) (hd : o.dst = d) (hg : Region.wanted o (yielded ops a.tmps) = true) (s x : Operand)
    (ho : o.op = .call { callee := .builtin .append, args := #[s, x], argTypes := #[30, 30] })
    (B : Nat) (v : Value) (l : List UInt8) (hs : a.eval s = v) (hown : Own w B v l) (ad : Option Addr) (c : Nat) (m : List UInt8) (hx : a.eval x = .slice ad m.length c) (hm : IsBytes w ad c m)
    (hb : l.length + m.length ≤ 140737488355328) (hbase : B ≤ w.heap.size)
    (h : ∀ v' w', Own w' B v' (l ++ m) → w.grownBy w' v.ownBlock → K (a.put d v') w') : wpOp Try.prog ops Q i K a w := by
  subst hd
  obtain ⟨i8, hi8, hz0, hz1, hz2⟩ := info_parts info_u8
  obtain ⟨v', w', hr, h2, h3, _, _, _⟩ := run_append_keeps (P := Try.prog) w B 30 o.type 5 i8 (.int .u8 0) Try.underlying30 hi8 hz0 hz1 rfl v l.length (u8s l) hown ad m.length c (u8s m) (u8s_length m) hm.src (u8s_one m) (by unfold maxLen; omega) (by rw [hz2]; omega) hbase
  refine op_value (v := v') (w' := w') hi hg ?_ (h v' w' ?_ h3)
  · unfold execOp
    simp only [ho, resolve, invoke, builtin, Sem.run_bind, Sem.run_pure, Result.andThen_ok, List.map_toArray, List.map_cons, List.map_nil, hs, hx, hr]
  · unfold Own
    rw [List.length_append, show u8s (l ++ m) = u8s l ++ u8s m by simp [u8s]]
    exact h2
theorem D_push {w : World} {ops : Array Oper} {i : Nat} {o : Oper} {a : Act} {K : Act → World → Prop} {Q : Exit → Act → World → Prop} (d : Option Tmp) (hi : ops[i]? = some o) (hd : o.dst = d) (hg : Region.wanted o (yielded ops a.tmps) = true) (s x : Operand)
    (ho : o.op = .call { callee := .builtin .append, args := #[s, x], argTypes := #[27, 27] })
    (B : Nat) (v : Value) (os : List Value) (hs : a.eval s = v) (hown : w.ownsRow B 30 1 v os.length os) (u : Value) (hx : a.eval x = .slice (some ⟨w.heap.size, 0, none⟩) 1 1) (hu : u.oneCell' = true)
    (hb : os.length ≤ 1073741824) (hbase : B ≤ w.heap.size)
    (h : ∀ v' w', w'.ownsRow B 30 1 v' (os.length + 1) (os ++ [u]) → (w.alloc (.cells #[u] 30)).grownBy w' v.ownBlock → (v'.ownBlock = v.ownBlock ∨ v'.ownBlock = some (w.heap.size + 1)) → K (a.put d v') w') : wpOp Try.prog ops Q i K a (w.alloc (.cells #[u] 30)) := by
  subst hd
  obtain ⟨i9, hi9, hz0, hz1, hz2⟩ := info_parts info_bytes
  obtain ⟨v', w', hr, h2, h3, _, h5, _⟩ := run_append_keeps (P := Try.prog) (w.alloc (.cells #[u] 30)) B 27 o.type 30 i9 (.slice none 0 0) Try.underlying27 hi9 hz0 hz1 rfl v os.length os (hown.alloc _) (some ⟨w.heap.size, 0, none⟩) 1 1 [u] rfl (.inr (one_new w u _)) (by intro y hy; simp at hy; subst hy; exact hu) (by unfold maxLen; omega) (by rw [hz2]; omega) (by simp; omega)
  refine op_value (v := v') (w' := w') hi hg ?_ (h v' w' h2 h3 (by simpa using h5))
  unfold execOp
  simp only [ho, resolve, invoke, builtin, Sem.run_bind, Sem.run_pure, Result.andThen_ok, List.map_toArray, List.map_cons, List.map_nil, hs, hx, hr]

theorem below_ofN {W W' : World} (h : W.grownBy W' none) : Below W.heap.size W W' := (Kept.ofGrown (P := fun _ => False) h (fun g e => by cases e)).below (Nat.le_refl _) (fun _ _ h => h)
set_option maxHeartbeats 4000000 in
set_option maxRecDepth 1000000 in
theorem keep_any (w : World) (B : Nat) (lab : Nat → Tag) (Hb f n : Nat) (es : List Ent) (a : Option Addr) (c : Nat) (l : List UInt8) (hh : Held fv w B lab Hb f n es) (hB : B ≤ w.heap.size) (hv : Own w B (.slice a l.length c) l) (ht : Tagged lab (.slice a l.length c) (.out es.length)) (hl : l.length ≤ 140737488355328) (he : es.length ≤ 1073741824) :
    Calls Try.prog 35 #[.pointer (some ⟨Hb, 2, none⟩), .slice a l.length c] w fun e w' => e = .returned (.tuple #[]) ∧
      ∃ lab' cw, Held fv w' B lab' Hb f n (es ++ [⟨.slice a l.length c, cw, l⟩]) ∧ (∀ k, k < w.heap.size → lab' k = lab k) ∧ Kept (Lists lab) w w' := by
  obtain ⟨vo, vw, hr, hes⟩ := hh
  obtain ⟨ao, co, rfl, _⟩ := row_shape hr.2.2.2.1.1
  obtain ⟨aw, cv, rfl, _⟩ := row_shape hr.2.2.2.2.1
  rw [List.length_map, List.length_map] at hr
  have k0 := hr.cell0
  have f0 := hr.frozen 0
  have hHb := hr.lt
  have HR : Hid (HRows fv w B lab Hb (.slice ao es.length co) (.slice aw es.length cv) (es.map (·.out)) (es.map (·.want))) := hr
  have HES := hideY hes
  have HV := hideY hv
  have HT := hideY ht
  clear hr hes hv ht
  have hlo : (es.map (·.out)).length ≤ 1073741824 := by simpa using he
  have hlw : (es.map (·.want)).length ≤ 1073741824 := by simpa using he
  obtain ⟨ll, hll⟩ : ∃ ll, ll = l.length := ⟨_, rfl⟩
  have HLL := hideY hll
  rw [← hll] at HV HT hl ⊢
  clear hll
  go_enter Try.func35, Try.ntmps35
  go_upto_region 1 with (first
    | (refine wpList_push rfl (.tmp 8) (.tmp 10) rfl B (.slice ao es.length co) (es.map (·.out)) rfl HR.out.2.2.2.1.1 (.slice a ll c) _ rfl rfl rfl hlo hB ?_
       intro vo' w2 ho hgr hvb
       obtain ⟨ao', co', hvo', _⟩ := row_shape ho
       rw [List.length_map] at hvo'
       subst hvo'
       obtain ⟨c20, _, f20, _⟩ := box_cell ((HR.out.alloc (.cells #[.slice a ll c] 30)).boxOut hgr)
       have HP := hideY (And.intro ho (And.intro hgr (show (Value.slice ao' (es.length + 1) co').ownBlock = (Value.slice ao es.length co).ownBlock ∨ (Value.slice ao' (es.length + 1) co').ownBlock = some (w.alloc (.cells #[.slice a ll c] 30)).heap.size by simpa using hvb)))
       clear ho hgr hvb))
  obtain ⟨hr3, k3⟩ := (HR.out.alloc (.cells #[.slice a ll c] 30)).pushOut HP.out.1 HP.out.2.1 HP.out.2.2
  have hal1 : Below w.heap.size w (w.alloc (.cells #[.slice a ll c] 30)) := (Below.refl _ w).alloc (Nat.le_refl _) _
  obtain ⟨w3, hw3⟩ : ∃ w3, w3 = w2.setCell ⟨Hb, 2, none⟩ (.slice ao' (es.length + 1) co') := ⟨_, rfl⟩
  rw [← hw3] at hr3 k3 ⊢
  have nl : ∀ g, (Value.slice a ll c).ownBlock = some g → ¬ Lists lab g := fun g hg hl => by
    have := HT.out g hg
    rcases hl with h | h | h <;> rw [this] at h <;> simp at h
  have is3 : IsBytes w3 a c l := by
    obtain ⟨a2, c2, e2, i2⟩ := (k3.Own (HV.out.below hal1) nl).shape
    simp only [Value.slice.injEq] at e2
    obtain ⟨rfl, _, rfl⟩ := e2
    exact i2
  have hz3 : w.heap.size ≤ w3.heap.size := Nat.le_trans hal1.size k3.size
  obtain ⟨x3, hx3⟩ : ∃ x3, x3 = w3.drew := ⟨_, rfl⟩
  have hb3 : Below w3.heap.size w3 x3 := by rw [hx3]; exact (Below.refl _ w3).drew
  have hs3 : x3.heap.size = w3.heap.size := by rw [hx3]; rfl
  have H3 := hideY (And.intro (hr3.below hb3) (And.intro (is3.below hb3) (And.intro hb3 (And.intro hs3 hz3))))
  have HW3 := hideY hw3
  have c1 : x3.cell? ⟨Hb, 3, none⟩ = some (.slice aw es.length cv) := (hr3.below hb3).cell1
  clear hr3 k3 hal1 nl is3 hz3 hb3 hs3 hw3 k0 f0 c20 f20
  refine wp_region_any (by kernel_rfl) (show wpAny _ _ _ _ _ _ _ w3.drew from ?_)
  rw [← hx3]
  clear hx3
  refine A_take (i := 0) (v := .pointer (some ⟨Hb, 2, none⟩)) (some 14) rfl rfl (by kernel_rfl) (by kernel_rfl) (by kernel_rfl) (fun _ _ _ h => h) (.inl ⟨rfl, fun w => ?_⟩) ?_
  · simp [go_sem]
  simp only [Act.put, List.setIfInBounds_toArray, List.set_cons_zero, List.set_cons_succ]
  refine A_take (i := 1) (v := .pointer (some ⟨Hb, 2, none⟩)) (some 15) rfl rfl (by kernel_rfl) (by kernel_rfl) (by kernel_rfl) (fun _ _ _ h => h) (.inl ⟨rfl, fun w => ?_⟩) ?_
  · simp [go_sem]
  simp only [Act.put, List.setIfInBounds_toArray, List.set_cons_zero, List.set_cons_succ]
  refine A_take (i := 2) (v := .pointer (some ⟨Hb, 2, none⟩)) (some 16) rfl rfl (by kernel_rfl) (by kernel_rfl) (by kernel_rfl) (fun _ _ _ h => h) (.inl ⟨rfl, fun w => ?_⟩) ?_
  · simp [go_sem]
  simp only [Act.put, List.setIfInBounds_toArray, List.set_cons_zero, List.set_cons_succ]
  refine A_take (i := 3) (v := .pointer (some ⟨Hb, 3, none⟩)) (some 17) rfl rfl (by kernel_rfl) (by kernel_rfl) (by kernel_rfl) (fun _ _ _ h => h) (.inl ⟨rfl, fun w => ?_⟩) ?_
  · simp [go_sem]
  simp only [Act.put, List.setIfInBounds_toArray, List.set_cons_zero, List.set_cons_succ]
  refine A_take (i := 5) (v := .slice a ll c) (some 19) rfl rfl (by kernel_rfl) (by kernel_rfl) (by kernel_rfl) (fun _ _ _ h => h) (.inl ⟨rfl, fun w => ?_⟩) ?_
  · simp [go_sem]
  simp only [Act.put, List.setIfInBounds_toArray, List.set_cons_zero, List.set_cons_succ]
  refine wpAny_all (rs := [4, 6]) (by kernel_rfl) (by decide) (fun i hi => ?_)
  have hi2 : i = 4 ∨ i = 6 := by simpa using hi
  clear hi
  rcases hi2 with rfl | rfl
  · refine D_value (some 18) rfl rfl rfl (run_load1 rfl rfl Try.isAgg27 c1) ?_
    simp only [Act.put, List.setIfInBounds_toArray, List.set_cons_zero, List.set_cons_succ]
    refine wpAny_all (rs := [6]) (by kernel_rfl) (by decide) (fun i hi => ?_)
    obtain rfl : i = 6 := by simpa using hi
    refine D_append8 (some 20) rfl rfl rfl (.const (.slice none 0 0)) (.tmp 19) rfl x3.heap.size (.slice none 0 0) [] rfl (Own.nil _ _) a c l (by rw [← HLL.out]; rfl) H3.out.2.1 (by have := HLL.out; simp; omega) (Nat.le_refl _) (fun u xc ou gu => ?_)
    have BC := hideY (And.intro (show Own xc x3.heap.size u l from ou) (below_ofN gu))
    clear ou gu
    simp only [Act.put, List.setIfInBounds_toArray, List.set_cons_zero, List.set_cons_succ]
    refine wpAny_all (rs := [7]) (by kernel_rfl) (by decide) (fun i hi => ?_)
    obtain rfl : i = 7 := by simpa using hi
    have hu1 : u.oneCell' = true := one_of_ownB BC.out.1
    refine D_value (w' := xc.alloc (.cells #[u] 30)) (v := .slice (some ⟨xc.heap.size, 0, none⟩) 1 1) (some 21) rfl rfl rfl (by obtain ⟨a2, c2, rfl, _⟩ := BC.out.1.shape; simp [go_sem]) ?_
    simp only [Act.put, List.setIfInBounds_toArray, List.set_cons_zero, List.set_cons_succ]
    have hrc := H3.out.1.below BC.out.2
    refine wpAny_all (rs := [8]) (by kernel_rfl) (by decide) (fun i hi => ?_)
    obtain rfl : i = 8 := by simpa using hi
    refine D_push (some 22) rfl rfl rfl (.tmp 18) (.tmp 21) rfl B (.slice aw es.length cv) (es.map (·.want)) rfl hrc.2.2.2.2.1 u rfl hu1 hlw (by have := H3.out.2.2; have := BC.out.2.size; omega) (fun vw' x4 ho2 hg2 hv2 => ?_)
    simp only [Act.put, List.setIfInBounds_toArray, List.set_cons_zero, List.set_cons_succ]
    obtain ⟨_, c41, _, f41⟩ := box_cell ((hrc.alloc (.cells #[u] 30)).boxWant hg2)
    refine A_take (i := 9) (v := .pointer (some ⟨Hb, 2, none⟩)) (some 23) rfl rfl (by kernel_rfl) (by kernel_rfl) (by kernel_rfl) (fun _ _ _ h => h) (.inl ⟨rfl, fun w => ?_⟩) ?_
    · simp [go_sem]
    simp only [Act.put, List.setIfInBounds_toArray, List.set_cons_zero, List.set_cons_succ]
    refine A_take (i := 10) (v := .pointer (some ⟨Hb, 3, none⟩)) (some 24) rfl rfl (by kernel_rfl) (by kernel_rfl) (by kernel_rfl) (fun _ _ _ h => h) (.inl ⟨rfl, fun w => ?_⟩) ?_
    · simp [go_sem]
    simp only [Act.put, List.setIfInBounds_toArray, List.set_cons_zero, List.set_cons_succ]
    have hvo : vw'.oneCell' = true := by obtain ⟨a5, c5, rfl, _⟩ := row_shape ho2; rfl
    refine wpAny_all (rs := [11]) (by kernel_rfl) (by decide) (fun i hi => ?_)
    obtain rfl : i = 11 := by simpa using hi
    refine D_skip (w' := x4.setCell ⟨Hb, 3, none⟩ vw') rfl rfl rfl (by obtain ⟨a5, c5, rfl, _⟩ := row_shape ho2; simp [go_sem, c41, f41]) ?_
    refine wpAny_done (by kernel_rfl) ?_ _
    have FIN := Held.pushed2 (f := f) (n := n) HR.out HES.out (by rw [HLL.out] at HV; exact HV.out) (by rw [HLL.out] at HT; exact HT.out) (.cells #[.slice a l.length c] 30) (.cells #[u] 30) (by rw [← HLL.out]; exact HP.out.1) (by rw [← HLL.out]; exact HP.out.2.1) (by rw [← HLL.out]; exact HP.out.2.2) HW3.out (H3.out.2.2.1.trans (BC.out.2.mono (by rw [H3.out.2.2.2.1]; exact Nat.le_refl _))) (by rw [← H3.out.2.2.2.1]; exact BC.out.1) hB ho2 hg2 (by simpa using hv2)
    have FH := hideY FIN
    clear FIN ho2 hg2 hv2 hrc c41 f41
    go_wp2_with fail
    go_end0
    obtain ⟨lab', q1, q2, q3⟩ := FH.out
    rw [← HLL.out] at q1
    exact ⟨rfl, lab', u, q1, q2, q3⟩
  · refine D_append8 (some 20) rfl rfl rfl (.const (.slice none 0 0)) (.tmp 19) rfl x3.heap.size (.slice none 0 0) [] rfl (Own.nil _ _) a c l (by rw [← HLL.out]; rfl) H3.out.2.1 (by have := HLL.out; simp; omega) (Nat.le_refl _) (fun u xc ou gu => ?_)
    have BC := hideY (And.intro (show Own xc x3.heap.size u l from ou) (below_ofN gu))
    clear ou gu
    simp only [Act.put, List.setIfInBounds_toArray, List.set_cons_zero, List.set_cons_succ]
    have c1c : xc.cell? ⟨Hb, 3, none⟩ = some (.slice aw es.length cv) := (H3.out.1.below BC.out.2).cell1
    refine wpAny_all (rs := [4, 7]) (by kernel_rfl) (by decide) (fun i hi => ?_)
    have hi2 : i = 4 ∨ i = 7 := by simpa using hi
    clear hi
    rcases hi2 with rfl | rfl
    · refine D_value (some 18) rfl rfl rfl (run_load1 rfl rfl Try.isAgg27 c1c) ?_
      simp only [Act.put, List.setIfInBounds_toArray, List.set_cons_zero, List.set_cons_succ]
      refine wpAny_all (rs := [7]) (by kernel_rfl) (by decide) (fun i hi => ?_)
      obtain rfl : i = 7 := by simpa using hi
      have hu1 : u.oneCell' = true := one_of_ownB BC.out.1
      refine D_value (w' := xc.alloc (.cells #[u] 30)) (v := .slice (some ⟨xc.heap.size, 0, none⟩) 1 1) (some 21) rfl rfl rfl (by obtain ⟨a2, c2, rfl, _⟩ := BC.out.1.shape; simp [go_sem]) ?_
      simp only [Act.put, List.setIfInBounds_toArray, List.set_cons_zero, List.set_cons_succ]
      have hrc := H3.out.1.below BC.out.2
      refine wpAny_all (rs := [8]) (by kernel_rfl) (by decide) (fun i hi => ?_)
      obtain rfl : i = 8 := by simpa using hi
      refine D_push (some 22) rfl rfl rfl (.tmp 18) (.tmp 21) rfl B (.slice aw es.length cv) (es.map (·.want)) rfl hrc.2.2.2.2.1 u rfl hu1 hlw (by have := H3.out.2.2; have := BC.out.2.size; omega) (fun vw' x4 ho2 hg2 hv2 => ?_)
      simp only [Act.put, List.setIfInBounds_toArray, List.set_cons_zero, List.set_cons_succ]
      obtain ⟨_, c41, _, f41⟩ := box_cell ((hrc.alloc (.cells #[u] 30)).boxWant hg2)
      refine A_take (i := 9) (v := .pointer (some ⟨Hb, 2, none⟩)) (some 23) rfl rfl (by kernel_rfl) (by kernel_rfl) (by kernel_rfl) (fun _ _ _ h => h) (.inl ⟨rfl, fun w => ?_⟩) ?_
      · simp [go_sem]
      simp only [Act.put, List.setIfInBounds_toArray, List.set_cons_zero, List.set_cons_succ]
      refine A_take (i := 10) (v := .pointer (some ⟨Hb, 3, none⟩)) (some 24) rfl rfl (by kernel_rfl) (by kernel_rfl) (by kernel_rfl) (fun _ _ _ h => h) (.inl ⟨rfl, fun w => ?_⟩) ?_
      · simp [go_sem]
      simp only [Act.put, List.setIfInBounds_toArray, List.set_cons_zero, List.set_cons_succ]
      have hvo : vw'.oneCell' = true := by obtain ⟨a5, c5, rfl, _⟩ := row_shape ho2; rfl
      refine wpAny_all (rs := [11]) (by kernel_rfl) (by decide) (fun i hi => ?_)
      obtain rfl : i = 11 := by simpa using hi
      refine D_skip (w' := x4.setCell ⟨Hb, 3, none⟩ vw') rfl rfl rfl (by obtain ⟨a5, c5, rfl, _⟩ := row_shape ho2; simp [go_sem, c41, f41]) ?_
      refine wpAny_done (by kernel_rfl) ?_ _
      have FIN := Held.pushed2 (f := f) (n := n) HR.out HES.out (by rw [HLL.out] at HV; exact HV.out) (by rw [HLL.out] at HT; exact HT.out) (.cells #[.slice a l.length c] 30) (.cells #[u] 30) (by rw [← HLL.out]; exact HP.out.1) (by rw [← HLL.out]; exact HP.out.2.1) (by rw [← HLL.out]; exact HP.out.2.2) HW3.out (H3.out.2.2.1.trans (BC.out.2.mono (by rw [H3.out.2.2.2.1]; exact Nat.le_refl _))) (by rw [← H3.out.2.2.2.1]; exact BC.out.1) hB ho2 hg2 (by simpa using hv2)
      have FH := hideY FIN
      clear FIN ho2 hg2 hv2 hrc c41 f41
      go_wp2_with fail
      go_end0
      obtain ⟨lab', q1, q2, q3⟩ := FH.out
      rw [← HLL.out] at q1
      exact ⟨rfl, lab', u, q1, q2, q3⟩
    · have hu1 : u.oneCell' = true := one_of_ownB BC.out.1
      refine D_value (w' := xc.alloc (.cells #[u] 30)) (v := .slice (some ⟨xc.heap.size, 0, none⟩) 1 1) (some 21) rfl rfl rfl (by obtain ⟨a2, c2, rfl, _⟩ := BC.out.1.shape; simp [go_sem]) ?_
      simp only [Act.put, List.setIfInBounds_toArray, List.set_cons_zero, List.set_cons_succ]
      have hrc := H3.out.1.below BC.out.2
      have c1d : (xc.alloc (.cells #[u] 30)).cell? ⟨Hb, 3, none⟩ = some (.slice aw es.length cv) := (hrc.alloc (.cells #[u] 30)).cell1
      refine wpAny_all (rs := [4]) (by kernel_rfl) (by decide) (fun i hi => ?_)
      obtain rfl : i = 4 := by simpa using hi
      refine D_value (some 18) rfl rfl rfl (run_load1 rfl rfl Try.isAgg27 c1d) ?_
      simp only [Act.put, List.setIfInBounds_toArray, List.set_cons_zero, List.set_cons_succ]
      refine wpAny_all (rs := [8]) (by kernel_rfl) (by decide) (fun i hi => ?_)
      obtain rfl : i = 8 := by simpa using hi
      refine D_push (some 22) rfl rfl rfl (.tmp 18) (.tmp 21) rfl B (.slice aw es.length cv) (es.map (·.want)) rfl hrc.2.2.2.2.1 u rfl hu1 hlw (by have := H3.out.2.2; have := BC.out.2.size; omega) (fun vw' x4 ho2 hg2 hv2 => ?_)
      simp only [Act.put, List.setIfInBounds_toArray, List.set_cons_zero, List.set_cons_succ]
      obtain ⟨_, c41, _, f41⟩ := box_cell ((hrc.alloc (.cells #[u] 30)).boxWant hg2)
      refine A_take (i := 9) (v := .pointer (some ⟨Hb, 2, none⟩)) (some 23) rfl rfl (by kernel_rfl) (by kernel_rfl) (by kernel_rfl) (fun _ _ _ h => h) (.inl ⟨rfl, fun w => ?_⟩) ?_
      · simp [go_sem]
      simp only [Act.put, List.setIfInBounds_toArray, List.set_cons_zero, List.set_cons_succ]
      refine A_take (i := 10) (v := .pointer (some ⟨Hb, 3, none⟩)) (some 24) rfl rfl (by kernel_rfl) (by kernel_rfl) (by kernel_rfl) (fun _ _ _ h => h) (.inl ⟨rfl, fun w => ?_⟩) ?_
      · simp [go_sem]
      simp only [Act.put, List.setIfInBounds_toArray, List.set_cons_zero, List.set_cons_succ]
      have hvo : vw'.oneCell' = true := by obtain ⟨a5, c5, rfl, _⟩ := row_shape ho2; rfl
      refine wpAny_all (rs := [11]) (by kernel_rfl) (by decide) (fun i hi => ?_)
      obtain rfl : i = 11 := by simpa using hi
      refine D_skip (w' := x4.setCell ⟨Hb, 3, none⟩ vw') rfl rfl rfl (by obtain ⟨a5, c5, rfl, _⟩ := row_shape ho2; simp [go_sem, c41, f41]) ?_
      refine wpAny_done (by kernel_rfl) ?_ _
      have FIN := Held.pushed2 (f := f) (n := n) HR.out HES.out (by rw [HLL.out] at HV; exact HV.out) (by rw [HLL.out] at HT; exact HT.out) (.cells #[.slice a l.length c] 30) (.cells #[u] 30) (by rw [← HLL.out]; exact HP.out.1) (by rw [← HLL.out]; exact HP.out.2.1) (by rw [← HLL.out]; exact HP.out.2.2) HW3.out (H3.out.2.2.1.trans (BC.out.2.mono (by rw [H3.out.2.2.2.1]; exact Nat.le_refl _))) (by rw [← H3.out.2.2.2.1]; exact BC.out.1) hB ho2 hg2 (by simpa using hv2)
      have FH := hideY FIN
      clear FIN ho2 hg2 hv2 hrc c41 f41
      go_wp2_with fail
      go_end0
      obtain ⟨lab', q1, q2, q3⟩ := FH.out
      rw [← HLL.out] at q1
      exact ⟨rfl, lab', u, q1, q2, q3⟩
end Go.Proofs.Ytcgpfhkndbggiaa
