/-
  The walk of the document's one: a byte of a line comes.
-/
import Derived.Test.YtomgnailgddchaaDoorRQ9
namespace Go.Proofs.YtomgnailgddchaaDoor
open Go.RowKit Go.Sort

theorem begF_ok (l : List UInt8) : ∀ (n k : Nat) (any : Bool), 1 ≤ k → (begF l n k any).2 ≠ 0 → (begF l n k any).1 = true ∧ k ≤ (begF l n k any).2 ∧ (begF l n k any).2 < k + n ∧ (matchR l (begF l n k any).2).2 = true
  | 0, _, _, _, h => absurd rfl h
  | n + 1, k, any, hk, h => by
    unfold begF at h ⊢
    by_cases hm : (matchR l k).2 = true
    · rw [if_pos hm]
      exact ⟨rfl, Nat.le_refl _, by dsimp only; omega, hm⟩
    · rw [if_neg hm] at h ⊢
      obtain ⟨a, b, c, d⟩ := begF_ok l n (k + 1) _ (by omega) h
      exact ⟨a, by omega, by omega, d⟩
theorem begins_ok (l : List UInt8) (h : (beginsR l).2 ≠ 0) : (beginsR l).1 = true ∧ 1 ≤ (beginsR l).2 ∧ (beginsR l).2 ≤ 23 ∧ (lnS (beginsR l).2 l).st = 0 := by
  obtain ⟨a, b, c, d⟩ := begF_ok l 23 1 false (Nat.le_refl _) h
  have e : begF l 23 1 false = beginsR l := rfl
  rw [e] at a b c d
  generalize beginsR l = B at a b c d h ⊢
  refine ⟨a, b, by omega, ?_⟩
  obtain ⟨m1, m2, _, m4⟩ := match_is B.2 (by omega) l
  have h3 : (lnS B.2 l).st = 0 ∨ (lnS B.2 l).st = 1 ∨ (lnS B.2 l).st = 2 := by omega
  rcases h3 with h3 | h3 | h3
  · exact h3
  · rw [m2 h3] at d
    cases d
  · rw [m1 h3] at d
    cases d
/-- The line grows. -/
theorem RcAt.growL {w w2 : World} {rb : Nat} {vl vn vb v' : Value} {P : List PO} {d : Dc} {o : Obj} {c : UInt8} (h : RcAt w rb vl vn vb P d) (o2 : Own w2 0 v' (d.line ++ [c])) (hg : (w.alloc o).grownBy w2 vn.ownBlock) (hv : v'.ownBlock = vn.ownBlock ∨ v'.ownBlock = some (w.alloc o).heap.size) :
    RcBox w2 rb vl vn d.inB d.r vb d.left d.cnt d.bad ∧ RcAt (w2.setCell ⟨rb, 1, none⟩ v') rb vl v' vb P { d with line := d.line ++ [c] } ∧ Kept (MineD rb vl vn vb P) w (w2.setCell ⟨rb, 1, none⟩ v') ∧ ∀ k, MineD rb vl v' vb P k → MineD rb vl vn vb P k ∨ w.heap.size ≤ k := by
  have B1 : Below w.heap.size w (w.alloc o) := (Below.refl _ w).alloc (Nat.le_refl _) o
  have h1 := h.below B1
  have k2 : Kept (fun k => vn.ownBlock = some k) (w.alloc o) w2 := Kept.ofGrown hg (fun _ e => e)
  have b2 := h1.box.kept k2 (fun e => h1.box.ne h1.line (by decide) e)
  have k3 := keptR w2 rb 1 v'
  have KA : Kept (fun k => k = rb ∨ vn.ownBlock = some k) w (w2.setCell ⟨rb, 1, none⟩ v') := ((Kept.ofBelow (P := fun k => k = rb ∨ vn.ownBlock = some k) B1).step k2 (fun k _ e => .inr e)).step k3 (fun k _ e => .inl e)
  have hnew : ∀ k, v'.ownBlock = some k → vn.ownBlock = some k ∨ w.heap.size ≤ k := fun k hk => by
    rcases hv with e | e
    · exact .inl (e.symm.trans hk)
    · rw [e] at hk
      cases hk
      exact .inr B1.size
  refine ⟨b2, ⟨?_, ?_, ?_, ?_, h.list, ?_, ?_, h.apB⟩, KA.mono (fun k _ e => ?_), ?_⟩
  · unfold RcBox at b2 ⊢
    rw [(set_cells b2 1 v').1]
    simp
  · exact rowKept o2 k3 (fun k hk e => b2.ne o2 (by decide) (by rw [hk, e]))
  · refine rowKept h.body KA (fun k hk e => ?_)
    rcases e with rfl | e
    · exact h.box.ne h.body (by decide) hk
    · exact (h.apL k e).1 hk
  · refine rowKept h.row KA (fun k hk e => ?_)
    rcases e with rfl | e
    · exact h.box.ne h.row (by decide) hk
    · exact rowNe h.row h.line (by decide) k hk e
  · intro p hp
    refine rowKept (h.bodies p hp) KA (fun k hk e => ?_)
    rcases e with rfl | e
    · exact h.box.ne (h.bodies p hp) (by decide) hk
    · exact (h.apL k e).2 p hp hk
  · intro k hk
    refine ⟨fun e => ?_, fun p hp e => ?_⟩
    · rcases hnew k hk with e1 | e1
      · exact (h.apL k e1).1 e
      · have := h.lt k (.inr (.inr (.inr (.inl e))))
        omega
    · rcases hnew k hk with e1 | e1
      · exact (h.apL k e1).2 p hp e
      · have := h.lt k (.inr (.inr (.inr (.inr ⟨p, hp, e⟩))))
        omega
  · rcases e with rfl | e
    · exact .inl rfl
    · exact .inr (.inr (.inl e))
  · rintro k (rfl | hk | hk | hk | hk)
    · exact .inl (.inl rfl)
    · exact .inl (.inr (.inl hk))
    · rcases hnew k hk with e | e
      · exact .inl (.inr (.inr (.inl e)))
      · exact .inr e
    · exact .inl (.inr (.inr (.inr (.inl hk))))
    · exact .inl (.inr (.inr (.inr (.inr hk))))
theorem RcAt.setCnt {w : World} {rb : Nat} {vl vn vb : Value} {P : List PO} {d : Dc} (h : RcAt w rb vl vn vb P d) (n : Int) (hn : n = (d.cnt : Int) + 1) : RcAt (w.setCell ⟨rb, 9, none⟩ (.int .i64 n)) rb vl vn vb P { d with cnt := d.cnt + 1 } := by
  refine h.turn (keptR w rb 9 _) ?_ rfl rfl rfl
  have b0 := h.box
  unfold RcBox at b0 ⊢
  rw [(set_cells b0 9 (.int .i64 n)).1, hn]
  simp
/-- The reply that begins. -/
theorem RcAt.setR {w : World} {rb : Nat} {vl vn vb : Value} {P : List PO} {d : Dc} (h : RcAt w rb vl vn vb P d) (r : Rp) (hr : r.body = []) : RcAt (w.setCells rb 3 (rpC r).toList) rb vl vn (.slice none 0 0) P { d with r := r } ∧ Kept (fun k => k = rb) w (w.setCells rb 3 (rpC r).toList) := by
  have K : Kept (fun k => k = rb) w (w.setCells rb 3 (rpC r).toList) := by
    unfold rpC
    simp only [World.setCells]
    exact ((((keptR _ _ _ _).trans (keptR _ _ _ _)).trans (keptR _ _ _ _)).trans (keptR _ _ _ _)).trans (keptR _ _ _ _)
  have B : RcBox (w.setCells rb 3 (rpC r).toList) rb vl vn d.inB r (.slice none 0 0) d.left d.cnt d.bad := by
    have b2 := h.box
    unfold RcBox at b2 ⊢
    unfold rpC
    simp only [World.setCells]
    have b3 := (set_cells b2 3 (.int .i64 r.kind)).1
    have b4 := (set_cells b3 (3 + 1) (.int .i64 r.id)).1
    have b5 := (set_cells b4 (3 + 1 + 1) (.int .i64 r.num)).1
    have b6 := (set_cells b5 (3 + 1 + 1 + 1) (.string ⟨r.tube.toArray⟩)).1
    have b7 := (set_cells b6 (3 + 1 + 1 + 1 + 1) (.slice none 0 0)).1
    rw [b7]
    simp
  generalize w.setCells rb 3 (rpC r).toList = W at K B ⊢
  have bytes : ∀ {v : Value} {l : List UInt8}, Own w 0 v l → Own W 0 v l := fun ho => rowKept ho K (fun k hk e => h.box.ne ho (by decide) (by rw [hk, e]))
  refine ⟨⟨B, bytes h.line, ?_, rowKept h.row K (fun k hk e => h.box.ne h.row (by decide) (by rw [hk, e])), h.list, fun p hp => bytes (h.bodies p hp), fun k hk => ⟨fun e => (by cases e), (h.apL k hk).2⟩, fun k e => (by cases e)⟩, K⟩
  show Own W 0 _ r.body
  rw [hr]
  exact Own.nil _ _
theorem RcAt.setBody {w : World} {rb : Nat} {vl vn vb : Value} {P : List PO} {d : Dc} (h : RcAt w rb vl vn vb P d) (z : Int) : RcAt ((w.setCell ⟨rb, 2, none⟩ (.bool true)).setCell ⟨rb, 8, none⟩ (.int .i64 z)) rb vl vn vb P { d with inB := true, left := z } := by
  refine h.turn ((keptR w rb 2 _).trans (keptR _ rb 8 _)) ?_ rfl rfl rfl
  have b0 := h.box
  unfold RcBox at b0 ⊢
  have b1 := (set_cells b0 2 (.bool true)).1
  rw [(set_cells b1 8 (.int .i64 z)).1]
  simp
theorem RcBox.there {w : World} {rb : Nat} {vl vn vb : Value} {inB bad : Bool} {r : Rp} {left cnt : Int} (h : RcBox w rb vl vn inB r vb left cnt bad) : w.there rb 3 5 := by
  intro j hj
  refine ⟨?_, h.free _⟩
  unfold RcBox at h
  have hj5 : j = 0 ∨ j = 1 ∨ j = 2 ∨ j = 3 ∨ j = 4 := by omega
  rcases hj5 with rfl | rfl | rfl | rfl | rfl <;> simp [World.cell?, h]
theorem sizeR_bound (k : Nat) (hk : k < 24) (l : List UInt8) : -1 ≤ sizeR k (lnS k l) ∧ sizeR k (lnS k l) ≤ 4294967295 := by
  unfold sizeR
  have := size_bound k hk l
  have e : (lnS k l).size = (lineS k l st0).size := (ln_same k l _).2
  split
  · rw [e]; omega
  · omega

set_option maxHeartbeats 4000000 in
set_option maxRecDepth 1000000 in
theorem one_line (w : World) (rb : Nat) (vl vn vb : Value) (P : List PO) (d : Dc) (c : UInt8) (h : RcAt w rb vl vn vb P d) (hi : d.inB = false) (hP : P.length ≤ 1073741823) (hl : d.line.length ≤ 1099511627775) (hc : d.cnt ≤ 1099511627776) :
    Calls Tryd.prog 35 #[.pointer (some ⟨rb, 0, none⟩), .int .u8 c.toNat] w fun e w' => e = .returned (.tuple #[]) ∧ WentD w rb (MineD rb vl vn vb P) (oneR d c) w' := by
  have H1 := h.setCnt ((d.cnt : Int) + 1) rfl
  have K1 := keptR w rb 9 (.int .i64 ((d.cnt : Int) + 1))
  obtain ⟨c0, c1, c2, c7, c8, c9, c10⟩ := h.box.cell
  rw [hi] at c2
  have hlt := h.box.lt
  have f9 := h.box.free 9
  have HO : Hid (oneR d c = if (beginsR (d.line ++ [c])).1 = false then { d with cnt := d.cnt + 1, line := d.line ++ [c], bad := true }
  else if (beginsR (d.line ++ [c])).2 = 0 then { d with cnt := d.cnt + 1, line := d.line ++ [c] }
  else if sizeR (beginsR (d.line ++ [c])).2 (lnS (beginsR (d.line ++ [c])).2 (d.line ++ [c])) < 0 then doneR { d with cnt := d.cnt + 1, line := d.line ++ [c], r := lineRp (beginsR (d.line ++ [c])).2 (lnS (beginsR (d.line ++ [c])).2 (d.line ++ [c])) }
  else { d with cnt := d.cnt + 1, line := d.line ++ [c], r := lineRp (beginsR (d.line ++ [c])).2 (lnS (beginsR (d.line ++ [c])).2 (d.line ++ [c])), inB := true, left := sizeR (beginsR (d.line ++ [c])).2 (lnS (beginsR (d.line ++ [c])).2 (d.line ++ [c])) + 2 }) := by
    show oneR d c = _
    unfold oneR
    rw [if_neg (by rw [hi]; simp)]
  have HBO := hide (begins_ok (d.line ++ [c]))
  have HSB := hide (fun k hk => sizeR_bound k hk (d.line ++ [c]))
  obtain ⟨an, cn, en, _⟩ := h.line.shape
  subst en
  clear h
  go_enter Tryd.func35, Tryd.ntmps35
  go_upto_region 10 with fail
  generalize w.setCell ⟨rb, 9, none⟩ (.int .i64 ((d.cnt : Int) + 1)) = W1 at H1 K1 ⊢
  have HH := hide H1
  have KK := hide K1
  have OA := hide (H1.line.below ((Below.refl _ W1).alloc (Nat.le_refl _) (.cells #[.int .u8 (c.toNat : Int)] 5)))
  have y1 := H1.box.cell.2.1
  have ylt := H1.box.lt
  clear H1 K1 c0 c1 c2 c7 c8 c9 c10 f9 hlt hi
  obtain ⟨L, hL⟩ : ∃ L, L = d.line ++ [c] := ⟨_, rfl⟩
  rw [← hL] at HO HBO HSB
  have HLL : Hid (L.length = d.line.length + 1) := (by rw [hL]; simp : L.length = d.line.length + 1)
  have HLE := hide hL
  clear hL
  go_upto_region 11 with (refine wpList_append8 rfl (.tmp 78) (.tmp 80) rfl 0 (.slice an d.line.length cn) d.line rfl OA.out (some ⟨W1.heap.size, 0, none⟩) 1 [c] rfl (one_byteD W1 c) (by simp only [List.length_singleton]; omega) (Nat.zero_le _) ?_; intro v' w2 o2 gr _ hv _; have GG := hide (HH.out.growL o2 gr hv); obtain ⟨a2, k2, e2, _⟩ := o2.shape; rw [← HLE.out] at e2 GG; subst e2; clear o2 gr hv; have x1 := GG.out.1.cell.2.1; have u1 := GG.out.1.free 1; have hlt2 := GG.out.1.lt)
  have H2 := GG.out.2.1
  have K2 : Hid (Kept (MineD rb vl (.slice an d.line.length cn) vb P) w (w2.setCell ⟨rb, 1, none⟩ (.slice a2 L.length k2))) := (KK.out.mono (fun _ _ e => .inl e)).trans GG.out.2.2.1
  have N2 : Hid (∀ k, MineD rb vl (.slice a2 L.length k2) vb P k → MineD rb vl (.slice an d.line.length cn) vb P k ∨ w.heap.size ≤ k) := fun k hk => (GG.out.2.2.2 k hk).elim .inl (fun q => .inr (Nat.le_trans KK.out.size q))
  clear GG x1 u1 hlt2 HH KK OA y1 ylt HLE
  generalize w2.setCell ⟨rb, 1, none⟩ (.slice a2 L.length k2) = W2 at H2 K2 ⊢
  have HH := hide H2
  have y1 := H2.box.cell.2.1
  have ylt := H2.box.lt
  obtain ⟨a2', k2', e2', i2⟩ := H2.line.shape
  simp only [Value.slice.injEq] at e2'
  obtain ⟨rfl, _, rfl⟩ := e2'
  have HI := hide i2
  have CB := hide (begins_any a2 k2 L W2 i2)
  clear H2 i2
  generalize beginsR L = B at HO HBO CB
  obtain ⟨b1, b2⟩ := B
  dsimp only at HO HBO CB
  cases hb1 : b1 with
  | false =>
    have HE : Hid (oneR d c = { d with cnt := d.cnt + 1, line := L, bad := true }) := HO.out.trans (if_pos hb1)
    subst hb1
    clear HO HBO HSB
    go_wp2_with (go_at_call 43; refine CB.out.mono ?_; rintro e W3 ⟨rfl, b3⟩; have B3 := hide b3; have H3 := hide (HH.out.below b3); clear b3; have z10 := H3.out.box.cell.2.2.2.2.2.2; have u10 := H3.out.box.free 10; have hl3 := H3.out.box.lt)
    refine bodyPost_ret (results_none rfl _ _ _) rfl ?_
    have KB := (Kept.ofBelow (P := fun k => k = rb) B3.out).trans (keptR _ rb 10 (.bool true))
    exact ⟨rfl, by rw [HE.out]; exact WentD.trans K2.out N2.out (H3.out.setBad.went KB)⟩
  | true =>
    subst hb1
    by_cases hz : b2 = 0
    · have HE : Hid (oneR d c = { d with cnt := d.cnt + 1, line := L }) := by
        show oneR d c = _
        rw [HO.out, if_neg (by simp), if_pos hz]
      subst hz
      clear HO HBO HSB
      go_wp2_with (go_at_call 43; refine CB.out.mono ?_; rintro e W3 ⟨rfl, b3⟩; have B3 := hide b3; have H3 := hide (HH.out.below b3); clear b3)
      refine bodyPost_ret (results_none rfl _ _ _) rfl ?_
      exact ⟨rfl, by rw [HE.out]; exact WentD.trans K2.out N2.out (H3.out.went (Kept.ofBelow (P := fun k => k = rb) B3.out))⟩
    · obtain ⟨_, q1, q2, q3⟩ := HBO.out hz
      obtain ⟨r, hr⟩ : ∃ r, r = lineRp b2 (lnS b2 L) := ⟨_, rfl⟩
      obtain ⟨z, hzz⟩ : ∃ z, z = sizeR b2 (lnS b2 L) := ⟨_, rfl⟩
      have hzb := HSB.out b2 (by omega)
      have HRB : Hid (r.body = []) := (by rw [hr]; rfl : r.body = [])
      have HE : Hid (oneR d c = if z < 0 then doneR { d with cnt := d.cnt + 1, line := L, r := r } else { d with cnt := d.cnt + 1, line := L, r := r, inB := true, left := z + 2 }) := by
        show oneR d c = _
        rw [HO.out, if_neg (by simp), if_neg hz, hr, hzz]
      have CP : Hid (∀ X, Below W2.heap.size W2 X → Calls Tryd.prog 44 #[.slice a2 L.length k2, .int .i64 (b2 : Int)] X fun e w' => e = .returned (.tuple #[.agg #[.int .i64 r.kind, .int .i64 r.id, .int .i64 r.num, .string ⟨r.tube.toArray⟩, .slice none 0 0], .int .i64 z]) ∧ Below X.heap.size X w') := fun X hX => by
        have := parsed_any a2 k2 L b2 q1 q2 X (HI.out.below hX) q3
        rw [← hr, ← hzz] at this
        exact this
      rw [← hzz] at hzb
      clear HO HBO HSB q3 hr hzz
      have hz0 : ((b2 : Int) == 0) = false := beq_eq_false_iff_ne.2 (by omega)
      have hln : L.length ≤ 1099511627776 := by have := HLL.out; omega
      go_upto_region 16 with (first
        | (go_at_call 43; refine CB.out.mono ?_; rintro e W3 ⟨rfl, b3⟩; have B3 := hide b3; have H3 := hide (HH.out.below b3); clear b3; have z1 := H3.out.box.cell.2.1; have hl3 := H3.out.box.lt)
        | (go_at_call 44; refine (CP.out _ B3.out).mono ?_; rintro e W4 ⟨rfl, b4⟩; have B4 : Hid (Below W2.heap.size W2 W4) := B3.out.trans (b4.mono B3.out.size); have H4 := hide (H3.out.below b4); clear b4))
      obtain ⟨qb, hqb⟩ : ∃ q, q = W4.heap.size := ⟨_, rfl⟩
      have B5 : Hid (Below W2.heap.size W2 (W4.alloc (.cells (rpC r) 45))) := B4.out.alloc B4.out.size _
      have Q5 : Hid (RepB (W4.alloc (.cells (rpC r) 45)) qb r) := (by rw [hqb]; exact heap_alloc_new _ _ : RepB (W4.alloc (.cells (rpC r) 45)) qb r)
      have H5 := hide (H4.out.below ((Below.refl _ W4).alloc (Nat.le_refl _) (.cells (rpC r) 45)))
      rw [← hqb]
      have e5 : W4.alloc (.cells #[.int .i64 r.kind, .int .i64 r.id, .int .i64 r.num, .string ⟨r.tube.toArray⟩, .slice none 0 0] 45) = W4.alloc (.cells (rpC r) 45) := rfl
      rw [e5]
      clear e5 hqb CB CP B3 H3 z1 hl3 H4 B4 y1
      generalize W4.alloc (.cells (rpC r) 45) = W5 at B5 Q5 H5 ⊢
      have H6 := H5.out.setR r HRB.out
      have HT := hide H5.out.box.there
      go_upto_region 17 with (first
        | (refine wpList_load_row rfl 45 (.tmp 6) rfl qb rfl 45 (rpC r) (0, 0) _ Q5.out Tryd.underlying45 rfl (by kernel_rfl) ?_)
        | (refine wpList_store_mid rfl 45 (.tmp 111) (.tmp 109) rfl rb 3 (rpC r) rfl rfl HT.out (by kernel_rfl) (by simp [rpC, Value.oneCell']) ?_))
      have K6 : Hid (Kept (fun k => k = rb) W2 (W5.setCells rb 3 (rpC r).toList)) := (Kept.ofBelow (P := fun k => k = rb) B5.out).trans H6.2
      have H6 := H6.1
      clear HT Q5 H5 B5
      generalize W5.setCells rb 3 (rpC r).toList = W6 at H6 K6 ⊢
      have M6 : Hid (∀ k, MineD rb vl (.slice a2 L.length k2) (.slice none 0 0) P k → MineD rb vl (.slice a2 L.length k2) vb P k) := by
        rintro k (e | e | e | e | e)
        · exact .inl e
        · exact .inr (.inl e)
        · exact .inr (.inr (.inl e))
        · cases e
        · exact .inr (.inr (.inr (.inr e)))
      by_cases hneg : z < 0
      · have HE2 := hide (HE.out.trans (if_pos hneg))
        have CD := hide (done_any W6 rb vl (.slice a2 L.length k2) (.slice none 0 0) P _ H6 hP hln (by show r.body.length ≤ _; rw [HRB.out]; exact Nat.zero_le _))
        clear HE H6
        go_wp2_with (go_at_call 42; refine CD.out.mono ?_; rintro e w7 ⟨rfl, wd⟩; have WD := hide wd; clear wd)
        refine bodyPost_ret (results_none rfl _ _ _) rfl ?_
        exact ⟨rfl, by rw [HE2.out]; exact WentD.trans K2.out N2.out (WentD.trans (K6.out.mono (fun _ _ e => .inl e)) (fun k hk => .inl (M6.out k hk)) WD.out)⟩
      · have HE2 := hide (HE.out.trans (if_neg hneg))
        have HS := hide (H6.setBody (z + 2))
        have v2 := H6.box.cell.2.2.1
        have v8 := H6.box.cell.2.2.2.2.1
        have g2 := H6.box.free 2
        have g8 := H6.box.free 8
        have gl := H6.box.lt
        clear HE H6
        go_wp2_with fail
        go_end0
        refine ⟨rfl, ?_⟩
        rw [HE2.out]
        exact WentD.trans K2.out N2.out ⟨_, _, _, _, HS.out, (K6.out.trans ((keptR W6 rb 2 (.bool true)).trans (keptR _ rb 8 (.int .i64 (z + 2))))).mono (fun _ _ e => .inl e), fun k hk => .inl (M6.out k hk)⟩
end Go.Proofs.YtomgnailgddchaaDoor
