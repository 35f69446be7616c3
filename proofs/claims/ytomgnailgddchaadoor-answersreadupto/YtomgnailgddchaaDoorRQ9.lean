/-
  The walk of the document's one: a byte of a body comes.
-/
import Derived.Test.YtomgnailgddchaaDoorRQ8
namespace Go.Proofs.YtomgnailgddchaaDoor
open Go.RowKit Go.Sort

theorem keptR (W : World) (rb j : Nat) (v : Value) : Kept (fun k => k = rb) W (W.setCell ⟨rb, j, none⟩ v) := Kept.setCell _ W rb j v rfl
/-- The reader, when only its own block turned. -/
theorem RcAt.turn {w W : World} {rb : Nat} {vl vn vb : Value} {P : List PO} {d d' : Dc} (h : RcAt w rb vl vn vb P d) (hk : Kept (fun k => k = rb) w W) (hb : RcBox W rb vl vn d'.inB d'.r vb d'.left d'.cnt d'.bad) (e1 : d'.line = d.line) (e2 : d'.r.body = d.r.body) (e3 : d'.L = d.L) : RcAt W rb vl vn vb P d' := by
  have bytes : ∀ {v : Value} {l : List UInt8}, Own w 0 v l → Own W 0 v l := fun ho => rowKept ho hk (fun k hk e => h.box.ne ho (by decide) (by rw [hk, e]))
  refine ⟨hb, by rw [e1]; exact bytes h.line, by rw [e2]; exact bytes h.body, rowKept h.row hk (fun k hk e => h.box.ne h.row (by decide) (by rw [hk, e])), by rw [e3]; exact h.list, fun p hp => bytes (h.bodies p hp), h.apL, h.apB⟩
theorem RcAt.went {w W : World} {rb : Nat} {vl vn vb : Value} {P : List PO} {d' : Dc} (h : RcAt W rb vl vn vb P d') (hk : Kept (fun k => k = rb) w W) : WentD w rb (MineD rb vl vn vb P) d' W :=
  ⟨vl, vn, vb, P, h, hk.mono (fun _ _ e => .inl e), fun _ hk => .inl hk⟩
/-- Count and Left. -/
theorem RcAt.left {w : World} {rb : Nat} {vl vn vb : Value} {P : List PO} {d : Dc} (h : RcAt w rb vl vn vb P d) (n : Int) (hn : n = (d.cnt : Int) + 1) (z : Int) :
    RcAt ((w.setCell ⟨rb, 9, none⟩ (.int .i64 n)).setCell ⟨rb, 8, none⟩ (.int .i64 z)) rb vl vn vb P { d with cnt := d.cnt + 1, left := z } ∧ Kept (fun k => k = rb) w ((w.setCell ⟨rb, 9, none⟩ (.int .i64 n)).setCell ⟨rb, 8, none⟩ (.int .i64 z)) := by
  have K := (keptR w rb 9 (.int .i64 n)).trans (keptR _ rb 8 (.int .i64 z))
  refine ⟨h.turn K ?_ rfl rfl rfl, K⟩
  have b0 := h.box
  unfold RcBox at b0 ⊢
  have b1 := (set_cells b0 9 (.int .i64 n)).1
  rw [(set_cells b1 8 (.int .i64 z)).1, hn]
  simp
theorem RcAt.setBad {w : World} {rb : Nat} {vl vn vb : Value} {P : List PO} {d : Dc} (h : RcAt w rb vl vn vb P d) : RcAt (w.setCell ⟨rb, 10, none⟩ (.bool true)) rb vl vn vb P { d with bad := true } := by
  refine h.turn (keptR w rb 10 _) ?_ rfl rfl rfl
  have b0 := h.box
  unfold RcBox at b0 ⊢
  rw [(set_cells b0 10 (.bool true)).1]
  simp
/-- The body grows. -/
theorem RcAt.grow {w w2 : World} {rb : Nat} {vl vn vb v' : Value} {P : List PO} {d : Dc} {o : Obj} {c : UInt8} (h : RcAt w rb vl vn vb P d) (o2 : Own w2 0 v' (d.r.body ++ [c])) (hg : (w.alloc o).grownBy w2 vb.ownBlock) (hv : v'.ownBlock = vb.ownBlock ∨ v'.ownBlock = some (w.alloc o).heap.size) :
    RcBox w2 rb vl vn d.inB d.r vb d.left d.cnt d.bad ∧ RcAt (w2.setCell ⟨rb, 7, none⟩ v') rb vl vn v' P { d with r := { d.r with body := d.r.body ++ [c] } } ∧ Kept (MineD rb vl vn vb P) w (w2.setCell ⟨rb, 7, none⟩ v') ∧ ∀ k, MineD rb vl vn v' P k → MineD rb vl vn vb P k ∨ w.heap.size ≤ k := by
  have B1 : Below w.heap.size w (w.alloc o) := (Below.refl _ w).alloc (Nat.le_refl _) o
  have h1 := h.below B1
  have k2 : Kept (fun k => vb.ownBlock = some k) (w.alloc o) w2 := Kept.ofGrown hg (fun _ e => e)
  have b2 := h1.box.kept k2 (fun e => h1.box.ne h1.body (by decide) e)
  have k3 := keptR w2 rb 7 v'
  have KA : Kept (fun k => k = rb ∨ vb.ownBlock = some k) w (w2.setCell ⟨rb, 7, none⟩ v') := ((Kept.ofBelow (P := fun k => k = rb ∨ vb.ownBlock = some k) B1).step k2 (fun k _ e => .inr e)).step k3 (fun k _ e => .inl e)
  have hnew : ∀ k, v'.ownBlock = some k → vb.ownBlock = some k ∨ w.heap.size ≤ k := fun k hk => by
    rcases hv with e | e
    · exact .inl (e.symm.trans hk)
    · rw [e] at hk
      cases hk
      exact .inr B1.size
  refine ⟨b2, ⟨?_, ?_, ?_, ?_, h.list, ?_, ?_, ?_⟩, KA.mono (fun k _ e => ?_), ?_⟩
  · unfold RcBox at b2 ⊢
    rw [(set_cells b2 7 v').1]
    simp
  · refine rowKept h.line KA (fun k hk e => ?_)
    rcases e with rfl | e
    · exact h.box.ne h.line (by decide) hk
    · exact (h.apL k hk).1 e
  · exact rowKept o2 k3 (fun k hk e => b2.ne o2 (by decide) (by rw [hk, e]))
  · refine rowKept h.row KA (fun k hk e => ?_)
    rcases e with rfl | e
    · exact h.box.ne h.row (by decide) hk
    · exact rowNe h.row h.body (by decide) k hk e
  · intro p hp
    refine rowKept (h.bodies p hp) KA (fun k hk e => ?_)
    rcases e with rfl | e
    · exact h.box.ne (h.bodies p hp) (by decide) hk
    · exact h.apB k e p hp hk
  · intro k hk
    refine ⟨fun e => ?_, (h.apL k hk).2⟩
    rcases hnew k e with e | e
    · exact (h.apL k hk).1 e
    · have := h.lt k (.inr (.inr (.inl hk)))
      omega
  · intro k hk p hp e
    rcases hnew k hk with e1 | e1
    · exact h.apB k e1 p hp e
    · have := h.lt k (.inr (.inr (.inr (.inr ⟨p, hp, e⟩))))
      omega
  · rcases e with rfl | e
    · exact .inl rfl
    · exact .inr (.inr (.inr (.inl e)))
  · rintro k (rfl | hk | hk | hk | hk)
    · exact .inl (.inl rfl)
    · exact .inl (.inr (.inl hk))
    · exact .inl (.inr (.inr (.inl hk)))
    · rcases hnew k hk with e | e
      · exact .inl (.inr (.inr (.inr (.inl e))))
      · exact .inr e
    · exact .inl (.inr (.inr (.inr (.inr hk))))
/-- A byte in the newest block. -/
theorem one_byteD (w : World) (x : UInt8) : IsBytes (w.alloc (.cells #[.int .u8 (x.toNat : Int)] 5)) (some ⟨w.heap.size, 0, none⟩) 1 [x] := by
  refine ⟨by simp, by unfold maxLen; decide, .inr ⟨_, 0, rfl, by simp, fun j y hj => ?_⟩⟩
  have hj0 : j = 0 := by have := (List.getElem?_eq_some_iff.1 hj).1; simp at this; omega
  subst hj0
  simp only [List.getElem?_cons_zero, Option.some.injEq] at hj
  subst hj
  exact cells_at (heap_alloc_new w _) rfl

set_option maxHeartbeats 4000000 in
set_option maxRecDepth 1000000 in
theorem one_body (w : World) (rb : Nat) (vl vn vb : Value) (P : List PO) (d : Dc) (c : UInt8) (h : RcAt w rb vl vn vb P d) (hi : d.inB = true) (hP : P.length ≤ 1073741823) (hl : d.line.length ≤ 1099511627776) (hb : d.r.body.length ≤ 1099511627776) (hc : d.cnt ≤ 1099511627776) (h1 : -1099511627776 ≤ d.left) (h2 : d.left ≤ 1099511627776) :
    Calls Tryd.prog 35 #[.pointer (some ⟨rb, 0, none⟩), .int .u8 c.toNat] w fun e w' => e = .returned (.tuple #[]) ∧ WentD w rb (MineD rb vl vn vb P) (oneR d c) w' := by
  have HR := hide h
  obtain ⟨c0, c1, c2, c7, c8, c9, c10⟩ := h.box.cell
  rw [hi] at c2
  have hlt := h.box.lt
  have f8 := h.box.free 8
  have f9 := h.box.free 9
  have f10 := h.box.free 10
  have f7 := h.box.free 7
  have HL := hide (h.left ((d.cnt : Int) + 1) rfl (d.left - 1))
  obtain ⟨z, hz⟩ : ∃ z, z = d.left - 1 := ⟨_, rfl⟩
  have HO : Hid (oneR d c = if (z = 1 ∧ c ≠ 13) ∨ (z = 0 ∧ c ≠ 10) then { d with cnt := d.cnt + 1, left := z, bad := true } else if z = 0 then doneR { d with cnt := d.cnt + 1, left := z } else if 1 < z then { d with cnt := d.cnt + 1, left := z, r := { d.r with body := d.r.body ++ [c] } } else { d with cnt := d.cnt + 1, left := z }) := by
    show oneR d c = _
    unfold oneR
    rw [if_pos hi, hz]
  rw [← hz] at HL
  have HZ := hide hz
  have zb1 : -1099511627777 ≤ z := by omega
  have zb2 : z ≤ 1099511627776 := by omega
  have e13 : ((c.toNat : Int) != 13) = !(c == 13) := by
    by_cases q : c = 13
    · subst q; rfl
    · have : ¬ c.toNat = 13 := fun e => q (UInt8.toNat_inj.1 e)
      rw [show (c == 13) = false by simpa using q]
      show ((c.toNat : Int) != 13) = true
      rw [bne_iff_ne]
      omega
  have e10 : ((c.toNat : Int) != 10) = !(c == 10) := by
    by_cases q : c = 10
    · subst q; rfl
    · have : ¬ c.toNat = 10 := fun e => q (UInt8.toNat_inj.1 e)
      rw [show (c == 10) = false by simpa using q]
      show ((c.toNat : Int) != 10) = true
      rw [bne_iff_ne]
      omega
  have hle : d.left = z + 1 := by omega
  rw [hle] at c8
  clear h hz hi
  by_cases z1 : z = 1
  · subst z1
    clear c0 c1 c7
    by_cases q : c = 13
    · subst q
      have HE : Hid (oneR d 13 = { d with cnt := d.cnt + 1, left := 1 }) := by
        show oneR d 13 = _
        rw [HO.out, if_neg (by simp), if_neg (by decide), if_neg (by decide)]
      clear HO e13 e10
      go_enter Tryd.func35, Tryd.ntmps35
      go_wp2_with fail
      refine bodyPost_ret (results_none rfl _ _ _) rfl ?_
      exact ⟨rfl, by rw [HE.out]; exact HL.out.1.went HL.out.2⟩
    · have HE : Hid (oneR d c = { d with cnt := d.cnt + 1, left := 1, bad := true }) := by
        show oneR d c = _
        rw [HO.out, if_pos (.inl ⟨rfl, q⟩)]
      rw [show (c == 13) = false by simpa using q] at e13
      clear HO e10 q
      go_enter Tryd.func35, Tryd.ntmps35
      go_wp2_with fail
      refine bodyPost_ret (results_none rfl _ _ _) rfl ?_
      exact ⟨rfl, by rw [HE.out]; exact HL.out.1.setBad.went (HL.out.2.trans (keptR _ _ _ _))⟩
  · have z1b : (z == 1) = false := beq_eq_false_iff_ne.2 z1
    by_cases z0 : z = 0
    · subst z0
      by_cases q : c = 10
      · subst q
        have HE : Hid (oneR d 10 = doneR { d with cnt := d.cnt + 1, left := 0 }) := by
          show oneR d 10 = _
          rw [HO.out, if_neg (by simp), if_pos rfl]
        have CD : Hid (∀ W, RcAt W rb vl vn vb P { d with cnt := d.cnt + 1, left := 0 } → Calls Tryd.prog 42 #[.pointer (some ⟨rb, 0, none⟩)] W fun e w' => e = .returned (.tuple #[]) ∧ WentD W rb (MineD rb vl vn vb P) (doneR { d with cnt := d.cnt + 1, left := 0 }) w') := fun W hW => done_any W rb vl vn vb P _ hW hP hl hb
        clear HO e13 e10 c0 c1 c7
        go_enter Tryd.func35, Tryd.ntmps35
        go_wp2_with (go_at_call 42; refine (CD.out _ HL.out.1).mono ?_; rintro e w4 ⟨rfl, wd⟩; have WD := hide wd; clear wd)
        refine bodyPost_ret (results_none rfl _ _ _) rfl ?_
        exact ⟨rfl, by rw [HE.out]; exact WentD.trans (HL.out.2.mono (fun _ _ e => .inl e)) (fun _ hk => .inl hk) WD.out⟩
      · have HE : Hid (oneR d c = { d with cnt := d.cnt + 1, left := 0, bad := true }) := by
          show oneR d c = _
          rw [HO.out, if_pos (.inr ⟨rfl, q⟩)]
        rw [show (c == 10) = false by simpa using q] at e10
        clear HO e13 q c0 c1 c7
        go_enter Tryd.func35, Tryd.ntmps35
        go_wp2_with fail
        refine bodyPost_ret (results_none rfl _ _ _) rfl ?_
        exact ⟨rfl, by rw [HE.out]; exact HL.out.1.setBad.went (HL.out.2.trans (keptR _ _ _ _))⟩
    · have z0b : (z == 0) = false := beq_eq_false_iff_ne.2 z0
      by_cases zp : 1 < z
      · have HE : Hid (oneR d c = { d with cnt := d.cnt + 1, left := z, r := { d.r with body := d.r.body ++ [c] } }) := by
          show oneR d c = _
          rw [HO.out, if_neg (fun h => h.elim (fun h => z1 h.1) (fun h => z0 h.1)), if_neg z0, if_pos zp]
        obtain ⟨ab, cb, eb, _⟩ := HR.out.body.shape
        subst eb
        clear HO e13 e10 z1 z0 c0 c1
        go_enter Tryd.func35, Tryd.ntmps35
        go_upto_region 9 with fail
        have H1 := HL.out.1
        have K1 := hide HL.out.2
        clear HL
        generalize (w.setCell ⟨rb, 9, none⟩ (.int .i64 ((d.cnt : Int) + 1))).setCell ⟨rb, 8, none⟩ (.int .i64 z) = W1 at H1 K1 ⊢
        have HH := hide H1
        have OA := hide (H1.body.below ((Below.refl _ W1).alloc (Nat.le_refl _) (.cells #[.int .u8 (c.toNat : Int)] 5)))
        have y7 := H1.box.cell.2.2.2.1
        have g7 := H1.box.free 7
        have ylt := H1.box.lt
        clear H1 c2 c7 c8 c9 c10 f7 f8 f9 f10 hlt
        go_wp2_with (refine wpList_append8 rfl (.tmp 67) (.tmp 69) rfl 0 (.slice ab d.r.body.length cb) d.r.body rfl OA.out (some ⟨W1.heap.size, 0, none⟩) 1 [c] rfl (one_byteD W1 c) (by simp only [List.length_singleton]; omega) (Nat.zero_le _) ?_; intro v' w2 o2 gr _ hv _; have GG := hide (HH.out.grow o2 gr hv); obtain ⟨a2, k2, e2, _⟩ := o2.shape; obtain ⟨ln, hln⟩ : ∃ ln, ln = (d.r.body ++ [c]).length := ⟨_, rfl⟩; rw [← hln] at e2; subst e2; clear hln o2 gr hv; have x7 := GG.out.1.cell.2.2.2.1; have u7 := GG.out.1.free 7; have hlt2 := GG.out.1.lt)
        refine bodyPost_ret (results_none rfl _ _ _) rfl ?_
        exact ⟨rfl, by rw [HE.out]; exact ⟨_, _, _, _, GG.out.2.1, (K1.out.mono (fun _ _ e => .inl e)).trans GG.out.2.2.1, fun k hk => (GG.out.2.2.2 k hk).elim .inl (fun q => .inr (Nat.le_trans K1.out.size q))⟩⟩
      · have HE : Hid (oneR d c = { d with cnt := d.cnt + 1, left := z }) := by
          show oneR d c = _
          rw [HO.out, if_neg (fun h => h.elim (fun h => z1 h.1) (fun h => z0 h.1)), if_neg z0, if_neg zp]
        clear HO e13 e10 z1 z0 c0 c1 c7
        go_enter Tryd.func35, Tryd.ntmps35
        go_wp2_with fail
        refine bodyPost_ret (results_none rfl _ _ _) rfl ?_
        exact ⟨rfl, by rw [HE.out]; exact HL.out.1.went HL.out.2⟩
end Go.Proofs.YtomgnailgddchaaDoor
