/-
  The walk of ScriptReads.
-/
import Derived.Test.YteaccpolmmkclaaDoorRdK
import Derived.Test.YteaccpolmmkclaaDoorSpW
namespace Go.Proofs.YteaccpolmmkclaaDoor
open Go.RowKit

theorem pbox_cells {w : World} {n : Nat} {z : Pl} (h : w.heap[n]? = some (.cells (plBox z) 31 (0, 0))) : w.cell? ⟨n, 0, none⟩ = some (.int .i64 z.j) ∧ w.cell? ⟨n, 1, none⟩ = some (.int .i64 z.s) ∧ w.cell? ⟨n, 2, none⟩ = some (.int .i64 z.q) ∧ w.cell? ⟨n, 3, none⟩ = some z.sv := by
  simp [World.cell?, h, plBox]
theorem rs_start {W w1 : World} (hb : Below W.heap.size W w1) : RS W (w1.alloc (.cells #[.slice none 0 0, .slice none 0 0] 26)) (w1.heap.size + 1) w1.heap.size [] [] :=
  ⟨hb.trans ((Below.refl _ w1).alloc hb.size _ |>.mono (Nat.le_refl _)), heap_alloc_new w1 _, fun z hz => by simp at hz, al_nil _ _, hb.size, by have := hb.size; omega, by simp⟩
theorem spq_app {P Q : List Pl} {g : Nat} (h : SpQ (skel (P ++ Q)) g) : SpQ (skel P) g ∨ SpQ (skel Q) g := by
  obtain ⟨i, x, hx, h2⟩ := h
  have e : skel (P ++ Q) = skel P ++ skel Q := by simp [skel]
  rw [e] at hx
  by_cases hi : i < (skel P).length
  · rw [List.getElem?_append_left hi] at hx
    exact .inl ⟨i, x, hx, h2⟩
  · rw [List.getElem?_append_right (by omega)] at hx
    exact .inr ⟨_, x, hx, h2⟩
theorem spq_low {w : World} {B : Nat} {P : List Pl} (h : ∀ (i : Nat) y, P[i]? = some y → StepsAt w B y.sv y.l) {g : Nat} (hg : SpQ (skel P) g) : B ≤ g := by
  obtain ⟨i, x, hx, h2⟩ := hg
  unfold skel at hx
  rw [List.getElem?_map] at hx
  cases hy : P[i]? with
  | none => rw [hy] at hx; simp at hx
  | some y =>
    rw [hy] at hx
    simp at hx
    subst hx
    have hs := h i y hy
    rcases h2 with e | ⟨m, a, ha, e⟩
    · exact (hs.1.lt g e).1
    · rw [List.getElem?_map] at ha
      cases hq : y.l[m]? with
      | none => rw [hq] at ha; simp at ha
      | some q =>
        rw [hq] at ha
        simp at ha
        subst ha
        have hst := hs.2 q (List.mem_of_getElem? hq)
        rcases e with e | e
        · exact (hst.1.lt g e).1
        · exact (hst.2.lt g e).1
theorem StepsAt.keptSep {Q : Nat → Prop} {w w' w8 : World} {B : Nat} {sv : Value} {l : List Sq} (h : StepsAt w B sv l) (h8 : StepsAt w8 B sv l) (hk : Kept Q w w') (hQ : ∀ g, Q g → g < B ∨ w8.heap.size ≤ g) : StepsAt w' B sv l := by
  refine h.kept hk (fun g hg hp => ?_) (fun q hq => ⟨fun g hg hp => ?_, fun g hg hp => ?_⟩)
  · have := h8.1.lt g hg; have := hQ g hp; omega
  · have := (h8.2 q hq).1.lt g hg; have := hQ g hp; omega
  · have := (h8.2 q hq).2.lt g hg; have := hQ g hp; omega
/-- How the plays that were read go with what is told. -/
theorem few_of {t : Tx} {l : List Sq} (h : l.map (·.p) = (parseP t).1.steps) : l.length ≤ 4000 ∧ ∀ q ∈ l, q.p.data.length ≤ 2147483647 ∧ q.p.keep.length ≤ 2147483647 := by
  have hs := parse_small t
  refine ⟨by have := congrArg List.length h; simp at this; have := hs.1; omega, fun q hq => ?_⟩
  have := hs.2 q.p (by rw [← h]; exact List.mem_map.2 ⟨q, hq, rfl⟩)
  omega
theorem small_of {t : Tx} {l : List Sq} (h : l.map (·.p) = (parseP t).1.steps) : SmallP l := ⟨by have := (few_of h).1; omega, (few_of h).2⟩
theorem KS.keepIt {W w w8 : World} {B B3 hb : Nat} {ov wv : Value} {O Wn P D : List Pl} {bx : List (Nat × Pl)} (h : KS W w w8 B B3 hb ov wv O Wn P bx D) {t : Tx} {j s q : Int} {a a' : Option Addr} {L c c' : Nat} {l l' : List Sq} {i : Nat} (hO : O.length ≤ 1000) (hW : Wn.length ≤ 1000)
    (hp : P[i]? = some ⟨j, s, q, .slice a L c, l⟩) (hd : (⟨j, s, q, .slice a' L c', l'⟩ : Pl) ∈ D) (h1 : l.map (·.p) = (parseP t).1.steps) (h2 : l'.map (·.p) = (parseP t).1.steps) (hL : L = l.length) :
    Calls Tryd.prog 7 #[.pointer (some ⟨hb, 0, none⟩), .agg #[.int .i64 j, .int .i64 s, .int .i64 q, .slice a L c], .agg #[.int .i64 j, .int .i64 s, .int .i64 q, .slice a' L c']] w fun e w' => e = .returned (.bool true) ∧ ∃ ov' wv' owv o, KS W w' w8 B B3 hb ov' wv' (O ++ [⟨j, s, q, .slice a L c, l⟩]) (Wn ++ [⟨j, s, q, owv, o⟩]) P bx D ∧ o.map (·.p) = (parseP t).1.steps := by
  subst hL
  have sa := h.al.st i _ (by rw [List.getElem?_append_left (List.getElem?_eq_some_iff.1 hp).1]; exact hp)
  have sd := (h.dc _ hd).1
  refine (bkeep_any w w8.heap.size hb ov wv O Wn h.bk h.hz hO hW j s q a a' c c' l l' B B3 sa sd (h1.trans h2.symm) (small_of h2) (few_of h1).1).mono ?_
  intro e w' hk
  obtain ⟨he, ov', wv', owv, o, hks, hm⟩ := h.keep hk
  exact ⟨he, ov', wv', owv, o, hks, hm.trans h1⟩
theorem KS.cells {W w w8 : World} {B B3 hb : Nat} {ov wv : Value} {O Wn P D : List Pl} {bx : List (Nat × Pl)} (h : KS W w w8 B B3 hb ov wv O Wn P bx D) {n : Nat} {j s q : Int} {v : Value} {l : List Sq} (hz : (n, (⟨j, s, q, v, l⟩ : Pl)) ∈ bx) : w.cell? ⟨n, 0, none⟩ = some (.int .i64 j) ∧ w.cell? ⟨n, 1, none⟩ = some (.int .i64 s) ∧ w.cell? ⟨n, 2, none⟩ = some (.int .i64 q) ∧ w.cell? ⟨n, 3, none⟩ = some v := pbox_cells (h.box _ hz).1
end Go.Proofs.YteaccpolmmkclaaDoor
namespace Go.Proofs.YteaccpolmmkclaaDoor.scriptReads
open Go.RowKit

set_option maxHeartbeats 16000000 in
set_option maxRecDepth 1000000 in
theorem walk (x0 x1 : ByteArray) (W : World) (_ : x0.size ≤ maxLen) (_ : x1.size ≤ maxLen) (T : Tabs W) (h6 : 6 ≤ W.heap.size) :
    Calls Tryd.prog 3 #[.string x0, .string x1] W fun e w' => e = .returned (.bool true) ∧ Below W.heap.size W w' := by
  have CS := hide (shown_any W T h6)
  have HT := hide T
  clear T
  obtain ⟨pj, hpj⟩ : ∃ n, (parseP x0.data.toList).1.j = n := ⟨_, rfl⟩
  obtain ⟨ps, hps⟩ : ∃ n, (parseP x0.data.toList).1.s = n := ⟨_, rfl⟩
  obtain ⟨pq, hpq⟩ : ∃ n, (parseP x0.data.toList).1.q = n := ⟨_, rfl⟩
  obtain ⟨pl, hpl⟩ : ∃ n, (parseP x0.data.toList).2.1 = n := ⟨_, rfl⟩
  obtain ⟨pe, hpe⟩ : ∃ n, (parseP x0.data.toList).2.2 = n := ⟨_, rfl⟩
  have Hp := hide (And.intro hpj (And.intro hps (And.intro hpq (And.intro hpl hpe))))
  clear hpj hps hpq hpl hpe
  obtain ⟨Lp, hLp⟩ : ∃ n, n = (parseP x0.data.toList).1.steps.length := ⟨_, rfl⟩
  have HLp := hide hLp
  clear hLp
  obtain ⟨qj, hqj⟩ : ∃ n, (parseP x1.data.toList).1.j = n := ⟨_, rfl⟩
  obtain ⟨qs, hqs⟩ : ∃ n, (parseP x1.data.toList).1.s = n := ⟨_, rfl⟩
  obtain ⟨qq, hqq⟩ : ∃ n, (parseP x1.data.toList).1.q = n := ⟨_, rfl⟩
  obtain ⟨ql, hql⟩ : ∃ n, (parseP x1.data.toList).2.1 = n := ⟨_, rfl⟩
  obtain ⟨qe, hqe⟩ : ∃ n, (parseP x1.data.toList).2.2 = n := ⟨_, rfl⟩
  have Hq := hide (And.intro hqj (And.intro hqs (And.intro hqq (And.intro hql hqe))))
  clear hqj hqs hqq hql hqe
  obtain ⟨Lq, hLq⟩ : ∃ n, n = (parseP x1.data.toList).1.steps.length := ⟨_, rfl⟩
  have HLq := hide hLq
  clear hLq
  go_enter Tryd.func3, Tryd.ntmps3
  go_wp2_with fail
  refine CS.out.mono ?_
  rintro e w1 ⟨rfl, b1⟩
  have R0 := hide (rs_start b1)
  obtain ⟨hb, hhb⟩ : ∃ n, n = w1.heap.size := ⟨_, rfl⟩
  clear b1 CS
  go_upto_region 3 with fail
  rw [← hhb] at R0 ⊢
  generalize w1.alloc (.cells #[.slice none 0 0, .slice none 0 0] 26) = v0 at R0 ⊢
  obtain ⟨B, hB⟩ : ∃ n, n = hb + 1 := ⟨_, rfl⟩
  rw [← hB] at R0
  clear hhb hB
  go_wp2_with fail
  refine (parse_any19A v0 x0 (HT.out.below R0.out.low) (by have := R0.out.low.size; omega)).mono ?_
  rintro e wa ⟨ba, sva, la, hea, hsa, hma, haa⟩
  obtain ⟨aa, ca, hva⟩ := hsa.form
  have hla : la.length = Lp := by have := congrArg List.length hma; rw [List.length_map] at this; rw [HLp.out]; exact this
  rw [hla] at hva
  subst hva
  rw [Hp.out.1, Hp.out.2.1, Hp.out.2.2.1, Hp.out.2.2.2.1, Hp.out.2.2.2.2] at hea
  subst hea
  have Ra := hide ((R0.out.addPlay (z := (⟨pj, ps, pq, .slice aa Lp ca, la⟩ : Pl)) ba hsa haa).addBox (⟨pj, ps, pq, .slice aa Lp ca, la⟩ : Pl))
  have HMa := hide (And.intro hma hla)
  obtain ⟨na, hna⟩ : ∃ n, n = wa.heap.size := ⟨_, rfl⟩
  clear ba hsa hma hla haa
  go_upto_region 4 with fail
  rw [← hna] at Ra ⊢
  obtain ⟨va, hva⟩ : ∃ v, v = wa.alloc (.cells #[.int .i64 pj, .int .i64 ps, .int .i64 pq, .slice aa Lp ca] 31) := ⟨_, rfl⟩
  rw [show wa.alloc (.cells (plBox (⟨pj, ps, pq, .slice aa Lp ca, la⟩ : Pl)) 31) = va from hva.symm] at Ra
  rw [← hva]
  clear hva hna
  go_wp2_with fail
  refine (parse_any19A va x1 (HT.out.below Ra.out.low) (by have := Ra.out.low.size; omega)).mono ?_
  rintro e wb ⟨bb, svb, lb, heb, hsb, hmb, hab⟩
  obtain ⟨ab, cb, hvb⟩ := hsb.form
  have hlb : lb.length = Lq := by have := congrArg List.length hmb; rw [List.length_map] at this; rw [HLq.out]; exact this
  rw [hlb] at hvb
  subst hvb
  rw [Hq.out.1, Hq.out.2.1, Hq.out.2.2.1, Hq.out.2.2.2.1, Hq.out.2.2.2.2] at heb
  subst heb
  have Rb := hide ((Ra.out.addPlay (z := (⟨qj, qs, qq, .slice ab Lq cb, lb⟩ : Pl)) bb hsb hab).addBox (⟨qj, qs, qq, .slice ab Lq cb, lb⟩ : Pl))
  have HMb := hide (And.intro hmb hlb)
  obtain ⟨nb, hnb⟩ : ∃ n, n = wb.heap.size := ⟨_, rfl⟩
  clear bb hsb hmb hlb hab
  go_upto_region 5 with fail
  rw [← hnb] at Rb ⊢
  obtain ⟨vb, hvb⟩ : ∃ v, v = wb.alloc (.cells #[.int .i64 qj, .int .i64 qs, .int .i64 qq, .slice ab Lq cb] 31) := ⟨_, rfl⟩
  rw [show wb.alloc (.cells (plBox (⟨qj, qs, qq, .slice ab Lq cb, lb⟩ : Pl)) 31) = vb from hvb.symm] at Rb
  rw [← hvb]
  clear hvb hnb
  go_wp2_with fail
  refine (parse_any19A vb x0 (HT.out.below Rb.out.low) (by have := Rb.out.low.size; omega)).mono ?_
  rintro e wc ⟨bc, svc, lc, hec, hsc, hmc, hac⟩
  obtain ⟨ac, cc, hvc⟩ := hsc.form
  have hlc : lc.length = Lp := by have := congrArg List.length hmc; rw [List.length_map] at this; rw [HLp.out]; exact this
  rw [hlc] at hvc
  subst hvc
  rw [Hp.out.1, Hp.out.2.1, Hp.out.2.2.1, Hp.out.2.2.2.1, Hp.out.2.2.2.2] at hec
  subst hec
  have Rc := hide ((Rb.out.addPlay (z := (⟨pj, ps, pq, .slice ac Lp cc, lc⟩ : Pl)) bc hsc hac).addBox (⟨pj, ps, pq, .slice ac Lp cc, lc⟩ : Pl))
  have HMc := hide (And.intro hmc hlc)
  obtain ⟨nc, hnc⟩ : ∃ n, n = wc.heap.size := ⟨_, rfl⟩
  clear bc hsc hmc hlc hac
  go_upto_region 6 with fail
  rw [← hnc] at Rc ⊢
  obtain ⟨vc, hvc⟩ : ∃ v, v = wc.alloc (.cells #[.int .i64 pj, .int .i64 ps, .int .i64 pq, .slice ac Lp cc] 31) := ⟨_, rfl⟩
  rw [show wc.alloc (.cells (plBox (⟨pj, ps, pq, .slice ac Lp cc, lc⟩ : Pl)) 31) = vc from hvc.symm] at Rc
  rw [← hvc]
  clear hvc hnc
  go_wp2_with fail
  refine (refParse19A x0 vc).mono ?_
  rintro e wx ⟨bx, svx, lx, hex, hsx, hmx⟩
  obtain ⟨ax, cx, hvx⟩ := hsx.form
  have hlx : lx.length = Lp := by have := congrArg List.length hmx; rw [List.length_map] at this; rw [HLp.out]; exact this
  rw [hlx] at hvx
  subst hvx
  rw [Hp.out.1, Hp.out.2.1, Hp.out.2.2.1, Hp.out.2.2.2.1, Hp.out.2.2.2.2] at hex
  subst hex
  have Rx := hide ((Rc.out.later bx).addBox (⟨pj, ps, pq, .slice ax Lp cx, lx⟩ : Pl))
  have HMx := hide (And.intro hmx hlx)
  obtain ⟨nx, hnx⟩ : ∃ n, n = wx.heap.size := ⟨_, rfl⟩
  have hbxx : Below wx.heap.size wx (wx.alloc (.cells (plBox (⟨pj, ps, pq, .slice ax Lp cx, lx⟩ : Pl)) 31)) := (Below.refl _ _).alloc (Nat.le_refl _) _
  have HSx := hide (hsx.later hbxx)
  clear hbxx
  have hzbx : vc.heap.size ≤ wx.heap.size := bx.size
  clear bx hsx hmx hlx
  go_upto_region 7 with fail
  rw [← hnx] at Rx ⊢
  have hszx : (wx.alloc (.cells #[.int .i64 pj, .int .i64 ps, .int .i64 pq, .slice ax Lp cx] 31)).heap.size = wx.heap.size + 1 := by simp
  have hzvx : vc.heap.size ≤ (wx.alloc (.cells #[.int .i64 pj, .int .i64 ps, .int .i64 pq, .slice ax Lp cx] 31)).heap.size := by omega
  clear hszx hzbx
  obtain ⟨vx, hvx⟩ : ∃ v, v = wx.alloc (.cells #[.int .i64 pj, .int .i64 ps, .int .i64 pq, .slice ax Lp cx] 31) := ⟨_, rfl⟩
  rw [show wx.alloc (.cells (plBox (⟨pj, ps, pq, .slice ax Lp cx, lx⟩ : Pl)) 31) = vx from hvx.symm] at Rx HSx
  rw [← hvx] at hzvx ⊢
  clear hvx hnx
  go_wp2_with fail
  refine (refParse19A x1 vx).mono ?_
  rintro e wz ⟨bz, svz, lz, hez, hsz, hmz⟩
  obtain ⟨az, cz, hvz⟩ := hsz.form
  have hlz : lz.length = Lq := by have := congrArg List.length hmz; rw [List.length_map] at this; rw [HLq.out]; exact this
  rw [hlz] at hvz
  subst hvz
  rw [Hq.out.1, Hq.out.2.1, Hq.out.2.2.1, Hq.out.2.2.2.1, Hq.out.2.2.2.2] at hez
  subst hez
  have Ry := hide ((Rx.out.later bz).addBox (⟨qj, qs, qq, .slice az Lq cz, lz⟩ : Pl))
  have HMz := hide (And.intro hmz hlz)
  obtain ⟨nz, hnz⟩ : ∃ n, n = wz.heap.size := ⟨_, rfl⟩
  have hbxz : Below wz.heap.size wz (wz.alloc (.cells (plBox (⟨qj, qs, qq, .slice az Lq cz, lz⟩ : Pl)) 31)) := (Below.refl _ _).alloc (Nat.le_refl _) _
  have HSz := hide (hsz.later hbxz)
  have HSxz := hide ((HSx.out.later bz).later hbxz)
  clear hbxz
  have hzbz : vx.heap.size ≤ wz.heap.size := bz.size
  clear bz hsz hmz hlz
  go_upto_region 8 with fail
  rw [← hnz] at Ry ⊢
  have hszz : (wz.alloc (.cells #[.int .i64 qj, .int .i64 qs, .int .i64 qq, .slice az Lq cz] 31)).heap.size = wz.heap.size + 1 := by simp
  have hzvz : vx.heap.size ≤ (wz.alloc (.cells #[.int .i64 qj, .int .i64 qs, .int .i64 qq, .slice az Lq cz] 31)).heap.size := by omega
  clear hszz hzbz
  obtain ⟨vy, hvy⟩ : ∃ v, v = wz.alloc (.cells #[.int .i64 qj, .int .i64 qs, .int .i64 qq, .slice az Lq cz] 31) := ⟨_, rfl⟩
  rw [show wz.alloc (.cells (plBox (⟨qj, qs, qq, .slice az Lq cz, lz⟩ : Pl)) 31) = vy from hvy.symm] at Ry HSxz HSz
  rw [← hvy] at hzvz ⊢
  clear hvy hnz
  have K0 : Hid (KS W vy vy B vc.heap.size hb (.slice none 0 0) (.slice none 0 0) [] [] [(⟨pj, ps, pq, .slice aa Lp ca, la⟩ : Pl), ⟨qj, qs, qq, .slice ab Lq cb, lb⟩, ⟨pj, ps, pq, .slice ac Lp cc, lc⟩] [(na, (⟨pj, ps, pq, .slice aa Lp ca, la⟩ : Pl)), (nb, ⟨qj, qs, qq, .slice ab Lq cb, lb⟩), (nc, ⟨pj, ps, pq, .slice ac Lp cc, lc⟩), (nx, ⟨pj, ps, pq, .slice ax Lp cx, lx⟩), (nz, ⟨qj, qs, qq, .slice az Lq cz, lz⟩)] [(⟨pj, ps, pq, .slice ax Lp cx, lx⟩ : Pl), ⟨qj, qs, qq, .slice az Lq cz, lz⟩]) := by
    refine KS.start Ry.out (fun z hz => ?_) (fun g q => (Rc.out.al.sq q).2.1) (by omega)
    rcases List.mem_cons.1 hz with rfl | hz
    · exact HSxz.out
    · have : z = ⟨qj, qs, qq, .slice az Lq cz, lz⟩ := by simpa using hz
      subst this
      exact HSz.out.mono hzvx
  have hzv : Hid (vc.heap.size ≤ vy.heap.size) := Nat.le_trans hzvx hzvz
  clear Ry Rx Rc Rb Ra R0 HSxz HSz HSx hzvx hzvz
  obtain ⟨B3, hB3⟩ : ∃ n, n = vc.heap.size := ⟨_, rfl⟩
  rw [← hB3] at K0 hzv
  clear hB3
  obtain ⟨k0, k1, k2, k3⟩ := K0.out.cells (n := na) (j := pj) (s := ps) (q := pq) (v := .slice aa Lp ca) (l := la) (by simp)
  obtain ⟨d0, d1, d2, d3⟩ := K0.out.cells (n := nx) (j := pj) (s := ps) (q := pq) (v := .slice ax Lp cx) (l := lx) (by simp)
  have CK := hide (K0.out.keepIt (t := x0.data.toList) (i := 0) (j := pj) (s := ps) (q := pq) (a := aa) (L := Lp) (c := ca) (l := la) (by simp) (by simp) rfl (by simp) HMa.out.1 HMx.out.1 HMa.out.2.symm (a' := ax) (c' := cx) (l' := lx))
  go_wp2_with fail
  refine CK.out.mono ?_
  rintro e u1 ⟨rfl, ov1, wv1, owv1, o1, hk1, hmo1⟩
  have K1 := hide hk1
  have HO1 := hide hmo1
  clear CK k0 k1 k2 k3 d0 d1 d2 d3 hk1 hmo1 K0
  obtain ⟨k0, k1, k2, k3⟩ := K1.out.cells (n := nb) (j := qj) (s := qs) (q := qq) (v := .slice ab Lq cb) (l := lb) (by simp)
  obtain ⟨d0, d1, d2, d3⟩ := K1.out.cells (n := nz) (j := qj) (s := qs) (q := qq) (v := .slice az Lq cz) (l := lz) (by simp)
  have CK := hide (K1.out.keepIt (t := x1.data.toList) (i := 1) (j := qj) (s := qs) (q := qq) (a := ab) (L := Lq) (c := cb) (l := lb) (by simp) (by simp) rfl (by simp) HMb.out.1 HMz.out.1 HMb.out.2.symm (a' := az) (c' := cz) (l' := lz))
  go_wp2_with fail
  refine CK.out.mono ?_
  rintro e u2 ⟨rfl, ov2, wv2, owv2, o2, hk2, hmo2⟩
  have K2 := hide hk2
  have HO2 := hide hmo2
  clear CK k0 k1 k2 k3 d0 d1 d2 d3 hk2 hmo2 K1
  obtain ⟨k0, k1, k2, k3⟩ := K2.out.cells (n := nc) (j := pj) (s := ps) (q := pq) (v := .slice ac Lp cc) (l := lc) (by simp)
  obtain ⟨d0, d1, d2, d3⟩ := K2.out.cells (n := nx) (j := pj) (s := ps) (q := pq) (v := .slice ax Lp cx) (l := lx) (by simp)
  have CK := hide (K2.out.keepIt (t := x0.data.toList) (i := 2) (j := pj) (s := ps) (q := pq) (a := ac) (L := Lp) (c := cc) (l := lc) (by simp) (by simp) rfl (by simp) HMc.out.1 HMx.out.1 HMc.out.2.symm (a' := ax) (c' := cx) (l' := lx))
  go_wp2_with fail
  refine CK.out.mono ?_
  rintro e u3 ⟨rfl, ov3, wv3, owv3, o3, hk3, hmo3⟩
  have K3 := hide hk3
  have HO3 := hide hmo3
  clear CK k0 k1 k2 k3 d0 d1 d2 d3 hk3 hmo3 K2
  have K3' : Hid (KS W u3 vy B B3 hb ov3 wv3 [(⟨pj, ps, pq, .slice aa Lp ca, la⟩ : Pl), ⟨qj, qs, qq, .slice ab Lq cb, lb⟩, ⟨pj, ps, pq, .slice ac Lp cc, lc⟩] [⟨pj, ps, pq, owv1, o1⟩, ⟨qj, qs, qq, owv2, o2⟩, ⟨pj, ps, pq, owv3, o3⟩] [(⟨pj, ps, pq, .slice aa Lp ca, la⟩ : Pl), ⟨qj, qs, qq, .slice ab Lq cb, lb⟩, ⟨pj, ps, pq, .slice ac Lp cc, lc⟩] [(na, (⟨pj, ps, pq, .slice aa Lp ca, la⟩ : Pl)), (nb, ⟨qj, qs, qq, .slice ab Lq cb, lb⟩), (nc, ⟨pj, ps, pq, .slice ac Lp cc, lc⟩), (nx, ⟨pj, ps, pq, .slice ax Lp cx, lx⟩), (nz, ⟨qj, qs, qq, .slice az Lq cz, lz⟩)] [(⟨pj, ps, pq, .slice ax Lp cx, lx⟩ : Pl), ⟨qj, qs, qq, .slice az Lq cz, lz⟩]) := K3.out
  clear K3
  have AG : Hid (AgP [(⟨pj, ps, pq, .slice aa Lp ca, la⟩ : Pl), ⟨qj, qs, qq, .slice ab Lq cb, lb⟩, ⟨pj, ps, pq, .slice ac Lp cc, lc⟩] [⟨pj, ps, pq, owv1, o1⟩, ⟨qj, qs, qq, owv2, o2⟩, ⟨pj, ps, pq, owv3, o3⟩]) := by
    refine ⟨rfl, fun i x y hx hy => ?_, fun i x hx => ?_⟩
    · match i with
      | 0 => simp at hx hy; subst hx hy; exact ⟨rfl, rfl, rfl, HMa.out.1.trans HO1.out.symm⟩
      | 1 => simp at hx hy; subst hx hy; exact ⟨rfl, rfl, rfl, HMb.out.1.trans HO2.out.symm⟩
      | 2 => simp at hx hy; subst hx hy; exact ⟨rfl, rfl, rfl, HMc.out.1.trans HO3.out.symm⟩
      | i + 3 => simp at hx
    · match i with
      | 0 => simp at hx; subst hx; exact few_of HMa.out.1
      | 1 => simp at hx; subst hx; exact few_of HMb.out.1
      | 2 => simp at hx; subst hx; exact few_of HMc.out.1
      | i + 3 => simp at hx
  have CP := hide (spoil_any u3 B vy.heap.size hb ov3 wv3 [(⟨pj, ps, pq, .slice aa Lp ca, la⟩ : Pl), ⟨qj, qs, qq, .slice ab Lq cb, lb⟩, ⟨pj, ps, pq, .slice ac Lp cc, lc⟩] [⟨pj, ps, pq, owv1, o1⟩, ⟨qj, qs, qq, owv2, o2⟩, ⟨pj, ps, pq, owv3, o3⟩] _ ⟨K3'.out.bk, K3'.out.al, AG.out, rfl, Kept.refl _ _⟩ (by simp) K3'.out.hBz)
  go_wp2_with fail
  refine CP.out.mono ?_
  rintro e u4 ⟨rfl, k4⟩
  have sq4 : ∀ g, SpQ (skel ([(⟨pj, ps, pq, .slice aa Lp ca, la⟩ : Pl), ⟨qj, qs, qq, .slice ab Lq cb, lb⟩, ⟨pj, ps, pq, .slice ac Lp cc, lc⟩] ++ [⟨pj, ps, pq, owv1, o1⟩, ⟨qj, qs, qq, owv2, o2⟩, ⟨pj, ps, pq, owv3, o3⟩])) g → g < B3 ∨ vy.heap.size ≤ g := fun g q => (spq_app q).imp (fun q => K3'.out.pl g q) (fun q => spq_low K3'.out.wn q)
  have LW : Hid (Below W.heap.size W u4) := K3'.out.low.trans (k4.below K3'.out.low.size (fun g hg q => by have := (K3'.out.al.sq q).1; have := K3'.out.hBW; omega))
  have SX : Hid (StepsAt u4 B3 (.slice ax Lp cx) lx) := (K3'.out.dc ⟨pj, ps, pq, .slice ax Lp cx, lx⟩ (by simp)).1.keptSep (K3'.out.dc ⟨pj, ps, pq, .slice ax Lp cx, lx⟩ (by simp)).2 k4 sq4
  have BXX : Hid (u4.heap[nx]? = some (.cells (plBox ⟨pj, ps, pq, .slice ax Lp cx, lx⟩) 31 (0, 0))) := by
    have h1 := (K3'.out.box (nx, ⟨pj, ps, pq, .slice ax Lp cx, lx⟩) (by simp)).1
    refine (k4.block _ (Array.getElem?_eq_some_iff.1 h1).1 (fun q => ?_)).trans h1
    obtain ⟨_, _, c, t, hc, ht⟩ := K3'.out.al.sq q
    rw [h1] at hc
    simp only [Option.some.injEq, Obj.cells.injEq] at hc
    rw [← hc.2.1] at ht
    revert ht
    decide
  clear CP k4 sq4 K3' AG HO1 HO2 HO3
  go_wp2_with fail
  refine (parse_any19 u4 x0 (HT.out.below LW.out) (by have := LW.out.size; omega)).mono ?_
  rintro e u5 ⟨b5, svd, ld, hed, hsd, hmd⟩
  obtain ⟨ad, cd, hvd⟩ := hsd.form
  have hld : ld.length = Lp := by have := congrArg List.length hmd; rw [List.length_map] at this; rw [HLp.out]; exact this
  rw [hld] at hvd
  subst hvd
  rw [Hp.out.1, Hp.out.2.1, Hp.out.2.2.1, Hp.out.2.2.2.1, Hp.out.2.2.2.2] at hed
  subst hed
  have ba : Below u5.heap.size u5 (u5.alloc (.cells #[.int .i64 pj, .int .i64 ps, .int .i64 pq, .slice ad Lp cd] 31)) := (Below.refl _ _).alloc (Nat.le_refl _) _
  have b6 := b5.trans (ba.mono b5.size)
  have CF := hide (same_same (u5.alloc (.cells #[.int .i64 pj, .int .i64 ps, .int .i64 pq, .slice ad Lp cd] 31)) pj ps pq (.slice ad Lp cd) (.slice ax Lp cx) ld lx (steps_in (hsd.later ba) (few_of hmd).1) (steps_in (SX.out.later b6) (few_of HMx.out.1).1) (hmd.trans HMx.out.1.symm))
  obtain ⟨d0, d1, d2, d3⟩ := pbox_cells ((b6.block _ (Array.getElem?_eq_some_iff.1 BXX.out).1).trans BXX.out)
  have LW6 := hide (LW.out.trans (b6.mono LW.out.size))
  clear b5 ba b6 hsd hmd hld BXX SX LW
  go_wp2_with fail
  refine CF.out.mono ?_
  rintro e u7 ⟨rfl, b7⟩
  have LW7 := hide (LW6.out.trans (b7.mono LW6.out.size))
  clear b7 CF d0 d1 d2 d3 LW6
  go_wp2_with fail
  go_ret
  exact ⟨rfl, LW7.out⟩
end Go.Proofs.YteaccpolmmkclaaDoor.scriptReads
